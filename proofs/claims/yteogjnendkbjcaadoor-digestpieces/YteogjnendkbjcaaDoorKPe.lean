import Derived.Test.YteogjnendkbjcaaDoorKPc
/-
  keccak.State.rho: what the call does.
-/
namespace Go.Proofs.YteogjnendkbjcaaDoor
open Go.RowKit
set_option linter.unusedVariables false

def Drh (k i : Nat) : Bool := decide (i < k)
theorem lrh_at (l : List Nat) {k : Nat} (hk : k < 25) : (lrh l).getD k 0 = lrot (koff.getD k 0) (l.getD k 0) := by unfold lrh; rw [lane_getD _ hk]

set_option maxRecDepth 20000 in
set_option maxHeartbeats 1000000 in
theorem rho_c (l : List Nat) (w : World) (hl : Lanes l) (hG : GlobK w) :
    Calls Tryd.prog 29 #[st l] w fun e w' => e = .returned (st (lrh l)) ∧ Below w.heap.size w w' := by
  obtain ⟨h1, h2, h4⟩ := boot2 w hl
  have R0 := hid (show PRel w w.heap.size (w.heap.size + 1) (w.heap.size + 1) 31 l0 l (lrh l) (Drh 0) _ from ⟨⟨l, hl.len, h1, fun i _ => by rw [if_neg (by unfold Drh; simp)]⟩, h2, h2, h4⟩)
  have HL := hid hl
  have HG := hid hG
  have HLP := hid (fun (k : Nat) => @lrh_at l k)
  have HLL0 := hid (lrh_lanes l)
  have hlen := st_len hl
  obtain ⟨L, hL⟩ : ∃ L, L = lrh l := ⟨_, rfl⟩
  rw [← hL] at R0 HLP HLL0 ⊢
  have HLL := HLL0
  clear HLL0 h1 h2 h4 hl hL hG
  unfold oW zS at R0
  unfold st
  go_enter Tryd.func29, Tryd.ntmps29
  go_wp2
  clear hlen
  generalize ((w.alloc _).alloc _) = w0 at *
  go_loopw [4] (fun i wr => ∃ y : Nat, y ≤ 25 ∧ i = .int .i64 y ∧ PRel w w.heap.size (w.heap.size + 1) (w.heap.size + 1) 31 l0 l L (Drh y) wr) (fun i _ => 25 - (intOf i).toNat)
  case atStart => exact ⟨0, by omega, rfl, R0.out⟩
  case round =>
    clear R0
    obtain ⟨k, hk, rfl, hrel⟩ := hrel
    by_cases hlt : k < 25
    · have i2 : (k : Int) < 25 := by omega
      have i0 : (0 : Int) ≤ (k : Int) := by omega
      have c0 := hrel.at_ hlt (by unfold Drh; simp)
      have f0 := hrel.frozen k
      have c1 := (HG.out.up hrel.b).offs k hlt
      obtain ⟨o, ho⟩ : ∃ o, o = koff.getD k 0 := ⟨_, rfl⟩
      rw [← ho] at c1
      have ho64 : o < 64 := by rw [ho]; exact koff_lt k
      obtain ⟨u, hu⟩ : ∃ u, u = L.getD k 0 := ⟨_, rfl⟩
      have C1 : ∀ v, Calls Tryd.prog 39 #[.int .u64 (at64 l k), .int .i64 (o : Int)] v fun e w' => e = .returned (.int .u64 (u : Int)) ∧ v = w' := fun v => by
        rw [hu, HLP.out k hlt, ← ho]
        exact rot_c (l.getD k 0) o (HL.out.at_ k) ho64 v
      have HST := hid (hrel.step (D' := Drh (k + 1)) HLL.out (by omega) (by omega) (by omega) k hlt (u : Int) (by rw [hu]) (fun i hi => by
        unfold Drh
        rw [Bool.eq_iff_iff]
        simp only [Bool.or_eq_true, decide_eq_true_eq, beq_iff_eq]
        omega))
      clear hrel ho hu
      go_wp2
      go_region_with (go_at_call 39; with_reducible refine (C1 _).mono ?_; rintro e w' ⟨rfl, rfl⟩)
      all_goals go_wp2
      all_goals go_roundw
      all_goals first | exact ⟨k + 1, by omega, by go_num, HST.out.drew⟩ | (simp [intOf]; omega)
    · obtain rfl : k = 25 := by omega
      obtain ⟨e1, e2, e3⟩ := hrel.end_ HLL.out.len (fun i hi => by unfold Drh; simp; omega)
      clear hrel
      have HLen := hid (st_len HLL.out)
      have HSz := hid (st_size HLL.out)
      obtain ⟨hst, HR⟩ := st_stored HLL.out e2
      have hlenL : (cellsOf64 L).length = 25 := HLen
      have HO := hid e1.range
      have HB := hid e3
      clear e1 e2 e3
      go_wp2_with (with_reducible refine wpList_load_mid rfl 31 (.tmp 1) rfl w.heap.size 0 rfl (cellsOf64 L) _ HO.out Tryd.underlying31 rfl HSz.out ?_)
      refine bodyPost_ret (st_result HLL.out Tryd.results29 rfl HR) rfl ?_
      exact ⟨rfl, below_cells (by omega) _ _ _ HB.out⟩
end Go.Proofs.YteogjnendkbjcaaDoor
/-
  keccak.State.pi: what the call does.
-/
namespace Go.Proofs.YteogjnendkbjcaaDoor
open Go.RowKit
set_option linter.unusedVariables false

/-- Which words of pi are laid: behind y rows, and x of the next. -/
def Dpi (y x i : Nat) : Bool := decide (i % 5 < y ∨ (i % 5 = y ∧ (i % 5 + 3 * (i / 5)) % 5 < x))
theorem Dpi_step {x y j : Nat} (hx : x < 5) (hy : y < 5) (hj : j = y + 5 * ((2 * x + 3 * y) % 5)) (i : Nat) (hi : i < 25) : Dpi y (x + 1) i = (Dpi y x i || i == j) := by
  have key : ∀ x y : Fin 5, ∀ i : Fin 25, Dpi y.val (x.val + 1) i.val = (Dpi y.val x.val i.val || i.val == y.val + 5 * ((2 * x.val + 3 * y.val) % 5)) := by decide +kernel
  rw [hj]
  exact key ⟨x, hx⟩ ⟨y, hy⟩ ⟨i, hi⟩
theorem Dpi_turn (y i : Nat) (hi : i < 25) : Dpi (y + 1) 0 i = Dpi y 5 i := by
  unfold Dpi
  rw [Bool.eq_iff_iff]
  simp only [decide_eq_true_eq]
  omega
theorem lpi_at (l : List Nat) {x y j : Nat} (hx : x < 5) (hy : y < 5) (hj : j = y + 5 * ((2 * x + 3 * y) % 5)) : (lpi l).getD j 0 = l.getD (x + 5 * y) 0 := by
  unfold lpi
  rw [lane_getD _ (by omega)]
  show l.getD ((j % 5 + 3 * (j / 5)) % 5 + 5 * (j % 5)) 0 = _
  have key : ∀ x y : Fin 5, ((y.val + 5 * ((2 * x.val + 3 * y.val) % 5)) % 5 + 3 * ((y.val + 5 * ((2 * x.val + 3 * y.val) % 5)) / 5)) % 5 + 5 * ((y.val + 5 * ((2 * x.val + 3 * y.val) % 5)) % 5) = x.val + 5 * y.val := by decide +kernel
  rw [hj]
  exact congrArg (fun k => l.getD k 0) (key ⟨x, hx⟩ ⟨y, hy⟩)

set_option maxRecDepth 20000 in
set_option maxHeartbeats 1000000 in
theorem pi_c (l : List Nat) (w : World) (hl : Lanes l) :
    Calls Tryd.prog 30 #[st l] w fun e w' => e = .returned (st (lpi l)) ∧ Below w.heap.size w w' := by
  obtain ⟨h1, h2, h3, h4⟩ := boot3 w hl
  have R0 := hid (show PRel w (w.heap.size + 1 + 1) (w.heap.size + 1) w.heap.size 31 l l0 (lpi l) (Dpi 0 0) _ from ⟨⟨l0, rfl, h3, fun i _ => by rw [if_neg (by unfold Dpi; simp)]⟩, h2, h1, h4⟩)
  have HL := hid hl
  have HLP := hid (fun (x y j : Nat) => @lpi_at l x y j)
  have HLL0 := hid (lpi_lanes hl)
  have hlen := st_len hl
  obtain ⟨L, hL⟩ : ∃ L, L = lpi l := ⟨_, rfl⟩
  rw [← hL] at R0 HLP HLL0 ⊢
  have HLL := HLL0
  clear HLL0 h1 h2 h3 h4 hl hL
  unfold oW zS at R0
  unfold st
  go_enter Tryd.func30, Tryd.ntmps30
  go_wp2
  clear hlen
  generalize (((w.alloc _).alloc _).alloc _) = w0 at *
  go_loopw [6] (fun i wr => ∃ y : Nat, y ≤ 5 ∧ i = .int .i64 y ∧ PRel w (w.heap.size + 1 + 1) (w.heap.size + 1) w.heap.size 31 l l0 L (Dpi y 0) wr) (fun i _ => 5 - (intOf i).toNat)
  case atStart => exact ⟨0, by omega, rfl, R0.out⟩
  case round =>
    clear R0
    obtain ⟨y, hy, rfl, hrel⟩ := hrel
    by_cases hlt : y < 5
    · have i2 : (y : Int) < 5 := by omega
      have HR := hid hrel
      clear hrel
      go_wp2
      obtain ⟨w1, rfl⟩ : ∃ x, x = wr := ⟨wr, rfl⟩
      go_loopw [9] (fun i wr => ∃ x : Nat, x ≤ 5 ∧ i = .int .i64 x ∧ PRel w (w.heap.size + 1 + 1) (w.heap.size + 1) w.heap.size 31 l l0 L (Dpi y x) wr) (fun i _ => 5 - (intOf i).toNat)
      case atStart => exact ⟨0, by omega, rfl, HR.out⟩
      case round =>
        clear HR
        obtain ⟨x, hx, rfl, hrel⟩ := hrel
        by_cases hltx : x < 5
        · have j2 : (x : Int) < 5 := by omega
          obtain ⟨j, hj⟩ : ∃ j, j = y + 5 * ((2 * x + 3 * y) % 5) := ⟨_, rfl⟩
          obtain ⟨k, hk⟩ : ∃ k, k = x + 5 * y := ⟨_, rfl⟩
          have hj25 : j < 25 := by omega
          have hk25 : k < 25 := by omega
          have C1 : ∀ v, Calls Tryd.prog 40 #[.int .i64 (y : Int), .int .i64 (2 * (x : Int) + 3 * (y : Int))] v fun e w' => e = .returned (.int .i64 (j : Int)) ∧ v = w' := fun v => by
            have h := lane_c y (2 * x + 3 * y) (by omega) (by omega) v
            rw [show y % 5 + 5 * ((2 * x + 3 * y) % 5) = j by omega, show ((2 * x + 3 * y : Nat) : Int) = 2 * (x : Int) + 3 * (y : Int) by omega] at h
            exact h
          have C2 : ∀ v, Calls Tryd.prog 40 #[.int .i64 (x : Int), .int .i64 (y : Int)] v fun e w' => e = .returned (.int .i64 (k : Int)) ∧ v = w' := fun v => by
            have h := lane_c x y (by omega) (by omega) v
            rw [Nat.mod_eq_of_lt hltx, Nat.mod_eq_of_lt hlt, ← hk] at h
            exact h
          have c0 := hrel.s.cell (i := k) (by rw [HL.out.len]; exact hk25)
          obtain ⟨v0, c1⟩ := hrel.there hj25
          have f1 := hrel.frozen j
          have H31 := hid (hrel.step (D' := Dpi y (x + 1)) HLL.out (by omega) (by omega) (by omega) j hj25 (at64 l k) (by unfold at64; rw [HLP.out x y j hltx hlt hj, hk]) (fun i hi => Dpi_step hltx hlt hj i hi))
          have j4 : (j : Int) < 25 := by omega
          have j5 : (k : Int) < 25 := by omega
          clear hrel hj hk
          go_wp2_with (go_at_call 40; first | (with_reducible refine (C1 _).mono ?_; rintro e w' ⟨rfl, rfl⟩) | (with_reducible refine (C2 _).mono ?_; rintro e w' ⟨rfl, rfl⟩))
          go_roundw
          case rel => exact ⟨x + 1, by omega, by go_num, H31.out⟩
          case measure => simp [intOf]; omega
        · have j2 : decide ((x : Int) < 5) = false := by simp; omega
          have HR5 := hid (hrel.turn (D' := Dpi (y + 1) 0) (fun i hi => by rw [show x = 5 by omega]; exact Dpi_turn y i hi))
          clear hrel
          go_wp2
          go_roundw
          case rel => exact ⟨y + 1, by omega, by go_num, HR5.out⟩
          case measure => simp [intOf]; omega
    · obtain rfl : y = 5 := by omega
      obtain ⟨e1, e2, e3⟩ := hrel.end_ HLL.out.len (fun i hi => by unfold Dpi; simp; omega)
      clear hrel
      have HLen := hid (st_len HLL.out)
      have HSz := hid (st_size HLL.out)
      obtain ⟨hst, HR⟩ := st_stored HLL.out e2
      have hlenL : (cellsOf64 L).length = 25 := HLen
      have HO := hid e1.range
      have HB := hid e3
      clear e1 e2 e3
      go_wp2_with (with_reducible refine wpList_load_mid rfl 31 (.tmp 3) rfl (w.heap.size + 1 + 1) 0 rfl (cellsOf64 L) _ HO.out Tryd.underlying31 rfl HSz.out ?_)
      refine bodyPost_ret (st_result HLL.out Tryd.results30 rfl HR) rfl ?_
      exact ⟨rfl, below_cells (by omega) _ _ _ HB.out⟩
end Go.Proofs.YteogjnendkbjcaaDoor
