/-
  keccak.State.theta: what the call does.
-/
import Derived.Test.YteogjnendkbjcaaDoorKPc
namespace Go.Proofs.YteogjnendkbjcaaDoor
open Go.RowKit
set_option linter.unusedVariables false

def Dth (x y i : Nat) : Bool := decide (i % 5 < x ∨ (i % 5 = x ∧ i / 5 < y))
theorem Dth_step {x y : Nat} (hx : x < 5) (hy : y < 5) (i : Nat) (hi : i < 25) : Dth x (y + 1) i = (Dth x y i || i == x + 5 * y) := by
  unfold Dth
  rw [Bool.eq_iff_iff]
  simp only [Bool.or_eq_true, decide_eq_true_eq, beq_iff_eq]
  omega
theorem Dth_turn (x i : Nat) (hi : i < 25) : Dth (x + 1) 0 i = Dth x 5 i := by
  unfold Dth
  rw [Bool.eq_iff_iff]
  simp only [decide_eq_true_eq]
  omega
/-- What theta lays over a column. -/
def lchg (l : List Nat) (x : Nat) : Nat := lcol l ((x + 4) % 5) ^^^ lrot 1 (lcol l ((x + 1) % 5))
theorem lchg_lt {l : List Nat} (h : Lanes l) (x : Nat) : lchg l x < 18446744073709551616 := xor_lt (lcol_lt h _) (lrot_lt _ _)
theorem lth_at (l : List Nat) {x y : Nat} (hx : x < 5) (hy : y < 5) : (lth l).getD (x + 5 * y) 0 = l.getD (x + 5 * y) 0 ^^^ lchg l x := by
  unfold lth lchg
  rw [lane_getD _ (by omega)]
  show l.getD (x + 5 * y) 0 ^^^ (lcol l ((x + 5 * y + 4) % 5) ^^^ lrot 1 (lcol l ((x + 5 * y + 1) % 5))) = _
  rw [show (x + 5 * y + 4) % 5 = (x + 4) % 5 by omega, show (x + 5 * y + 1) % 5 = (x + 1) % 5 by omega]

set_option maxRecDepth 20000 in
set_option maxHeartbeats 1000000 in
theorem theta_c (l : List Nat) (w : World) (hl : Lanes l) :
    Calls Tryd.prog 28 #[st l] w fun e w' => e = .returned (st (lth l)) ∧ Below w.heap.size w w' := by
  obtain ⟨h1, h2, h4⟩ := boot2 w hl
  have HL := hid hl
  have HSz0 := hid (st_size hl)
  have HLL := hid (lth_lanes hl)
  have HLP := hid (fun (x y : Nat) => @lth_at l x y)
  have hlen := st_len hl
  have HO0 := hid h1.range
  have H1 := hid h1
  have H2 := hid h2
  have H4 := hid h4
  obtain ⟨L, hL⟩ : ∃ L, L = lth l := ⟨_, rfl⟩
  rw [← hL] at HLP HLL ⊢
  clear h1 h2 h4 hl hL
  unfold oW zS at HO0 H1 H2 H4
  unfold st
  go_enter Tryd.func28, Tryd.ntmps28
  go_wp2_with (with_reducible refine wpList_load_mid rfl 31 (.tmp 1) rfl w.heap.size 0 rfl (cellsOf64 l) _ HO0.out Tryd.underlying31 rfl HSz0.out ?_)
  refine (columns_c l _ HL.out).mono ?_
  rintro e w1 ⟨rfl, hb1⟩
  have h1 := H1.out.below hb1 H1.out.size
  have h2 := H2.out.below hb1 H2.out.size
  have h4 := H4.out.trans (hb1.mono H4.out.size)
  have hlt1 := h2.size
  obtain ⟨cs, hcs⟩ : ∃ cs, cs = lcols l := ⟨_, rfl⟩
  have hc5 : cs.length = 5 := by rw [hcs]; rfl
  have hclt : allLt cs := by rw [hcs]; exact lcols_lt HL.out
  have hcat : Hid (∀ x, x < 5 → cs.getD x 0 = lcol l x) := fun x hx => by rw [hcs]; exact lcols_at l hx
  rw [← hcs]
  have hlen5 : (cellsOf64 cs).length = 5 := by rw [c64_len, hc5]
  have hz := z5_new w1 66
  have hst := store64 w1.heap.size cs _ (by rw [hc5]; exact hz.there)
  have hC := hz.overW cs (by rw [hc5]; rfl) hclt
  have R0 := hid (show PRel w w.heap.size (w.heap.size + 1) w1.heap.size 66 cs l L (Dth 0 0) ((w1.alloc (z5 66)).setCells w1.heap.size 0 (cellsOf64 cs)) from
    ⟨⟨l, HL.out.len, (h1.alloc _).putC (by omega) _ _, fun i _ => by rw [if_neg (by unfold Dth; simp)]⟩, (h2.alloc _).putC (by omega) _ _, hC, below_cells (by omega) _ _ _ (h4.alloc (by omega) _)⟩)
  have HC5 := hid hc5
  have LT := hid hlt1
  clear h1 h2 h4 hb1 hcs hclt hz hC H1 H2 H4 HO0 hlen hc5 hlt1 HSz0
  unfold z5 at hst R0
  go_wp2
  clear hst hlen5
  generalize ((w1.alloc _).setCells _ _ _) = w0 at *
  generalize hbc : w1.heap.size = bc at *
  have LT2 : w.heap.size + 1 < bc := LT.out
  clear hbc LT
  go_loopw [9] (fun i wr => ∃ x : Nat, x ≤ 5 ∧ i = .int .i64 x ∧ PRel w w.heap.size (w.heap.size + 1) bc 66 cs l L (Dth x 0) wr) (fun i _ => 5 - (intOf i).toNat)
  case atStart => exact ⟨0, by omega, rfl, R0.out⟩
  case round =>
    clear R0
    obtain ⟨x, hx, rfl, hrel⟩ := hrel
    by_cases hlt : x < 5
    · have i2 : (x : Int) < 5 := by omega
      obtain ⟨xa, hxa⟩ : ∃ n, n = x + 4 := ⟨_, rfl⟩
      obtain ⟨xb, hxb⟩ : ∃ n, n = x + 1 := ⟨_, rfl⟩
      obtain ⟨p, hp⟩ : ∃ n, n = xa % 5 := ⟨_, rfl⟩
      obtain ⟨q, hq⟩ : ∃ n, n = xb % 5 := ⟨_, rfl⟩
      have a1 : IntKind.i64.wrap ((x : Int) + 4) = (xa : Int) := by rw [IntKind.wrap_i64]; omega
      have a2 : IntKind.i64.wrap ((x : Int) + 1) = (xb : Int) := by rw [IntKind.wrap_i64]; omega
      have a3 : (xa : Int).tmod 5 = (p : Int) := by rw [hp, Int.tmod_eq_emod_of_nonneg (by omega)]; rfl
      have a4 : (xb : Int).tmod 5 = (q : Int) := by rw [hq, Int.tmod_eq_emod_of_nonneg (by omega)]; rfl
      have p5 : (p : Int) < 5 := by omega
      have q5 : (q : Int) < 5 := by omega
      have p0 : (0 : Int) ≤ (p : Int) := by omega
      have q0 : (0 : Int) ≤ (q : Int) := by omega
      have c0 := hrel.s.cell (i := p) (by rw [HC5.out]; omega)
      have c1 := hrel.s.cell (i := q) (by rw [HC5.out]; omega)
      obtain ⟨d, hd⟩ : ∃ d, d = lchg l x := ⟨_, rfl⟩
      obtain ⟨rt, hrt⟩ : ∃ d, d = lrot 1 (cs.getD q 0) := ⟨_, rfl⟩
      have hd64 : Hid (d < 18446744073709551616) := by rw [hd]; exact lchg_lt HL.out x
      have E1 : Hid (at64 cs p = ((lcol l p : Nat) : Int)) := by unfold at64; rw [hcat.out p (by omega)]; exact rfl
      have E2 : Hid (cs.getD q 0 = lcol l q) := hcat.out q (by omega)
      have hxor : bits .xor .u64 (at64 cs p) (rt : Int) = (d : Int) := by
        rw [hrt, E1.out, E2.out, bits_xor_u64_nat _ _ (lcol_lt HL.out _) (lrot_lt _ _), hd]
        unfold lchg
        rw [hp, hq, hxa, hxb]
      have C1 : ∀ v, Calls Tryd.prog 39 #[.int .u64 (at64 cs q), .int .i64 1] v fun e w' => e = .returned (.int .u64 (rt : Int)) ∧ w' = v := fun v => by
        rw [hrt]
        have h := rot_c (cs.getD q 0) 1 (by rw [E2.out]; exact lcol_lt HL.out _) (by decide) v
        exact h.mono fun e w' hh => ⟨hh.1, hh.2.symm⟩
      have HD := hid hd
      have HR := hid hrel
      clear hrel hd hp hq hxa hxb E1 E2 hrt
      go_wp2
      go_quiet ((go_at_call 39; exact Calls.quiet_of_same (C1 _)))
      go_wp2
      clear a1 a2 a3 a4 c0 c1 hxor C1
      have HR1 := hid (HR.out.drewN nq)
      obtain ⟨w2, hw2⟩ : ∃ v, v = wr.drewN nq := ⟨_, rfl⟩
      rw [← hw2] at HR1 ⊢
      clear hw2 HR
      go_loopw [24] (fun i wr => ∃ y : Nat, y ≤ 5 ∧ i = .int .i64 y ∧ PRel w w.heap.size (w.heap.size + 1) bc 66 cs l L (Dth x y) wr) (fun i _ => 5 - (intOf i).toNat)
      case atStart => exact ⟨0, by omega, rfl, HR1.out⟩
      case round =>
        clear HR1
        obtain ⟨y, hy, rfl, hrel⟩ := hrel
        by_cases hlty : y < 5
        · have j2 : (y : Int) < 5 := by omega
          obtain ⟨k, hk⟩ : ∃ k, k = x + 5 * y := ⟨_, rfl⟩
          have hk25 : k < 25 := by omega
          have C2 : ∀ v, Calls Tryd.prog 40 #[.int .i64 (x : Int), .int .i64 (y : Int)] v fun e w' => e = .returned (.int .i64 (k : Int)) ∧ v = w' := fun v => by
            have h := lane_c x y (by omega) (by omega) v
            rw [Nat.mod_eq_of_lt hlt, Nat.mod_eq_of_lt hlty, ← hk] at h
            exact h
          have c0 := hrel.at_ hk25 (by unfold Dth; rw [hk]; simp; omega)
          have f0 := hrel.frozen k
          have j5 : (k : Int) < 25 := by omega
          have HST := hid (hrel.step (D' := Dth x (y + 1)) HLL.out (by omega) (by omega) (by omega) k hk25 (bits .xor .u64 (at64 l k) (d : Int)) (by
            unfold at64
            rw [bits_xor_u64_nat _ _ (HL.out.at_ _) hd64.out, hk, HLP.out x y hlt hlty, HD.out]) (fun i hi => by rw [hk]; exact Dth_step hlt hlty i hi))
          clear hrel hk
          go_wp2_with (go_at_call 40; with_reducible refine (C2 _).mono ?_; rintro e w' ⟨rfl, rfl⟩)
          go_roundw
          case rel => exact ⟨y + 1, by omega, by go_num, HST.out⟩
          case measure => simp [intOf]; omega
        · have j2 : decide ((y : Int) < 5) = false := by simp; omega
          have HR5 := hid (hrel.turn (D' := Dth (x + 1) 0) (fun i hi => by rw [show y = 5 by omega]; exact Dth_turn x i hi))
          clear hrel
          go_wp2
          go_roundw
          case rel => exact ⟨x + 1, by omega, by go_num, HR5.out⟩
          case measure => simp [intOf]; omega
    · obtain rfl : x = 5 := by omega
      obtain ⟨e1, e2, e3⟩ := hrel.end_ HLL.out.len (fun i hi => by unfold Dth; simp; omega)
      clear hrel
      have HLen := hid (st_len HLL.out)
      have HSz := hid (st_size HLL.out)
      obtain ⟨hst, HR⟩ := st_stored HLL.out e2
      have hlenL : (cellsOf64 L).length = 25 := HLen
      have HO := hid e1.range
      have HB := hid e3
      clear e1 e2 e3
      go_wp2_with (with_reducible refine wpList_load_mid rfl 31 (.tmp 1) rfl w.heap.size 0 rfl (cellsOf64 L) _ HO.out Tryd.underlying31 rfl HSz.out ?_)
      refine bodyPost_ret (st_result HLL.out Tryd.results28 rfl HR) rfl ?_
      exact ⟨rfl, below_cells (by omega) _ _ _ HB.out⟩
end Go.Proofs.YteogjnendkbjcaaDoor
