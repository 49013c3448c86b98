/-
  keccak.Constant, withConstant: what each call does.
-/
import Derived.Test.YteogjnendkbjcaaDoorFrameK
namespace Go.Proofs.YteogjnendkbjcaaDoor
open Go.RowKit
set_option linter.unusedVariables false

/-- The constant of a number. -/
def kc (r : Int) : Nat := if 0 ≤ r ∧ r < 24 then kconst.getD r.toNat 0 else 0
theorem kc_lt (r : Int) : kc r < 18446744073709551616 := by
  unfold kc
  split
  · exact kconst_lt _
  · decide
theorem kc_nat {k : Nat} (h : k < 24) : kc (k : Int) = kconst.getD k 0 := by
  unfold kc
  rw [if_pos ⟨by omega, by omega⟩, Int.toNat_natCast]
set_option maxHeartbeats 400000 in
theorem constant_c (r : Int) (w : World) (hG : GlobK w) :
    Calls Tryd.prog 41 #[.int .i64 r] w fun e w' => e = .returned (.int .u64 ((kc r : Nat) : Int)) ∧ w = w' := by
  by_cases h0 : r < 0
  · have e0 : kc r = 0 := by unfold kc; rw [if_neg (by omega)]
    rw [e0]
    clear hG e0
    go_enter Tryd.func41, Tryd.ntmps41
    go_wp2
    go_ret
    exact ⟨rfl, rfl⟩
  · by_cases h1 : r < 24
    · obtain ⟨k, rfl⟩ : ∃ k : Nat, r = (k : Int) := ⟨r.toNat, by omega⟩
      have hk : k < 24 := by omega
      rw [kc_nat hk]
      have c0 := hG.consts k hk
      obtain ⟨u, hu⟩ : ∃ u, u = kconst.getD k 0 := ⟨_, rfl⟩
      rw [← hu] at c0 ⊢
      have d0 : decide ((k : Int) < 0) = false := decide_eq_false (by omega)
      have d1 : decide ((24 : Int) ≤ (k : Int)) = false := decide_eq_false (by omega)
      clear hG hu h0
      go_enter Tryd.func41, Tryd.ntmps41
      go_wp2
      go_ret
      exact ⟨rfl, rfl⟩
    · have e0 : kc r = 0 := by unfold kc; rw [if_neg (by omega)]
      rw [e0]
      have d0 : decide (r < 0) = false := decide_eq_false (by omega)
      have d1 : (24 : Int) ≤ r := by omega
      clear hG e0 h0 h1
      go_enter Tryd.func41, Tryd.ntmps41
      go_wp2
      go_ret
      exact ⟨rfl, rfl⟩
theorem lio_set {l : List Nat} (hl : Lanes l) (c : Nat) : lio c l = l.set 0 (l.getD 0 0 ^^^ c) := by
  refine same_getD (by rw [List.length_set, hl.len]; rfl) fun i hi => ?_
  have hi' : i < 25 := by simpa [lio, lane] using hi
  unfold lio
  rw [lane_getD _ hi']
  by_cases h : i = 0
  · subst h
    rw [getD_set_eq _ _ _ (by rw [hl.len]; decide), if_pos rfl]
  · rw [getD_set_ne _ _ _ _ (by omega), if_neg h]

set_option maxRecDepth 20000 in
set_option maxHeartbeats 1000000 in
theorem withConstant_c (l : List Nat) (r : Int) (w : World) (hl : Lanes l) (hG : GlobK w) :
    Calls Tryd.prog 32 #[st l, .int .i64 r] w fun e w' => e = .returned (st (lio (kc r) l)) ∧ Below w.heap.size w w' := by
  obtain ⟨h1, h2, h4⟩ := boot2 w hl
  have HG := hid (hG.up h4)
  have HLL := hid (lio_lanes (kc_lt r) hl)
  have hlen := st_len hl
  obtain ⟨u, hu⟩ : ∃ u, u = kc r := ⟨_, rfl⟩
  obtain ⟨x, hx⟩ : ∃ x, x = l.getD 0 0 ^^^ kc r := ⟨_, rfl⟩
  have hxor : bits .xor .u64 (at64 l 0) (u : Int) = (x : Int) := by
    unfold at64
    rw [hu, bits_xor_u64_nat _ _ (hl.at_ _) (kc_lt r), hx]
  have HE := hid (lio_set hl (kc r))
  rw [← hx] at HE
  have hx64 : x < 18446744073709551616 := by rw [hx]; exact xor_lt (hl.at_ _) (kc_lt r)
  obtain ⟨L, hL⟩ : ∃ L, L = lio (kc r) l := ⟨_, rfl⟩
  rw [← hL] at HLL HE ⊢
  have c0 := h1.cell (i := 0) (by rw [hl.len]; decide)
  have f0 := h1.frozen 0
  have H1 := hid h1
  have H2 := hid h2
  have H4 := hid h4
  have C1 : ∀ v, GlobK v → Calls Tryd.prog 41 #[.int .i64 r] v fun e w' => e = .returned (.int .u64 (u : Int)) ∧ v = w' := fun v hv => by rw [hu]; exact constant_c r v hv
  have HX := hid hx64
  clear h1 h2 h4 hG hu hx hL hl hx64
  unfold oW zS at c0 f0 H1 H2 H4 HG
  unfold st
  go_enter Tryd.func32, Tryd.ntmps32
  go_wp2
  clear hlen
  generalize ((w.alloc _).alloc _) = w0 at *
  have HG0 : Hid (GlobK w0.drew) := HG.out.up (Below.refl _ _).drew
  go_cut [9] (fun s wx => BlkW wx w.heap.size 31 L ∧ BlkW wx (w.heap.size + 1) 31 l0 ∧ Below w.heap.size w wx)
  case first =>
    have hB0 := H1.out.set 0 x HX.out
    rw [← HE.out] at hB0
    have e1 := hid (show BlkW (w0.setCell ⟨w.heap.size, 0, none⟩ (.int .u64 (x : Int))).drew w.heap.size 31 L from hB0.drew')
    have e2 := hid (show BlkW (w0.setCell ⟨w.heap.size, 0, none⟩ (.int .u64 (x : Int))).drew (w.heap.size + 1) 31 l0 from (H2.out.otherC (by omega)).drew')
    have e3 := hid (show Below w.heap.size w (w0.setCell ⟨w.heap.size, 0, none⟩ (.int .u64 (x : Int))).drew from (H4.out.setCell (Nat.le_refl _) _).drew)
    clear hB0
    go_region_with (go_at_call 41; with_reducible refine (C1 _ HG0.out).mono ?_; rintro e w' ⟨rfl, rfl⟩)
    all_goals go_wp2_with fail
    all_goals go_meet
    all_goals exact ⟨e1.out, e2.out, e3.out⟩
  case rest =>
    obtain ⟨e1, e2, e3⟩ := hcut
    clear H1 H2 H4 c0 f0 HE HG0 HG hxor C1
    have HLen := hid (st_len HLL.out)
    have HSz := hid (st_size HLL.out)
    obtain ⟨hst, HR⟩ := st_stored HLL.out e2
    have hlenL : (cellsOf64 L).length = 25 := HLen
    have HO := hid e1.range
    have HB := hid e3
    clear e1 e2 e3
    go_wp2_with (with_reducible refine wpList_load_mid rfl 31 (.tmp 2) rfl w.heap.size 0 rfl (cellsOf64 L) _ HO.out Tryd.underlying31 rfl HSz.out ?_)
    refine bodyPost_ret (st_result HLL.out Tryd.results32 rfl HR) rfl ?_
    exact ⟨rfl, below_cells (by omega) _ _ _ HB.out⟩
end Go.Proofs.YteogjnendkbjcaaDoor
