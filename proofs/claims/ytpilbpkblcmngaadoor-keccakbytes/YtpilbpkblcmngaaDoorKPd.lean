/-
  keccak.State.rho: what the call does.
-/
import Derived.Test.YtpilbpkblcmngaaDoorKPc
namespace Go.Proofs.YtpilbpkblcmngaaDoor
open Go.RowKit
set_option linter.unusedVariables false

def Drh (k i : Nat) : Bool := decide (i < k)
theorem lrh_at (l : List Nat) {k : Nat} (hk : k < 25) : (lrh l).getD k 0 = lrot (koff.getD k 0) (l.getD k 0) := by unfold lrh; rw [lane_getD _ hk]

set_option maxRecDepth 20000 in
set_option maxHeartbeats 1000000 in
theorem rho_c (l : List Nat) (w : World) (hl : Lanes l) (hG : GlobK w) :
    Calls Tryd.prog 26 #[st l] w fun e w' => e = .returned (st (lrh l)) ∧ Below w.heap.size w w' := by
  obtain ⟨h1, h2, h4⟩ := boot2 w hl
  have R0 := hid (show PRel w w.heap.size (w.heap.size + 1) (w.heap.size + 1) 24 l0 l (lrh l) (Drh 0) _ from ⟨⟨l, hl.len, h1, fun i _ => by rw [if_neg (by unfold Drh; simp)]⟩, h2, h2, h4⟩)
  have HL := hid hl
  have HG := hid hG
  have HLP := hid (fun (k : Nat) => @lrh_at l k)
  have HLL0 := hid (lrh_lanes l)
  have hlen := st_len hl
  obtain ⟨L, hL⟩ : ∃ L, L = lrh l := ⟨_, rfl⟩
  rw [← hL] at R0 HLP HLL0 ⊢
  have HLL := HLL0
  clear HLL0 h1 h2 h4 hl hL hG
  unfold oW zS at R0
  unfold st
  go_enter Tryd.func26, Tryd.ntmps26
  go_wp2
  clear hlen
  generalize ((w.alloc _).alloc _) = w0 at *
  go_loopw [4] (fun i wr => ∃ y : Nat, y ≤ 25 ∧ i = .int .i64 y ∧ PRel w w.heap.size (w.heap.size + 1) (w.heap.size + 1) 24 l0 l L (Drh y) wr) (fun i _ => 25 - (intOf i).toNat)
  case atStart => exact ⟨0, by omega, rfl, R0.out⟩
  case round =>
    clear R0
    obtain ⟨k, hk, rfl, hrel⟩ := hrel
    by_cases hlt : k < 25
    · have i2 : (k : Int) < 25 := by omega
      have i0 : (0 : Int) ≤ (k : Int) := by omega
      have c0 := hrel.at_ hlt (by unfold Drh; simp)
      have f0 := hrel.frozen k
      have c1 := (HG.out.up hrel.b).offs k hlt
      obtain ⟨o, ho⟩ : ∃ o, o = koff.getD k 0 := ⟨_, rfl⟩
      rw [← ho] at c1
      have ho64 : o < 64 := by rw [ho]; exact koff_lt k
      obtain ⟨u, hu⟩ : ∃ u, u = L.getD k 0 := ⟨_, rfl⟩
      have C1 : ∀ v, Calls Tryd.prog 34 #[.int .u64 (at64 l k), .int .i64 (o : Int)] v fun e w' => e = .returned (.int .u64 (u : Int)) ∧ v = w' := fun v => by
        rw [hu, HLP.out k hlt, ← ho]
        exact rot_c (l.getD k 0) o (HL.out.at_ k) ho64 v
      have HST := hid (hrel.step (D' := Drh (k + 1)) HLL.out (by omega) (by omega) (by omega) k hlt (u : Int) (by rw [hu]) (fun i hi => by
        unfold Drh
        rw [Bool.eq_iff_iff]
        simp only [Bool.or_eq_true, decide_eq_true_eq, beq_iff_eq]
        omega))
      clear hrel ho hu
      go_wp2
      go_region_with (go_at_call 34; with_reducible refine (C1 _).mono ?_; rintro e w' ⟨rfl, rfl⟩)
      all_goals go_wp2
      all_goals go_roundw
      all_goals first | exact ⟨k + 1, by omega, by go_num, HST.out.drew⟩ | (simp [intOf]; omega)
    · obtain rfl : k = 25 := by omega
      obtain ⟨e1, e2, e3⟩ := hrel.end_ HLL.out.len (fun i hi => by unfold Drh; simp; omega)
      clear hrel
      have HLen := hid (st_len HLL.out)
      have HSz := hid (st_size HLL.out)
      obtain ⟨hst, HR⟩ := st_stored HLL.out e2
      have hlenL : (cellsOf64 L).length = 25 := HLen
      have HO := hid e1.range
      have HB := hid e3
      clear e1 e2 e3
      go_wp2_with (with_reducible refine wpList_load_mid rfl 24 (.tmp 1) rfl w.heap.size 0 rfl (cellsOf64 L) _ HO.out Tryd.underlying24 rfl HSz.out ?_)
      refine bodyPost_ret (st_result HLL.out Tryd.results26 rfl HR) rfl ?_
      exact ⟨rfl, below_cells (by omega) _ _ _ HB.out⟩
end Go.Proofs.YtpilbpkblcmngaaDoor
