/-
  poseidon: New, Constants, Round, Permute: what each call does.
-/
import Derived.Test.YtdepkfdceidikaaDoorPpD
namespace Go.Proofs.YtdepkfdceidikaaDoor
open Go.RowKit
set_option linter.unusedVariables false
set_option linter.unusedSimpArgs false


theorem pnew_c (w : World) : Calls Tryd.prog 19 #[] w fun e w' => ∃ p, e = .returned (.pointer (some ⟨p, 0, none⟩)) ∧ w.heap.size ≤ p ∧ PI w' p ∧ Below w.heap.size w w' := by
  have hz := zeroP
  have hlz := pcl_len 0 0 z0
  have HB := hid (PI.new w)
  have HW := hid ((Below.refl w.heap.size w).alloc (Nat.le_refl _) (.cells (pcl 0 0 z0).toArray 80))
  go_enter Tryd.func19, Tryd.ntmps19
  go_wp2
  go_ret
  exact ⟨_, rfl, Nat.le_refl _, HB.out, HW.out⟩
theorem pcI_out {r : Int} (h : ¬ (0 ≤ r ∧ r < 65)) (i : Nat) : pcI r i = 0 := by
  unfold pcI
  rw [if_neg h]
theorem VecZ.zeros : VecZ z0 (fun _ => 0) := ⟨fun i _ => Ef.zero _⟩
theorem Only.loF {b : Nat} {w w' : World} (h : Only b w w') (hG : Glob w) (hlo : 0 < b ∧ 1 < b) : Glob w' := h.globF hG hlo
set_option maxRecDepth 20000 in
set_option maxHeartbeats 1000000 in
theorem constants_c (b : Nat) (r : Int) (w : World) (hB : PI w b) (hG : Glob w) (hlo : 0 < b ∧ 1 < b) :
    Calls Tryd.prog 64 #[.pointer (some ⟨b, 0, none⟩), .int .i64 r] w fun e w' => ∃ c, e = .returned (.agg (wds 12 c).toArray) ∧ VecZ c (pcI r) ∧ PI w' b ∧ Only b w w' := by
  have hz := zeroV
  have hlz := wds_len 12 z0
  have hmf : ∀ (fn : Fn) (first cap : Array Value) (w : World), (Instr.makeFunc fn first cap).run Tryd.prog w = .ok (.func fn first cap) w := fun _ _ _ _ => rfl
  have h0 := oF_new w 38 12 z0
  have hb := (Below.refl w.heap.size w).alloc (Nat.le_refl _) (oF 38 12 z0)
  have hbs := hB.size
  have HP := hid (hB.up ((Below.refl w.heap.size w).alloc (Nat.le_refl _) (oF 38 12 z0)))
  have HG := hid (hG.up ((Below.refl w.heap.size w).alloc (Nat.le_refl _) (oF 38 12 z0)))
  by_cases hin : 0 ≤ r ∧ r < 65
  · obtain ⟨k, rfl⟩ := Int.eq_ofNat_of_zero_le hin.1
    have hk : k < 65 := by omega
    have i0 : ¬ (k : Int) < 0 := by omega
    have d0 : decide ((k : Int) < 0) = false := decide_eq_false i0
    have i1 : ¬ 65 ≤ (k : Int) := by omega
    have d1 : decide (65 ≤ (k : Int)) = false := decide_eq_false i1
    have i2 : (0 : Int) ≤ (k : Int) := by omega
    have i3 : (k : Int) < 65 := by omega
    rw [pcI_nat hk]
    clear hin
    go_enter Tryd.func64, Tryd.ntmps64
    unfold oF at *
    go_wp2_with fail
    generalize (w.alloc _) = w0 at *
    refine (once_do b w0 HP.out HG.out hlo).mono ?_
    rintro e w1 ⟨rfl, g, hg1, hg2, hg3, ho⟩
    have h1 := ho.blk h0 (by omega)
    have HV := hid (hg2.at_ hk)
    have HLD : Hid (w1.rangeAt b (3 + k * 12) (wds 12 fun j => g (k * 12 + j))) := hid (PB.sub hg1 (k * 12) 12 (by omega))
    obtain ⟨c, hc⟩ : ∃ c : Nat → Int, c = fun j => g (k * 12 + j) := ⟨_, rfl⟩
    rw [← hc] at HV HLD
    have HT := hid (h1.thereW 0 12 c (by decide))
    have HR := hid (h1.lay0 c).range
    have HPI : Hid (PI (w1.setCells w.heap.size 0 (wds 12 c)) b) := hid ⟨1, g, BlkV.put (by omega) _ _ _ hg1, Or.inr ⟨rfl, hg2, hg3⟩⟩
    have HO : Hid (Only b w (w1.setCells w.heap.size 0 (wds 12 c))) := hid (((Only.of hb).trans ho).setsUp (Nat.le_refl _) _ _)
    clear hg1 hg2 hg3 ho h0 hb HP HG
    have hlc := wds_len 12 c
    clear hc h1
    go_wp2_with (first
    | with_reducible refine wpList_load_mid rfl 38 (.tmp 22) rfl (b) (3 + k * 12) rfl (wds 12 c) _ (by with_reducible exact HLD.out) Tryd.underlying38 rfl (sizeV _) ?_
    | with_reducible refine wpList_store_mid rfl 38 (.tmp 4) (.tmp 23) rfl (w.heap.size) (0) (wds 12 c).toArray rfl rfl (by with_reducible exact HT.out) (sizeVA _) (wds_all _ _) ?_
    | fail)
    refine bodyPost_ret (results_cell1 Tryd.results64 ⟨w.heap.size, 0, none⟩ _ rfl (run_loadVar_mid _ (w.heap.size) 0 38 (wds 12 c) _ HR.out Tryd.underlying38 rfl (sizeV _))) rfl ?_
    exact ⟨_, rfl, HV.out, HPI.out, HO.out⟩
  · have HV : Hid (VecZ z0 (pcI r)) := VecZ.zeros.eq fun i _ => (pcI_out hin i).symm
    have HT := hid (h0.thereW 0 12 z0 (by decide))
    have HR := hid (h0.lay0 z0).range
    have HO := hid (((Only.of (b := b) hb)).setsUp (Nat.le_refl _) (wds 12 z0) 0)
    have HPI : Hid (PI ((w.alloc (oF 38 12 z0)).setCells w.heap.size 0 (wds 12 z0)) b) := by
      obtain ⟨d, g, q1, q2⟩ := HP.out
      exact ⟨d, g, BlkV.put (by omega) _ _ _ q1, q2⟩
    clear h0 hb
    unfold oF at HT HR HO HPI
    by_cases hn : r < 0
    · go_enter Tryd.func64, Tryd.ntmps64
      go_wp2_with (first
    | with_reducible refine wpList_store_mid rfl 38 (.tmp 4) (.tmp 11) rfl (w.heap.size) (0) (wds 12 z0).toArray rfl rfl (by with_reducible exact HT.out) (sizeVA _) (wds_all _ _) ?_
    | fail)
      refine bodyPost_ret (results_cell1 Tryd.results64 ⟨w.heap.size, 0, none⟩ _ rfl (run_loadVar_mid _ (w.heap.size) 0 38 (wds 12 z0) _ HR.out Tryd.underlying38 rfl (sizeV _))) rfl ?_
      exact ⟨_, rfl, HV.out, HPI.out, HO.out⟩
    · have d0 : decide (r < 0) = false := decide_eq_false hn
      have i1 : 65 ≤ r := by omega
      go_enter Tryd.func64, Tryd.ntmps64
      go_wp2_with (first
    | with_reducible refine wpList_store_mid rfl 38 (.tmp 4) (.tmp 11) rfl (w.heap.size) (0) (wds 12 z0).toArray rfl rfl (by with_reducible exact HT.out) (sizeVA _) (wds_all _ _) ?_
    | fail)
      refine bodyPost_ret (results_cell1 Tryd.results64 ⟨w.heap.size, 0, none⟩ _ rfl (run_loadVar_mid _ (w.heap.size) 0 38 (wds 12 z0) _ HR.out Tryd.underlying38 rfl (sizeV _))) rfl ?_
      exact ⟨_, rfl, HV.out, HPI.out, HO.out⟩
set_option maxRecDepth 20000 in
set_option maxHeartbeats 1000000 in
theorem constantsD_c (b : Nat) (r : Int) (g : Nat → Int) (w : World) (hg1 : PB w b 1 0 g) (hg2 : CP 195 g) :
    Calls Tryd.prog 64 #[.pointer (some ⟨b, 0, none⟩), .int .i64 r] w fun e w' => ∃ c, e = .returned (.agg (wds 12 c).toArray) ∧ VecZ c (pcI r) ∧ Below w.heap.size w w' := by
  have hz := zeroV
  have hlz := wds_len 12 z0
  have hmf : ∀ (fn : Fn) (first cap : Array Value) (w : World), (Instr.makeFunc fn first cap).run Tryd.prog w = .ok (.func fn first cap) w := fun _ _ _ _ => rfl
  have h0 := oF_new w 38 12 z0
  have hb := (Below.refl w.heap.size w).alloc (Nat.le_refl _) (oF 38 12 z0)
  have hbs := BlkV.size hg1
  have hg1 : PB (w.alloc (oF 38 12 z0)) b 1 0 g := BlkV.alloc hg1 _
  by_cases hin : 0 ≤ r ∧ r < 65
  · obtain ⟨k, rfl⟩ := Int.eq_ofNat_of_zero_le hin.1
    have hk : k < 65 := by omega
    have i0 : ¬ (k : Int) < 0 := by omega
    have d0 : decide ((k : Int) < 0) = false := decide_eq_false i0
    have i1 : ¬ 65 ≤ (k : Int) := by omega
    have d1 : decide (65 ≤ (k : Int)) = false := decide_eq_false i1
    have i2 : (0 : Int) ≤ (k : Int) := by omega
    have i3 : (k : Int) < 65 := by omega
    rw [pcI_nat hk]
    clear hin
    go_enter Tryd.func64, Tryd.ntmps64
    unfold oF at *
    go_wp2_with fail
    generalize (w.alloc _) = w0 at *
    refine (once_again b g _ w0 hg1).mono ?_
    rintro e w1 ⟨rfl, rfl⟩
    have h1 := h0
    generalize hwq : w1 = w1 at *
    have HV := hid (hg2.at_ hk)
    have HLD : Hid (w1.rangeAt b (3 + k * 12) (wds 12 fun j => g (k * 12 + j))) := hid (PB.sub hg1 (k * 12) 12 (by omega))
    obtain ⟨c, hc⟩ : ∃ c : Nat → Int, c = fun j => g (k * 12 + j) := ⟨_, rfl⟩
    rw [← hc] at HV HLD
    have HT := hid (h1.thereW 0 12 c (by decide))
    have HR := hid (h1.lay0 c).range
    have HO : Hid (Below w.heap.size w (w1.setCells w.heap.size 0 (wds 12 c))) := hid (below_cells (Nat.le_refl _) _ _ _ hb)
    clear hg1 hg2 h0 hb hwq
    have hlc := wds_len 12 c
    clear hc h1
    go_wp2_with (first
    | with_reducible refine wpList_load_mid rfl 38 (.tmp 22) rfl (b) (3 + k * 12) rfl (wds 12 c) _ (by with_reducible exact HLD.out) Tryd.underlying38 rfl (sizeV _) ?_
    | with_reducible refine wpList_store_mid rfl 38 (.tmp 4) (.tmp 23) rfl (w.heap.size) (0) (wds 12 c).toArray rfl rfl (by with_reducible exact HT.out) (sizeVA _) (wds_all _ _) ?_
    | fail)
    refine bodyPost_ret (results_cell1 Tryd.results64 ⟨w.heap.size, 0, none⟩ _ rfl (run_loadVar_mid _ (w.heap.size) 0 38 (wds 12 c) _ HR.out Tryd.underlying38 rfl (sizeV _))) rfl ?_
    exact ⟨_, rfl, HV.out, HO.out⟩
  · have HV : Hid (VecZ z0 (pcI r)) := VecZ.zeros.eq fun i _ => (pcI_out hin i).symm
    have HT := hid (h0.thereW 0 12 z0 (by decide))
    have HR := hid (h0.lay0 z0).range
    have HO := hid (below_cells (Nat.le_refl _) (wds 12 z0) 0 _ hb)
    clear hg1
    clear h0 hb
    unfold oF at HT HR HO
    by_cases hn : r < 0
    · go_enter Tryd.func64, Tryd.ntmps64
      go_wp2_with (first
    | with_reducible refine wpList_store_mid rfl 38 (.tmp 4) (.tmp 11) rfl (w.heap.size) (0) (wds 12 z0).toArray rfl rfl (by with_reducible exact HT.out) (sizeVA _) (wds_all _ _) ?_
    | fail)
      refine bodyPost_ret (results_cell1 Tryd.results64 ⟨w.heap.size, 0, none⟩ _ rfl (run_loadVar_mid _ (w.heap.size) 0 38 (wds 12 z0) _ HR.out Tryd.underlying38 rfl (sizeV _))) rfl ?_
      exact ⟨_, rfl, HV.out, HO.out⟩
    · have d0 : decide (r < 0) = false := decide_eq_false hn
      have i1 : 65 ≤ r := by omega
      go_enter Tryd.func64, Tryd.ntmps64
      go_wp2_with (first
    | with_reducible refine wpList_store_mid rfl 38 (.tmp 4) (.tmp 11) rfl (w.heap.size) (0) (wds 12 z0).toArray rfl rfl (by with_reducible exact HT.out) (sizeVA _) (wds_all _ _) ?_
    | fail)
      refine bodyPost_ret (results_cell1 Tryd.results64 ⟨w.heap.size, 0, none⟩ _ rfl (run_loadVar_mid _ (w.heap.size) 0 38 (wds 12 z0) _ HR.out Tryd.underlying38 rfl (sizeV _))) rfl ?_
      exact ⟨_, rfl, HV.out, HO.out⟩
end Go.Proofs.YtdepkfdceidikaaDoor
