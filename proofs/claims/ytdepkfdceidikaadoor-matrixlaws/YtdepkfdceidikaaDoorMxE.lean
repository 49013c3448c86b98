/-
  matrix.Matrix.without: what the call does.
-/
import Derived.Test.YtdepkfdceidikaaDoorMxD
namespace Go.Proofs.YtdepkfdceidikaaDoor
open Go.RowKit
set_option linter.unusedVariables false
set_option linter.unusedSimpArgs false


theorem otL_lt {i : Nat} (h : i < 3) : otL i < 3 := by unfold otL; split <;> omega
theorem otR_lt {i : Nat} (h : i < 3) : otR i < 3 := by unfold otR; split <;> omega
/-- The determinant of what is left without a row and a column. -/
def mzWo (M : MZ) (i j : Nat) : Int := M (otL i) (otL j) * M (otR i) (otR j) - M (otL i) (otR j) * M (otR i) (otL j)
set_option maxRecDepth 20000 in
set_option maxHeartbeats 1000000 in
theorem without_c (f : Nat → Int) (M : MZ) (i j : Nat) (hi : i < 3) (hj : j < 3) (w : World) (hM : MatZ f M) (hG : Glob w) :
    Calls Tryd.prog 37 #[.agg (wds 36 f).toArray, .int .i64 (i : Int), .int .i64 (j : Int)] w fun e w' => ∃ r, e = .returned r ∧ Ez r (mzWo M i j) ∧ Below w.heap.size w w' := by
  have hz := zeroE
  have hlz := wds_len 4 z0
  have hlm := wds_len 36 f
  have e1 : (w.alloc (oF 40 36 f)).heap.size = w.heap.size + 1 := by simp
  have h1 := (oF_new w 40 36 f).alloc (oF 27 4 z0)
  have h2 := oF_new (w.alloc (oF 40 36 f)) 27 4 z0
  rw [e1] at h2
  have hb := ((Below.refl w.heap.size w).alloc (Nat.le_refl _) (oF 40 36 f)).alloc (by omega) (oF 27 4 z0)
  have H1 := hid h1
  have H2 := hid h2
  have HB := hid hb
  have HG := hid hG
  have CI := fun (v : World) => others_c i hi v
  have CJ := fun (v : World) => others_c j hj v
  obtain ⟨p, hp⟩ : ∃ p, p = otL i := ⟨_, rfl⟩
  obtain ⟨q, hq⟩ : ∃ q, q = otR i := ⟨_, rfl⟩
  obtain ⟨r, hr⟩ : ∃ r, r = otL j := ⟨_, rfl⟩
  obtain ⟨s, hs⟩ : ∃ s, s = otR j := ⟨_, rfl⟩
  have hp3 : p < 3 := hp ▸ otL_lt hi
  have hq3 : q < 3 := hq ▸ otR_lt hi
  have hr3 : r < 3 := hr ▸ otL_lt hj
  have hs3 : s < 3 := hs ▸ otR_lt hj
  have HX : Hid (mzWo M i j = M p r * M q s - M p s * M q r) := by rw [hp, hq, hr, hs]; exact rfl
  rw [HX.out]
  rw [← hp, ← hq] at CI
  rw [← hr, ← hs] at CJ
  have EA := hid (hM.el hp3 hr3)
  have EB := hid (hM.el hq3 hs3)
  have EC := hid (hM.el hp3 hs3)
  have ED := hid (hM.el hq3 hr3)
  have a0 : (0 : Int) ≤ (p : Int) := by omega
  have a1 : (p : Int) < 3 := by omega
  have b0 : (0 : Int) ≤ (q : Int) := by omega
  have b1 : (q : Int) < 3 := by omega
  have c0 : (0 : Int) ≤ (r : Int) := by omega
  have c1 : (r : Int) < 3 := by omega
  have d0 : (0 : Int) ≤ (s : Int) := by omega
  have d1 : (s : Int) < 3 := by omega
  have OA : Hid (∀ v, BlkV v w.heap.size 40 (wds 36 f) → v.rangeAt w.heap.size (p * 12 + r * 4) (wds 4 fun k => f (p * 12 + r * 4 + k))) := fun v hv => hv.sub _ 4 (by omega)
  have OB : Hid (∀ v, BlkV v w.heap.size 40 (wds 36 f) → v.rangeAt w.heap.size (q * 12 + s * 4) (wds 4 fun k => f (q * 12 + s * 4 + k))) := fun v hv => hv.sub _ 4 (by omega)
  have OC : Hid (∀ v, BlkV v w.heap.size 40 (wds 36 f) → v.rangeAt w.heap.size (p * 12 + s * 4) (wds 4 fun k => f (p * 12 + s * 4 + k))) := fun v hv => hv.sub _ 4 (by omega)
  have OD : Hid (∀ v, BlkV v w.heap.size 40 (wds 36 f) → v.rangeAt w.heap.size (q * 12 + r * 4) (wds 4 fun k => f (q * 12 + r * 4 + k))) := fun v hv => hv.sub _ 4 (by omega)
  clear h1 h2 hb hM hG e1 hp hq hr hs HX hp3 hq3 hr3 hs3
  unfold oF at H1 H2 HB
  go_enter Tryd.func37, Tryd.ntmps37
  go_wp2_with fail
  generalize ((w.alloc _).alloc _) = w0 at *
  refine (CI w0).mono ?_
  rintro e w1 ⟨rfl, rfl⟩
  go_wp2_with fail
  refine (CJ w1).mono ?_
  rintro e w2 ⟨rfl, rfl⟩
  go_wp2_with fail
  clear CI CJ
  have h1 := H1.out.up (Below.refl _ _).drew
  have h2 := H2.out.up (Below.refl _ _).drew
  have hb := bchain HB.out (Below.refl _ _).drew
  refine wp_region_held_drew (S := fun v => BlkV v w.heap.size 40 (wds 36 f)) (by kernel_rfl) h1 (fun hHeld => ?_)
  refine wpAnyH_take (i := 0) (v := ?_) rfl (by kernel_rfl) (by kernel_rfl) (by kernel_rfl) (fun _ _ _ h => h) (Or.inl ⟨by rfl, fun v hv => ?_⟩) (by with_reducible assumption) ?_
  rotate_left
  · go_simp
    try with_reducible rfl
  simp only [Act.put, List.setIfInBounds_toArray, List.set_cons_zero, List.set_cons_succ, List.getElem_toArray, List.getElem_cons_zero, List.getElem_cons_succ]
  refine wpAnyH_take (i := 1) (v := ?_) rfl (by kernel_rfl) (by kernel_rfl) (by kernel_rfl) (fun _ _ _ h => h) (Or.inl ⟨by rfl, fun v hv => ?_⟩) (by with_reducible assumption) ?_
  rotate_left
  · go_simp
    try with_reducible rfl
  simp only [Act.put, List.setIfInBounds_toArray, List.set_cons_zero, List.set_cons_succ, List.getElem_toArray, List.getElem_cons_zero, List.getElem_cons_succ]
  refine wpAnyH_take (i := 2) (v := ?_) rfl (by kernel_rfl) (by kernel_rfl) (by kernel_rfl) (fun _ _ _ h => h) (Or.inl ⟨by rfl, fun v hv => ?_⟩) (by with_reducible assumption) ?_
  rotate_left
  · go_simp
    try with_reducible rfl
  simp only [Act.put, List.setIfInBounds_toArray, List.set_cons_zero, List.set_cons_succ, List.getElem_toArray, List.getElem_cons_zero, List.getElem_cons_succ]
  refine wpAnyH_take (i := 3) (v := ?_) rfl (by kernel_rfl) (by kernel_rfl) (by kernel_rfl) (fun _ _ _ h => h) (Or.inl ⟨by rfl, fun v hv => ?_⟩) (by with_reducible assumption) ?_
  rotate_left
  · go_simp
    try with_reducible rfl
  simp only [Act.put, List.setIfInBounds_toArray, List.set_cons_zero, List.set_cons_succ, List.getElem_toArray, List.getElem_cons_zero, List.getElem_cons_succ]
  refine wpAnyH_take (i := 4) (v := .agg (wds 4 fun k => f (p * 12 + r * 4 + k)).toArray) rfl (by kernel_rfl) (by kernel_rfl) (by kernel_rfl) (fun _ _ _ h => h) (yieldsIf_load_mid (by rfl) 27 (.tmp 24) rfl (w.heap.size) (p * 12 + r * 4) rfl (wds 4 fun k => f (p * 12 + r * 4 + k)) _ (fun v hv => OA.out v hv) Tryd.underlying27 rfl (sizeE _)) (by with_reducible assumption) ?_
  simp only [Act.put, List.setIfInBounds_toArray, List.set_cons_zero, List.set_cons_succ, List.getElem_toArray, List.getElem_cons_zero, List.getElem_cons_succ]
  refine wpAnyH_take (i := 5) (v := ?_) rfl (by kernel_rfl) (by kernel_rfl) (by kernel_rfl) (fun _ _ _ h => h) (Or.inl ⟨by rfl, fun v hv => ?_⟩) (by with_reducible assumption) ?_
  rotate_left
  · go_simp
    try with_reducible rfl
  simp only [Act.put, List.setIfInBounds_toArray, List.set_cons_zero, List.set_cons_succ, List.getElem_toArray, List.getElem_cons_zero, List.getElem_cons_succ]
  refine wpAnyH_take (i := 6) (v := ?_) rfl (by kernel_rfl) (by kernel_rfl) (by kernel_rfl) (fun _ _ _ h => h) (Or.inl ⟨by rfl, fun v hv => ?_⟩) (by with_reducible assumption) ?_
  rotate_left
  · go_simp
    try with_reducible rfl
  simp only [Act.put, List.setIfInBounds_toArray, List.set_cons_zero, List.set_cons_succ, List.getElem_toArray, List.getElem_cons_zero, List.getElem_cons_succ]
  refine wpAnyH_take (i := 7) (v := ?_) rfl (by kernel_rfl) (by kernel_rfl) (by kernel_rfl) (fun _ _ _ h => h) (Or.inl ⟨by rfl, fun v hv => ?_⟩) (by with_reducible assumption) ?_
  rotate_left
  · go_simp
    try with_reducible rfl
  simp only [Act.put, List.setIfInBounds_toArray, List.set_cons_zero, List.set_cons_succ, List.getElem_toArray, List.getElem_cons_zero, List.getElem_cons_succ]
  refine wpAnyH_take (i := 8) (v := ?_) rfl (by kernel_rfl) (by kernel_rfl) (by kernel_rfl) (fun _ _ _ h => h) (Or.inl ⟨by rfl, fun v hv => ?_⟩) (by with_reducible assumption) ?_
  rotate_left
  · go_simp
    try with_reducible rfl
  simp only [Act.put, List.setIfInBounds_toArray, List.set_cons_zero, List.set_cons_succ, List.getElem_toArray, List.getElem_cons_zero, List.getElem_cons_succ]
  refine wpAnyH_take (i := 9) (v := .agg (wds 4 fun k => f (q * 12 + s * 4 + k)).toArray) rfl (by kernel_rfl) (by kernel_rfl) (by kernel_rfl) (fun _ _ _ h => h) (yieldsIf_load_mid (by rfl) 27 (.tmp 29) rfl (w.heap.size) (q * 12 + s * 4) rfl (wds 4 fun k => f (q * 12 + s * 4 + k)) _ (fun v hv => OB.out v hv) Tryd.underlying27 rfl (sizeE _)) (by with_reducible assumption) ?_
  simp only [Act.put, List.setIfInBounds_toArray, List.set_cons_zero, List.set_cons_succ, List.getElem_toArray, List.getElem_cons_zero, List.getElem_cons_succ]
  refine wpAnyH_take (i := 11) (v := ?_) rfl (by kernel_rfl) (by kernel_rfl) (by kernel_rfl) (fun _ _ _ h => h) (Or.inl ⟨by rfl, fun v hv => ?_⟩) (by with_reducible assumption) ?_
  rotate_left
  · go_simp
    try with_reducible rfl
  simp only [Act.put, List.setIfInBounds_toArray, List.set_cons_zero, List.set_cons_succ, List.getElem_toArray, List.getElem_cons_zero, List.getElem_cons_succ]
  refine wpAnyH_take (i := 12) (v := ?_) rfl (by kernel_rfl) (by kernel_rfl) (by kernel_rfl) (fun _ _ _ h => h) (Or.inl ⟨by rfl, fun v hv => ?_⟩) (by with_reducible assumption) ?_
  rotate_left
  · go_simp
    try with_reducible rfl
  simp only [Act.put, List.setIfInBounds_toArray, List.set_cons_zero, List.set_cons_succ, List.getElem_toArray, List.getElem_cons_zero, List.getElem_cons_succ]
  refine wpAnyH_take (i := 13) (v := ?_) rfl (by kernel_rfl) (by kernel_rfl) (by kernel_rfl) (fun _ _ _ h => h) (Or.inl ⟨by rfl, fun v hv => ?_⟩) (by with_reducible assumption) ?_
  rotate_left
  · go_simp
    try with_reducible rfl
  simp only [Act.put, List.setIfInBounds_toArray, List.set_cons_zero, List.set_cons_succ, List.getElem_toArray, List.getElem_cons_zero, List.getElem_cons_succ]
  refine wpAnyH_take (i := 14) (v := ?_) rfl (by kernel_rfl) (by kernel_rfl) (by kernel_rfl) (fun _ _ _ h => h) (Or.inl ⟨by rfl, fun v hv => ?_⟩) (by with_reducible assumption) ?_
  rotate_left
  · go_simp
    try with_reducible rfl
  simp only [Act.put, List.setIfInBounds_toArray, List.set_cons_zero, List.set_cons_succ, List.getElem_toArray, List.getElem_cons_zero, List.getElem_cons_succ]
  refine wpAnyH_take (i := 15) (v := .agg (wds 4 fun k => f (p * 12 + s * 4 + k)).toArray) rfl (by kernel_rfl) (by kernel_rfl) (by kernel_rfl) (fun _ _ _ h => h) (yieldsIf_load_mid (by rfl) 27 (.tmp 35) rfl (w.heap.size) (p * 12 + s * 4) rfl (wds 4 fun k => f (p * 12 + s * 4 + k)) _ (fun v hv => OC.out v hv) Tryd.underlying27 rfl (sizeE _)) (by with_reducible assumption) ?_
  simp only [Act.put, List.setIfInBounds_toArray, List.set_cons_zero, List.set_cons_succ, List.getElem_toArray, List.getElem_cons_zero, List.getElem_cons_succ]
  refine wpAnyH_take (i := 16) (v := ?_) rfl (by kernel_rfl) (by kernel_rfl) (by kernel_rfl) (fun _ _ _ h => h) (Or.inl ⟨by rfl, fun v hv => ?_⟩) (by with_reducible assumption) ?_
  rotate_left
  · go_simp
    try with_reducible rfl
  simp only [Act.put, List.setIfInBounds_toArray, List.set_cons_zero, List.set_cons_succ, List.getElem_toArray, List.getElem_cons_zero, List.getElem_cons_succ]
  refine wpAnyH_take (i := 17) (v := ?_) rfl (by kernel_rfl) (by kernel_rfl) (by kernel_rfl) (fun _ _ _ h => h) (Or.inl ⟨by rfl, fun v hv => ?_⟩) (by with_reducible assumption) ?_
  rotate_left
  · go_simp
    try with_reducible rfl
  simp only [Act.put, List.setIfInBounds_toArray, List.set_cons_zero, List.set_cons_succ, List.getElem_toArray, List.getElem_cons_zero, List.getElem_cons_succ]
  refine wpAnyH_take (i := 18) (v := ?_) rfl (by kernel_rfl) (by kernel_rfl) (by kernel_rfl) (fun _ _ _ h => h) (Or.inl ⟨by rfl, fun v hv => ?_⟩) (by with_reducible assumption) ?_
  rotate_left
  · go_simp
    try with_reducible rfl
  simp only [Act.put, List.setIfInBounds_toArray, List.set_cons_zero, List.set_cons_succ, List.getElem_toArray, List.getElem_cons_zero, List.getElem_cons_succ]
  refine wpAnyH_take (i := 19) (v := ?_) rfl (by kernel_rfl) (by kernel_rfl) (by kernel_rfl) (fun _ _ _ h => h) (Or.inl ⟨by rfl, fun v hv => ?_⟩) (by with_reducible assumption) ?_
  rotate_left
  · go_simp
    try with_reducible rfl
  simp only [Act.put, List.setIfInBounds_toArray, List.set_cons_zero, List.set_cons_succ, List.getElem_toArray, List.getElem_cons_zero, List.getElem_cons_succ]
  refine wpAnyH_take (i := 20) (v := .agg (wds 4 fun k => f (q * 12 + r * 4 + k)).toArray) rfl (by kernel_rfl) (by kernel_rfl) (by kernel_rfl) (fun _ _ _ h => h) (yieldsIf_load_mid (by rfl) 27 (.tmp 40) rfl (w.heap.size) (q * 12 + r * 4) rfl (wds 4 fun k => f (q * 12 + r * 4 + k)) _ (fun v hv => OD.out v hv) Tryd.underlying27 rfl (sizeE _)) (by with_reducible assumption) ?_
  simp only [Act.put, List.setIfInBounds_toArray, List.set_cons_zero, List.set_cons_succ, List.getElem_toArray, List.getElem_cons_zero, List.getElem_cons_succ]
  refine wpAnyH_ready (rs := [10]) (by kernel_rfl) (by simp) ?_
  refine (AllReadyH.cons rfl (fun K hK => ?_) AllReadyH.nil)
  go_simp
  go_at_call 17
  with_reducible refine (emulZ_c _ _ _ _ w2.drew EA.out EB.out (HG.out.up hb)).mono ?_
  rintro e wq1 ⟨_, rfl, he1, hbq1⟩
  have h1_q1 := (h1).up hbq1
  have h2_q1 := (h2).up hbq1
  have b_q1 := bchain hb hbq1
  try dsimp only
  refine hK.out _ _ (h1_q1) (fun hHeld => ?_)
  clear hK K
  try simp only [Act.put, List.setIfInBounds_toArray, List.set_cons_zero, List.set_cons_succ, List.getElem_toArray, List.getElem_cons_zero, List.getElem_cons_succ]
  refine wpAnyH_ready (rs := [21]) (by kernel_rfl) (by simp) ?_
  refine (AllReadyH.cons rfl (fun K hK => ?_) AllReadyH.nil)
  go_simp
  go_at_call 17
  with_reducible refine (emulZ_c _ _ _ _ wq1 EC.out ED.out (HG.out.up b_q1)).mono ?_
  rintro e wq2 ⟨_, rfl, he2, hbq2⟩
  have h1_q2 := (h1_q1).up hbq2
  have h2_q2 := (h2_q1).up hbq2
  have b_q2 := bchain b_q1 hbq2
  try dsimp only
  refine hK.out _ _ (h1_q2) (fun hHeld => ?_)
  clear hK K
  try simp only [Act.put, List.setIfInBounds_toArray, List.set_cons_zero, List.set_cons_succ, List.getElem_toArray, List.getElem_cons_zero, List.getElem_cons_succ]
  refine wpAnyH_ready (rs := [22]) (by kernel_rfl) (by simp) ?_
  refine (AllReadyH.cons rfl (fun K hK => ?_) AllReadyH.nil)
  go_simp
  go_at_call 38
  with_reducible refine (esubZ_c _ _ _ _ wq2 he1 he2 (HG.out.up b_q2)).mono ?_
  rintro e wq3 ⟨_, rfl, he3, hbq3⟩
  have h1_q3 := (h1_q2).up hbq3
  have h2_q3 := (h2_q2).up hbq3
  have b_q3 := bchain b_q2 hbq3
  obtain ⟨gr, rfl⟩ := he3.fn
  try dsimp only
  refine hK.out _ _ (h1_q3) (fun hHeld => ?_)
  clear hK K
  try simp only [Act.put, List.setIfInBounds_toArray, List.set_cons_zero, List.set_cons_succ, List.getElem_toArray, List.getElem_cons_zero, List.getElem_cons_succ]
  refine wpAnyH_ready (rs := [23]) (by kernel_rfl) (by simp) ?_
  refine (AllReadyH.cons rfl (fun K hK => ?_) AllReadyH.nil)
  refine ready_go (by rfl) ?_
  refine wp_store_mid 27 (.tmp 6) (.tmp 43) rfl (w.heap.size + 1) (0) (wds 4 gr).toArray rfl rfl ((h2_q3).thereW 0 4 gr (by decide)) (sizeEA _) (wds_all _ _) ?_
  have HR := hid ((h2_q3).lay0 gr).range
  have hxq4 := BlkV.put (show w.heap.size ≠ w.heap.size + 1 by omega) (wds 4 gr) 0 _ (h1_q3)
  have hyq4 := below_cells (show w.heap.size ≤ w.heap.size + 1 by omega) (wds 4 gr) 0 _ (b_q3)
  refine hK.out _ _ (hxq4) (fun hHeld => ?_)
  clear hK K
  try simp only [Act.put, List.setIfInBounds_toArray, List.set_cons_zero, List.set_cons_succ, List.getElem_toArray, List.getElem_cons_zero, List.getElem_cons_succ]
  refine wpAnyH_done (by kernel_rfl) ?_ _
  go_wp2_with fail
  refine bodyPost_ret (results_cell1 Tryd.results37 ⟨w.heap.size + 1, 0, none⟩ _ rfl (run_loadVar_mid _ (w.heap.size + 1) 0 27 (wds 4 gr) _ HR.out Tryd.underlying27 rfl (sizeE _))) rfl ?_
  exact ⟨_, rfl, he3, hyq4⟩
end Go.Proofs.YtdepkfdceidikaaDoor
