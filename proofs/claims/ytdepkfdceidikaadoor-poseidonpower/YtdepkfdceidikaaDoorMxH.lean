/-
  matrix.Mul, Cauchy, Unit and their functions: what each call does.
-/
import Derived.Test.YtdepkfdceidikaaDoorMxG
namespace Go.Proofs.YtdepkfdceidikaaDoor
open Go.RowKit
set_option linter.unusedVariables false
set_option linter.unusedSimpArgs false


theorem dotZ_mul (X Y : MZ) (i j : Nat) : dotZ (X i) (fun k => Y k j) 3 = mzMul X Y i j := by
  show 0 + X i 0 * Y 0 j + X i 1 * Y 1 j + X i 2 * Y 2 j = X i 0 * Y 0 j + X i 1 * Y 1 j + X i 2 * Y 2 j
  rw [Int.zero_add]
set_option maxRecDepth 20000 in
set_option maxHeartbeats 1000000 in
theorem mul1_c (f g : Nat → Int) (X Y : MZ) (b2 b3 i j : Nat) (hi : i < 3) (hj : j < 3) (w : World) (hX : MatZ f X) (hY : MatZ g Y) (h2 : BlkV w b2 40 (wds 36 f)) (h3 : BlkV w b3 40 (wds 36 g)) (hG : Glob w) :
    Calls Tryd.prog 33 #[.int .i64 (i : Int), .int .i64 (j : Int), .pointer (some ⟨b2, 0, none⟩), .pointer (some ⟨b3, 0, none⟩)] w fun e w' => ∃ r, e = .returned r ∧ Ez r (mzMul X Y i j) ∧ Below w.heap.size w w' := by
  have hz := zeroE
  have hlz := wds_len 4 z0
  have HA := hid ((h2.alloc (oF 27 4 z0)))
  have HB := hid ((h3.alloc (oF 27 4 z0)))
  have HN := hid (oF_new w 27 4 z0)
  have HW := hid ((Below.refl w.heap.size w).alloc (Nat.le_refl _) (oF 27 4 z0))
  have hb2 := h2.size
  have hb3 := h3.size
  have OA : Hid (∀ v, BlkV v b2 40 (wds 36 f) → v.rangeAt b2 (i * 12) (wds 12 fun k => f (i * 12 + k))) := fun v hv => hv.sub _ 12 (by omega)
  have EA := hid (hX.row hi)
  obtain ⟨a, ha⟩ : ∃ a : Nat → Int, a = fun k => f (i * 12 + k) := ⟨_, rfl⟩
  rw [← ha] at OA EA
  have HY := hid hY
  have HG := hid hG
  have HD := hid (dotZ_mul X Y i j)
  have i0 : (0 : Int) ≤ (i : Int) := by omega
  have i2 : (i : Int) < 3 := by omega
  clear h2 h3 hX hY hG ha
  unfold oF at HA HB HN HW
  go_enter Tryd.func33, Tryd.ntmps33
  go_wp2_with fail
  have hx0 := HA.out.up (Below.refl _ _).drew
  have hy0 := HB.out.up (Below.refl _ _).drew
  have hn0 := HN.out.up (Below.refl _ _).drew
  have b0 := bchain HW.out (Below.refl _ _).drew
  refine wp_region_held_drew (S := fun v => BlkV v b2 40 (wds 36 f) ∧ BlkV v b3 40 (wds 36 g)) (by kernel_rfl) ⟨hx0, hy0⟩ (fun hHeld => ?_)
  refine wpAnyH_take (i := 0) (v := ?_) rfl (by kernel_rfl) (by kernel_rfl) (by kernel_rfl) (fun _ _ _ h => h) (Or.inl ⟨by rfl, fun v hv => ?_⟩) (by with_reducible assumption) ?_
  rotate_left
  · go_simp
    try with_reducible rfl
  simp only [Act.put, List.setIfInBounds_toArray, List.set_cons_zero, List.set_cons_succ, List.getElem_toArray, List.getElem_cons_zero, List.getElem_cons_succ]
  refine wpAnyH_take (i := 1) (v := ?_) rfl (by kernel_rfl) (by kernel_rfl) (by kernel_rfl) (fun _ _ _ h => h) (Or.inl ⟨by rfl, fun v hv => ?_⟩) (by with_reducible assumption) ?_
  rotate_left
  · go_simp
    try with_reducible rfl
  simp only [Act.put, List.setIfInBounds_toArray, List.set_cons_zero, List.set_cons_succ, List.getElem_toArray, List.getElem_cons_zero, List.getElem_cons_succ]
  refine wpAnyH_take (i := 2) (v := .agg (wds 12 a).toArray) rfl (by kernel_rfl) (by kernel_rfl) (by kernel_rfl) (fun _ _ _ h => h) (yieldsIf_load_mid (by rfl) 38 (.tmp 8) rfl (b2) (i * 12) rfl (wds 12 a) _ (fun v hv => OA.out v hv.1) Tryd.underlying38 rfl (sizeV _)) (by with_reducible assumption) ?_
  simp only [Act.put, List.setIfInBounds_toArray, List.set_cons_zero, List.set_cons_succ, List.getElem_toArray, List.getElem_cons_zero, List.getElem_cons_succ]
  refine wpAnyH_take (i := 3) (v := .agg (wds 36 g).toArray) rfl (by kernel_rfl) (by kernel_rfl) (by kernel_rfl) (fun _ _ _ h => h) (yieldsIf_load_mid (by rfl) 40 (.tmp 3) rfl (b3) (0) rfl (wds 36 g) _ (fun v hv => hv.2.range) Tryd.underlying40 rfl (sizeM _)) (by with_reducible assumption) ?_
  simp only [Act.put, List.setIfInBounds_toArray, List.set_cons_zero, List.set_cons_succ, List.getElem_toArray, List.getElem_cons_zero, List.getElem_cons_succ]
  refine wpAnyH_take (i := 4) (v := ?_) rfl (by kernel_rfl) (by kernel_rfl) (by kernel_rfl) (fun _ _ _ h => h) (Or.inl ⟨by rfl, fun v hv => ?_⟩) (by with_reducible assumption) ?_
  rotate_left
  · go_simp
    try with_reducible rfl
  simp only [Act.put, List.setIfInBounds_toArray, List.set_cons_zero, List.set_cons_succ, List.getElem_toArray, List.getElem_cons_zero, List.getElem_cons_succ]
  refine wpAnyH_ready (rs := [5]) (by kernel_rfl) (by simp) ?_
  refine (AllReadyH.cons rfl (fun K hK => ?_) AllReadyH.nil)
  go_simp
  go_at_call 35
  with_reducible refine (column_c g Y j hj (w.alloc (.cells (wds 4 z0).toArray 27)).drew HY.out).mono ?_
  rintro e wq1 ⟨gc, rfl, he1, hbq1⟩
  have hx_q1 := (hx0).up hbq1
  have hy_q1 := (hy0).up hbq1
  have hn_q1 := (hn0).up hbq1
  have b_q1 := bchain b0 hbq1
  try dsimp only
  refine hK.out _ _ (⟨hx_q1, hy_q1⟩) (fun hHeld => ?_)
  clear hK K
  try simp only [Act.put, List.setIfInBounds_toArray, List.set_cons_zero, List.set_cons_succ, List.getElem_toArray, List.getElem_cons_zero, List.getElem_cons_succ]
  refine wpAnyH_ready (rs := [6]) (by kernel_rfl) (by simp) ?_
  refine (AllReadyH.cons rfl (fun K hK => ?_) AllReadyH.nil)
  go_simp
  go_at_call 34
  with_reducible refine (times_c _ _ _ _ wq1 EA.out he1 (HG.out.up b_q1)).mono ?_
  rintro e wq2 ⟨_, rfl, he2, hbq2⟩
  have hx_q2 := (hx_q1).up hbq2
  have hy_q2 := (hy_q1).up hbq2
  have hn_q2 := (hn_q1).up hbq2
  have b_q2 := bchain b_q1 hbq2
  obtain ⟨gr, rfl⟩ := he2.fn
  try dsimp only
  refine hK.out _ _ (⟨hx_q2, hy_q2⟩) (fun hHeld => ?_)
  clear hK K
  try simp only [Act.put, List.setIfInBounds_toArray, List.set_cons_zero, List.set_cons_succ, List.getElem_toArray, List.getElem_cons_zero, List.getElem_cons_succ]
  refine wpAnyH_ready (rs := [7]) (by kernel_rfl) (by simp) ?_
  refine (AllReadyH.cons rfl (fun K hK => ?_) AllReadyH.nil)
  refine ready_go (by rfl) ?_
  refine wp_store_mid 27 (.tmp 6) (.tmp 13) rfl (w.heap.size) (0) (wds 4 gr).toArray rfl rfl ((hn_q2).thereW 0 4 gr (by decide)) (sizeEA _) (wds_all _ _) ?_
  have HR := hid ((hn_q2).lay0 gr).range
  have hxq3 := BlkV.put (show b2 ≠ w.heap.size by omega) (wds 4 gr) 0 _ (hx_q2)
  have hyq3 := BlkV.put (show b3 ≠ w.heap.size by omega) (wds 4 gr) 0 _ (hy_q2)
  have hwq3 := below_cells (Nat.le_refl w.heap.size) (wds 4 gr) 0 _ (b_q2)
  refine hK.out _ _ (⟨hxq3, hyq3⟩) (fun hHeld => ?_)
  clear hK K
  try simp only [Act.put, List.setIfInBounds_toArray, List.set_cons_zero, List.set_cons_succ, List.getElem_toArray, List.getElem_cons_zero, List.getElem_cons_succ]
  refine wpAnyH_done (by kernel_rfl) ?_ _
  go_wp2_with fail
  refine bodyPost_ret (results_cell1 Tryd.results33 ⟨w.heap.size, 0, none⟩ _ rfl (run_loadVar_mid _ w.heap.size 0 27 (wds 4 gr) _ HR.out Tryd.underlying27 rfl (sizeE _))) rfl ?_
  exact ⟨_, rfl, HD.out ▸ he2, hwq3⟩
set_option maxRecDepth 20000 in
set_option maxHeartbeats 1000000 in
theorem mxMul_c (f g : Nat → Int) (X Y : MZ) (w : World) (hX : MatZ f X) (hY : MatZ g Y) (hG : Glob w) :
    Calls Tryd.prog 13 #[.agg (wds 36 f).toArray, .agg (wds 36 g).toArray] w fun e w' => ∃ r, e = .returned (.agg (wds 36 r).toArray) ∧ MatZ r (mzMul X Y) ∧ Below w.heap.size w w' := by
  have hz := zeroM
  have hlz := wds_len 36 z0
  have hlf := wds_len 36 f
  have hlg := wds_len 36 g
  have hmf : ∀ (fn : Fn) (first cap : Array Value) (w : World), (Instr.makeFunc fn first cap).run Tryd.prog w = .ok (.func fn first cap) w := fun _ _ _ _ => rfl
  have e1 : (w.alloc (oF 40 36 f)).heap.size = w.heap.size + 1 := by simp
  have e2 : ((w.alloc (oF 40 36 f)).alloc (oF 40 36 g)).heap.size = w.heap.size + 1 + 1 := by simp
  have h1 := ((oF_new w 40 36 f).alloc (oF 40 36 g)).alloc (oF 40 36 z0)
  have h2 := (oF_new (w.alloc (oF 40 36 f)) 40 36 g).alloc (oF 40 36 z0)
  have h3 := oF_new ((w.alloc (oF 40 36 f)).alloc (oF 40 36 g)) 40 36 z0
  rw [e1] at h2
  rw [e2] at h3
  have hb := (((Below.refl w.heap.size w).alloc (Nat.le_refl _) (oF 40 36 f)).alloc (by omega) (oF 40 36 g)).alloc (by omega) (oF 40 36 z0)
  have H1 := hid h1
  have H2 := hid h2
  have H3 := hid h3
  have HB := hid hb
  have HX := hid hX
  have HY := hid hY
  have HG := hid hG
  clear h1 h2 h3 hb e1 e2 hX hY hG
  unfold oF at H1 H2 H3 HB
  go_enter Tryd.func13, Tryd.ntmps13
  go_wp2_with fail
  generalize (((w.alloc _).alloc _).alloc _) = w0 at *
  refine (filled_c 33 #[] #[.pointer (some ⟨w.heap.size, 0, none⟩), .pointer (some ⟨w.heap.size + 1, 0, none⟩)] (mzMul X Y) w0 (fun A v => by kernel_rfl)
    (fun v i j hi hj hv => mul1_c f g X Y w.heap.size (w.heap.size + 1) i j hi hj v HX.out HY.out (H1.out.up hv) (H2.out.up hv) (HG.out.up (bchain HB.out hv)))).mono ?_
  rintro e w1 ⟨r, rfl, hr, b1⟩
  have h3 := H3.out.up b1
  have HT := hid (h3.thereW 0 36 r (by decide))
  have HR := hid (h3.lay0 r).range
  have HV := hid hr
  have HB1 := hid (below_cells (show w.heap.size ≤ w.heap.size + 1 + 1 by omega) (wds 36 r) 0 _ (bchain HB.out b1))
  clear h3 hr b1
  go_wp2_with (first
    | with_reducible refine wpList_store_mid rfl 40 (.tmp 4) (.tmp 6) rfl (w.heap.size + 1 + 1) (0) (wds 36 r).toArray rfl rfl (by with_reducible exact HT.out) (sizeMA _) (wds_all _ _) ?_)
  refine bodyPost_ret (results_cell1 Tryd.results13 ⟨w.heap.size + 1 + 1, 0, none⟩ _ rfl (run_loadVar_mid _ (w.heap.size + 1 + 1) 0 40 (wds 36 r) _ HR.out Tryd.underlying40 rfl (sizeM _))) rfl ?_
  exact ⟨_, rfl, HV.out, HB1.out⟩
/-- Cauchy's matrix. -/
def mzCauchy : MZ := fun i j => invZ ((i + j + 3 : Nat) : Int)
set_option maxRecDepth 20000 in
set_option maxHeartbeats 1000000 in
theorem cauchy1_c (i j : Nat) (hi : i < 3) (hj : j < 3) (w : World) (hG : Glob w) :
    Calls Tryd.prog 49 #[.int .i64 (i : Int), .int .i64 (j : Int)] w fun e w' => ∃ r, e = .returned r ∧ Ez r (mzCauchy i j) ∧ Below w.heap.size w w' := by
  have hz := zeroE
  have hlz := wds_len 4 z0
  have HN := hid (oF_new w 27 4 z0)
  have HW := hid ((Below.refl w.heap.size w).alloc (Nat.le_refl _) (oF 27 4 z0))
  have HG := hid hG
  have hw1 : IntKind.u64.wrap ((i : Int) + (j : Int) + 3) = ((i + j + 3 : Nat) : Int) := by rw [IntKind.wrap_u64]; omega
  obtain ⟨n, hn⟩ : ∃ n, n = i + j + 3 := ⟨_, rfl⟩
  have HX : Hid (mzCauchy i j = invZ ((n : Nat) : Int)) := by rw [hn]; exact rfl
  rw [HX.out]
  rw [← hn] at hw1
  have hn64 : n < 18446744073709551616 := by omega
  have i2 : (i : Int) < 3 := by omega
  have j2 : (j : Int) < 3 := by omega
  clear hG HX hn
  unfold oF at HN HW
  go_enter Tryd.func49, Tryd.ntmps49
  go_wp2_with fail
  generalize (w.alloc _) = w0 at *
  refine (fromUint64Z_c n w0 hn64 (HG.out.up HW.out)).mono ?_
  rintro e w1 ⟨r1, rfl, he1, b1⟩
  have HE := hid he1
  have B1 := hid b1
  clear he1 b1
  go_wp2_with fail
  refine (einverseZ_c r1 _ w1 HE.out (HG.out.up (bchain HW.out B1.out))).mono ?_
  rintro e w2 ⟨r2, rfl, he2, b2⟩
  obtain ⟨gr, rfl⟩ := he2.fn
  have h3 := (HN.out.up B1.out).up b2
  have HT := hid (h3.thereW 0 4 gr (by decide))
  have HR := hid (h3.lay0 gr).range
  have HV := hid he2
  have HB1 := hid (below_cells (Nat.le_refl w.heap.size) (wds 4 gr) 0 _ (bchain HW.out (bchain B1.out b2)))
  clear h3 he2 b2
  go_wp2_with (first
    | with_reducible refine wpList_store_mid rfl 27 (.tmp 4) (.tmp 11) rfl (w.heap.size) (0) (wds 4 gr).toArray rfl rfl (by with_reducible exact HT.out) (sizeEA _) (wds_all _ _) ?_)
  refine bodyPost_ret (results_cell1 Tryd.results49 ⟨w.heap.size, 0, none⟩ _ rfl (run_loadVar_mid _ w.heap.size 0 27 (wds 4 gr) _ HR.out Tryd.underlying27 rfl (sizeE _))) rfl ?_
  exact ⟨_, rfl, HV.out, HB1.out⟩
set_option maxRecDepth 20000 in
set_option maxHeartbeats 1000000 in
theorem cauchy_c (w : World) (hG : Glob w) :
    Calls Tryd.prog 28 #[] w fun e w' => ∃ r, e = .returned (.agg (wds 36 r).toArray) ∧ MatZ r mzCauchy ∧ Below w.heap.size w w' := by
  have hz := zeroM
  have hlz := wds_len 36 z0
  have HN := hid (oF_new w 40 36 z0)
  have HW := hid ((Below.refl w.heap.size w).alloc (Nat.le_refl _) (oF 40 36 z0))
  have HG := hid hG
  clear hG
  unfold oF at HN HW
  go_enter Tryd.func28, Tryd.ntmps28
  go_wp2_with fail
  generalize (w.alloc _) = w0 at *
  refine (filled_c 49 #[] #[] mzCauchy w0 (fun A v => by kernel_rfl) (fun v i j hi hj hv => cauchy1_c i j hi hj v (HG.out.up (bchain HW.out hv)))).mono ?_
  rintro e w1 ⟨r, rfl, hr, b1⟩
  have h3 := HN.out.up b1
  have HT := hid (h3.thereW 0 36 r (by decide))
  have HR := hid (h3.lay0 r).range
  have HV := hid hr
  have HB1 := hid (below_cells (Nat.le_refl w.heap.size) (wds 36 r) 0 _ (bchain HW.out b1))
  clear h3 hr b1
  go_wp2_with (first
    | with_reducible refine wpList_store_mid rfl 40 (.tmp 0) (.tmp 1) rfl (w.heap.size) (0) (wds 36 r).toArray rfl rfl (by with_reducible exact HT.out) (sizeMA _) (wds_all _ _) ?_)
  refine bodyPost_ret (results_cell1 Tryd.results28 ⟨w.heap.size, 0, none⟩ _ rfl (run_loadVar_mid _ w.heap.size 0 40 (wds 36 r) _ HR.out Tryd.underlying40 rfl (sizeM _))) rfl ?_
  exact ⟨_, rfl, HV.out, HB1.out⟩
set_option maxRecDepth 20000 in
set_option maxHeartbeats 1000000 in
theorem unit1_c (i j : Nat) (hi : i < 3) (hj : j < 3) (w : World) (hG : Glob w) :
    Calls Tryd.prog 36 #[.int .i64 (i : Int), .int .i64 (j : Int)] w fun e w' => ∃ r, e = .returned r ∧ Ez r (mzUnit i j) ∧ Below w.heap.size w w' := by
  have hz := zeroE
  have hlz := wds_len 4 z0
  have HN := hid (oF_new w 27 4 z0)
  have HW := hid ((Below.refl w.heap.size w).alloc (Nat.le_refl _) (oF 27 4 z0))
  have HG := hid hG
  clear hG
  unfold oF at HN HW
  by_cases hij : i = j
  · subst hij
    have HX : Hid (mzUnit i i = 1) := if_pos rfl
    rw [HX.out]
    go_enter Tryd.func36, Tryd.ntmps36
    go_wp2_with fail
    generalize (w.alloc _) = w0 at *
    refine (fromUint64Z_c 1 w0 (by decide) (HG.out.up HW.out)).mono ?_
    rintro e w1 ⟨r1, rfl, he1, b1⟩
    obtain ⟨gr, rfl⟩ := he1.fn
    have h3 := HN.out.up b1
    have HT := hid (h3.thereW 0 4 gr (by decide))
    have HR := hid (h3.lay0 gr).range
    have HV := hid he1
    have HB1 := hid (below_cells (Nat.le_refl w.heap.size) (wds 4 gr) 0 _ (bchain HW.out b1))
    clear h3 he1 b1
    go_wp2_with (first
    | with_reducible refine wpList_store_mid rfl 27 (.tmp 4) (.tmp 8) rfl (w.heap.size) (0) (wds 4 gr).toArray rfl rfl (by with_reducible exact HT.out) (sizeEA _) (wds_all _ _) ?_)
    refine bodyPost_ret (results_cell1 Tryd.results36 ⟨w.heap.size, 0, none⟩ _ rfl (run_loadVar_mid _ w.heap.size 0 27 (wds 4 gr) _ HR.out Tryd.underlying27 rfl (sizeE _))) rfl ?_
    exact ⟨_, rfl, HV.out, HB1.out⟩
  · have HX : Hid (mzUnit i j = 0) := if_neg hij
    rw [HX.out]
    have hd : decide (i = j) = false := decide_eq_false hij
    have hd2 : decide ((i : Int) = (j : Int)) = false := decide_eq_false (by omega)
    have hd3 : ((i : Int) == (j : Int)) = false := by simp; omega
    have HT := hid (HN.out.thereW 0 4 z0 (by decide))
    have HR := hid (HN.out.lay0 z0).range
    have HB1 := hid (below_cells (Nat.le_refl w.heap.size) (wds 4 z0) 0 _ HW.out)
    go_enter Tryd.func36, Tryd.ntmps36
    go_wp2_with (first
    | with_reducible refine wpList_store_mid rfl 27 (.tmp 4) (.tmp 9) rfl (w.heap.size) (0) (wds 4 z0).toArray rfl rfl (by with_reducible exact HT.out) (sizeEA _) (wds_all _ _) ?_)
    refine bodyPost_ret (results_cell1 Tryd.results36 ⟨w.heap.size, 0, none⟩ _ rfl (run_loadVar_mid _ w.heap.size 0 27 (wds 4 z0) _ HR.out Tryd.underlying27 rfl (sizeE _))) rfl ?_
    exact ⟨_, rfl, (Ef.zero 0).one', HB1.out⟩
set_option maxRecDepth 20000 in
set_option maxHeartbeats 1000000 in
theorem unit_c (w : World) (hG : Glob w) :
    Calls Tryd.prog 15 #[] w fun e w' => ∃ r, e = .returned (.agg (wds 36 r).toArray) ∧ MatZ r mzUnit ∧ Below w.heap.size w w' := by
  have hz := zeroM
  have hlz := wds_len 36 z0
  have HN := hid (oF_new w 40 36 z0)
  have HW := hid ((Below.refl w.heap.size w).alloc (Nat.le_refl _) (oF 40 36 z0))
  have HG := hid hG
  clear hG
  unfold oF at HN HW
  go_enter Tryd.func15, Tryd.ntmps15
  go_wp2_with fail
  generalize (w.alloc _) = w0 at *
  refine (filled_c 36 #[] #[] mzUnit w0 (fun A v => by kernel_rfl) (fun v i j hi hj hv => unit1_c i j hi hj v (HG.out.up (bchain HW.out hv)))).mono ?_
  rintro e w1 ⟨r, rfl, hr, b1⟩
  have h3 := HN.out.up b1
  have HT := hid (h3.thereW 0 36 r (by decide))
  have HR := hid (h3.lay0 r).range
  have HV := hid hr
  have HB1 := hid (below_cells (Nat.le_refl w.heap.size) (wds 36 r) 0 _ (bchain HW.out b1))
  clear h3 hr b1
  go_wp2_with (first
    | with_reducible refine wpList_store_mid rfl 40 (.tmp 0) (.tmp 1) rfl (w.heap.size) (0) (wds 36 r).toArray rfl rfl (by with_reducible exact HT.out) (sizeMA _) (wds_all _ _) ?_)
  refine bodyPost_ret (results_cell1 Tryd.results15 ⟨w.heap.size, 0, none⟩ _ rfl (run_loadVar_mid _ w.heap.size 0 40 (wds 36 r) _ HR.out Tryd.underlying40 rfl (sizeM _))) rfl ?_
  exact ⟨_, rfl, HV.out, HB1.out⟩
end Go.Proofs.YtdepkfdceidikaaDoor
