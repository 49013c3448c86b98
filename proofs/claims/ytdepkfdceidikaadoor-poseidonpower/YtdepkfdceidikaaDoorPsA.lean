import Derived.Test.YtdepkfdceidikaaDoorMxK
/-
  avouchlaw09.speaks: what the call does.
-/
namespace Go.Proofs.YtdepkfdceidikaaDoor
open Go.RowKit
set_option linter.unusedVariables false
set_option linter.unusedSimpArgs false


theorem anyZ_congr {Xs Ys : List Int} (h : ∀ i, Xs.getD i 0 % pZ = Ys.getD i 0 % pZ) : ∀ n, anyZ Xs n = anyZ Ys n
  | 0 => rfl
  | n + 1 => by
    show (anyZ Xs n || decide (Xs.getD n 0 % pZ = 0)) = (anyZ Ys n || decide (Ys.getD n 0 % pZ = 0))
    rw [anyZ_congr h n, h n]
/-- Matrices that are the same modulo the prime have the same determinants. -/
def MCong (X Y : MZ) : Prop := ∀ i j, i < 3 → j < 3 → X i j % pZ = Y i j % pZ
theorem wo_cong {X Y : MZ} (h : MCong X Y) : MCong (mzWo X) (mzWo Y) := fun i j hi hj =>
  zsub_congr (zmul_congr2 (h _ _ (otL_lt hi) (otL_lt hj)) (h _ _ (otR_lt hi) (otR_lt hj))) (zmul_congr2 (h _ _ (otL_lt hi) (otR_lt hj)) (h _ _ (otR_lt hi) (otL_lt hj)))
theorem det_cong {X Y : MZ} (h : MCong X Y) : mzDet X % pZ = mzDet Y % pZ := by
  rw [← mzDet_P, ← mzDet_P]
  exact zadd_congr (zsub_congr (zmul_congr2 (h 0 0 (by decide) (by decide)) (wo_cong h 0 0 (by decide) (by decide))) (zmul_congr2 (h 0 1 (by decide) (by decide)) (wo_cong h 0 1 (by decide) (by decide)))) (zmul_congr2 (h 0 2 (by decide) (by decide)) (wo_cong h 0 2 (by decide) (by decide)))
theorem mod_app {A B C D : List Int} (h : A.map (· % pZ) = B.map (· % pZ)) (k : C.map (· % pZ) = D.map (· % pZ)) : (A ++ C).map (· % pZ) = (B ++ D).map (· % pZ) := by rw [List.map_append, List.map_append, h, k]
theorem rows_cong {X Y : MZ} (h : MCong X Y) : ∀ k, k ≤ 3 → (rowsL X k).map (· % pZ) = (rowsL Y k).map (· % pZ)
  | 0, _ => rfl
  | k + 1, hk => mod_app (rows_cong h k (by omega)) (by simp only [List.map_cons, List.map_nil]; rw [h k 0 (by omega) (by decide), h k 1 (by omega) (by decide), h k 2 (by omega) (by decide)])
theorem minors_cong {X Y : MZ} (h : MCong X Y) : (minorsL X).map (· % pZ) = (minorsL Y).map (· % pZ) :=
  mod_app (mod_app (rows_cong h 3 (by decide)) (rows_cong (wo_cong h) 3 (by decide))) (by simp only [List.map_cons, List.map_nil]; rw [det_cong h])
theorem getD_mod {A B : List Int} (h : A.map (· % pZ) = B.map (· % pZ)) (i : Nat) : A.getD i 0 % pZ = B.getD i 0 % pZ := by
  have := congrArg (fun l : List Int => l[i]?) h
  simp only [List.getElem?_map] at this
  rw [List.getD_eq_getElem?_getD, List.getD_eq_getElem?_getD]
  cases ha : A[i]? <;> cases hb : B[i]? <;> rw [ha, hb] at this <;> simp at this <;> simp [this]
theorem anyZ_minors {X Y : MZ} (h : MCong X Y) (n : Nat) : anyZ (minorsL X) n = anyZ (minorsL Y) n := anyZ_congr (getD_mod (minors_cong h)) n
/-- Cauchy's matrix by its numbers. -/
def mzC : MZ := fun i j => cz.getD (i + j) 0
theorem cauchy_cong : MCong mzCauchy mzC := fun i j hi hj => cz_inv (k := i + j) (by omega)
theorem cauchy_good : anyZ (minorsL mzCauchy) 19 = false := by
  rw [anyZ_minors cauchy_cong]
  decide +kernel
theorem unit_bad : anyZ (minorsL mzUnit) 19 = true := by decide +kernel
theorem cauchy_3 : (mzCauchy 0 0 * 3) % pZ = 1 % pZ := by
  have h := invZ_mul (X := 3) (by decide)
  show (invZ 3 * 3) % pZ = _
  rw [Int.mul_comm, h]
  decide
theorem cauchy_00 : mzCauchy 0 0 % pZ ≠ 0 := by
  rw [cauchy_cong 0 0 (by decide) (by decide)]
  decide +kernel
theorem goodC_c (f : Nat → Int) (w : World) (hM : MatZ f mzCauchy) (hG : Glob w) : Calls Tryd.prog 29 #[.agg (wds 36 f).toArray] w fun e w' => e = .returned (.bool true) ∧ Below w.heap.size w w' := by
  have h := good_c f mzCauchy w hM hG
  rw [cauchy_good] at h
  exact h
theorem goodU_c (f : Nat → Int) (w : World) (hM : MatZ f mzUnit) (hG : Glob w) : Calls Tryd.prog 29 #[.agg (wds 36 f).toArray] w fun e w' => e = .returned (.bool false) ∧ Below w.heap.size w w' := by
  have h := good_c f mzUnit w hM hG
  rw [unit_bad] at h
  exact h
theorem from1_c (w : World) (hG : Glob w) : Calls Tryd.prog 18 #[.int .u64 1] w fun e w' => ∃ r, e = .returned r ∧ Ez r 1 ∧ Below w.heap.size w w' := fromUint64Z_c 1 w (by decide) hG
theorem from3_c (w : World) (hG : Glob w) : Calls Tryd.prog 18 #[.int .u64 3] w fun e w' => ∃ r, e = .returned r ∧ Ez r 3 ∧ Below w.heap.size w w' := fromUint64Z_c 3 w (by decide) hG
theorem equal_t (u v : Value) (X Y : Int) (w : World) (hu : Ez u X) (hv : Ez v Y) (h : X % pZ = Y % pZ) : Calls Tryd.prog 8 #[u, v] w fun e w' => e = .returned (.bool true) ∧ Below w.heap.size w w' := by
  have k := eequalZ_c u v X Y w hu hv
  rw [decide_eq_true h] at k
  exact k
theorem isZero_f (u : Value) (X : Int) (w : World) (hu : Ez u X) (h : X % pZ ≠ 0) : Calls Tryd.prog 21 #[u] w fun e w' => e = .returned (.bool false) ∧ Below w.heap.size w w' := by
  have k := eisZeroZ_c u X w hu
  rw [decide_eq_false h] at k
  exact k
theorem isZero_t (u : Value) (X : Int) (w : World) (hu : Ez u X) (h : X % pZ = 0) : Calls Tryd.prog 21 #[u] w fun e w' => e = .returned (.bool true) ∧ Below w.heap.size w w' := by
  have k := eisZeroZ_c u X w hu
  rw [decide_eq_true h] at k
  exact k
set_option maxRecDepth 100000 in
set_option maxHeartbeats 4000000 in
theorem speaks9_c (w : World) (hG : Glob w) : Calls Tryd.prog 10 #[] w fun e w' => e = .returned (.bool true) ∧ Below w.heap.size w w' := by
  have HG := hid hG
  have CC := cauchy_c w hG
  have hz := zeroM
  have hlz := wds_len 36 z0
  clear hG
  go_enter Tryd.func10, Tryd.ntmps10
  go_wp2_with fail
  refine CC.mono ?_
  rintro e w1 ⟨f, rfl, hM, b1⟩
  obtain ⟨n1, n2, n3⟩ := newRow w1 40 36 f
  have HM := hid hM
  have N1 := hid n1
  have N2 := hid n2
  have HB := hid (bchain b1 n3)
  have hlf := wds_len 36 f
  have HE : Hid (Ez (.agg (wds 4 fun k => f (0 + k)).toArray) (mzCauchy 0 0)) := hM.el (i := 0) (j := 0) (by decide) (by decide)
  have OA : Hid (∀ v bt, BlkV v bt 40 (wds 36 f) → v.rangeAt bt 0 (wds 4 fun k => f (0 + k))) := fun v bt hv => hv.sub 0 4 (by decide)
  obtain ⟨a, ha⟩ : ∃ a : Nat → Int, a = fun k => f (0 + k) := ⟨_, rfl⟩
  rw [← ha] at HE OA
  clear CC hM n1 n2 n3 b1 ha
  unfold oF at N1 N2 HB
  go_wp2_with (first
    | with_reducible refine wpList_store_mid rfl 40 (.tmp 1) (.tmp 2) rfl (w1.heap.size) (0) (wds 36 f).toArray rfl rfl (by with_reducible exact N1.out) (sizeMA _) (wds_all _ _) ?_
    | fail)
  obtain ⟨w2, hw2⟩ : ∃ v, v = (w1.alloc (.cells (wds 36 z0).toArray 40)).setCells w1.heap.size 0 (wds 36 f) := ⟨_, rfl⟩
  rw [← hw2] at N2 HB ⊢
  obtain ⟨bt, hbt⟩ : ∃ b, b = w1.heap.size := ⟨_, rfl⟩
  rw [← hbt] at N2 ⊢
  clear hw2 hbt N1
  have hx0 := N2.out.up (Below.refl _ _).drew
  have b0 := bchain HB.out (Below.refl _ _).drew
  refine wp_region_held_drew (S := fun v => BlkV v bt 40 (wds 36 f)) (by kernel_rfl) hx0 (fun hHeld => ?_)
  refine wpAnyH_take (i := 0) (v := .agg (wds 36 f).toArray) rfl (by kernel_rfl) (by kernel_rfl) (by kernel_rfl) (fun _ _ _ h => h) (yieldsIf_load_mid (by rfl) 40 (.tmp 1) rfl (bt) (0) rfl (wds 36 f) _ (fun v hv => hv.range) Tryd.underlying40 rfl (sizeM _)) (by with_reducible assumption) ?_
  simp only [Act.put, List.setIfInBounds_toArray, List.set_cons_zero, List.set_cons_succ, List.getElem_toArray, List.getElem_cons_zero, List.getElem_cons_succ]
  refine wpAnyH_ready (rs := [1]) (by kernel_rfl) (by simp) ?_
  refine (AllReadyH.cons rfl (fun K hK => ?_) AllReadyH.nil)
  go_simp
  go_at_call 29
  with_reducible refine (goodC_c f w2.drew HM.out (HG.out.up b0)).mono ?_
  rintro e wq1 ⟨rfl, hbq1⟩
  have hx_q1 := (hx0).up hbq1
  have b_q1 := bchain b0 hbq1
  try dsimp only
  refine hK.out _ _ (hx_q1) (fun hHeld => ?_)
  clear hK K
  try simp only [Act.put, List.setIfInBounds_toArray, List.set_cons_zero, List.set_cons_succ, List.getElem_toArray, List.getElem_cons_zero, List.getElem_cons_succ]
  refine wpAnyH_take (i := 2) (v := ?_) rfl (by kernel_rfl) (by kernel_rfl) (by kernel_rfl) (fun _ _ _ h => h) (Or.inl ⟨by rfl, fun v hv => ?_⟩) (by with_reducible assumption) ?_
  rotate_left
  · go_simp
    try with_reducible rfl
  simp only [Act.put, List.setIfInBounds_toArray, List.set_cons_zero, List.set_cons_succ, List.getElem_toArray, List.getElem_cons_zero, List.getElem_cons_succ]
  refine wpAnyH_ready (rs := [3]) (by kernel_rfl) (by simp) ?_
  refine (AllReadyH.cons rfl (fun K hK => ?_) AllReadyH.nil)
  go_simp
  go_at_call 15
  with_reducible refine (unit_c wq1 (HG.out.up b_q1)).mono ?_
  rintro e wq2 ⟨fu, rfl, hu, hbq2⟩
  have hx_q2 := (hx_q1).up hbq2
  have b_q2 := bchain b_q1 hbq2
  try dsimp only
  refine hK.out _ _ (hx_q2) (fun hHeld => ?_)
  clear hK K
  try simp only [Act.put, List.setIfInBounds_toArray, List.set_cons_zero, List.set_cons_succ, List.getElem_toArray, List.getElem_cons_zero, List.getElem_cons_succ]
  refine wpAnyH_ready (rs := [4]) (by kernel_rfl) (by simp) ?_
  refine (AllReadyH.cons rfl (fun K hK => ?_) AllReadyH.nil)
  go_simp
  go_at_call 29
  with_reducible refine (goodU_c fu wq2 hu (HG.out.up b_q2)).mono ?_
  rintro e wq3 ⟨rfl, hbq3⟩
  have hx_q3 := (hx_q2).up hbq3
  have b_q3 := bchain b_q2 hbq3
  try dsimp only
  refine hK.out _ _ (hx_q3) (fun hHeld => ?_)
  clear hK K
  try simp only [Act.put, List.setIfInBounds_toArray, List.set_cons_zero, List.set_cons_succ, List.getElem_toArray, List.getElem_cons_zero, List.getElem_cons_succ]
  refine wpAnyH_take (i := 5) (v := ?_) rfl (by kernel_rfl) (by kernel_rfl) (by kernel_rfl) (fun _ _ _ h => h) (Or.inl ⟨by rfl, fun v hv => ?_⟩) (by with_reducible assumption) ?_
  rotate_left
  · go_simp
    try with_reducible rfl
  simp only [Act.put, List.setIfInBounds_toArray, List.set_cons_zero, List.set_cons_succ, List.getElem_toArray, List.getElem_cons_zero, List.getElem_cons_succ]
  refine wpAnyH_take (i := 6) (v := ?_) rfl (by kernel_rfl) (by kernel_rfl) (by kernel_rfl) (fun _ _ _ h => h) (Or.inl ⟨by rfl, fun v hv => ?_⟩) (by with_reducible assumption) ?_
  rotate_left
  · go_simp
    try with_reducible rfl
  simp only [Act.put, List.setIfInBounds_toArray, List.set_cons_zero, List.set_cons_succ, List.getElem_toArray, List.getElem_cons_zero, List.getElem_cons_succ]
  refine wpAnyH_take (i := 7) (v := ?_) rfl (by kernel_rfl) (by kernel_rfl) (by kernel_rfl) (fun _ _ _ h => h) (Or.inl ⟨by rfl, fun v hv => ?_⟩) (by with_reducible assumption) ?_
  rotate_left
  · go_simp
    try with_reducible rfl
  simp only [Act.put, List.setIfInBounds_toArray, List.set_cons_zero, List.set_cons_succ, List.getElem_toArray, List.getElem_cons_zero, List.getElem_cons_succ]
  refine wpAnyH_take (i := 8) (v := ?_) rfl (by kernel_rfl) (by kernel_rfl) (by kernel_rfl) (fun _ _ _ h => h) (Or.inl ⟨by rfl, fun v hv => ?_⟩) (by with_reducible assumption) ?_
  rotate_left
  · go_simp
    try with_reducible rfl
  simp only [Act.put, List.setIfInBounds_toArray, List.set_cons_zero, List.set_cons_succ, List.getElem_toArray, List.getElem_cons_zero, List.getElem_cons_succ]
  refine wpAnyH_take (i := 9) (v := ?_) rfl (by kernel_rfl) (by kernel_rfl) (by kernel_rfl) (fun _ _ _ h => h) (Or.inl ⟨by rfl, fun v hv => ?_⟩) (by with_reducible assumption) ?_
  rotate_left
  · go_simp
    try with_reducible rfl
  simp only [Act.put, List.setIfInBounds_toArray, List.set_cons_zero, List.set_cons_succ, List.getElem_toArray, List.getElem_cons_zero, List.getElem_cons_succ]
  refine wpAnyH_take (i := 10) (v := .agg (wds 4 a).toArray) rfl (by kernel_rfl) (by kernel_rfl) (by kernel_rfl) (fun _ _ _ h => h) (yieldsIf_load_mid (by rfl) 27 (.tmp 12) rfl (bt) (0) rfl (wds 4 a) _ (fun v hv => OA.out v bt hv) Tryd.underlying27 rfl (sizeE _)) (by with_reducible assumption) ?_
  simp only [Act.put, List.setIfInBounds_toArray, List.set_cons_zero, List.set_cons_succ, List.getElem_toArray, List.getElem_cons_zero, List.getElem_cons_succ]
  refine wpAnyH_ready (rs := [11]) (by kernel_rfl) (by simp) ?_
  refine (AllReadyH.cons rfl (fun K hK => ?_) AllReadyH.nil)
  go_simp
  go_at_call 18
  with_reducible refine (from3_c wq3 (HG.out.up b_q3)).mono ?_
  rintro e wq4 ⟨_, rfl, h3, hbq4⟩
  have hx_q4 := (hx_q3).up hbq4
  have b_q4 := bchain b_q3 hbq4
  try dsimp only
  refine hK.out _ _ (hx_q4) (fun hHeld => ?_)
  clear hK K
  try simp only [Act.put, List.setIfInBounds_toArray, List.set_cons_zero, List.set_cons_succ, List.getElem_toArray, List.getElem_cons_zero, List.getElem_cons_succ]
  refine wpAnyH_ready (rs := [12]) (by kernel_rfl) (by simp) ?_
  refine (AllReadyH.cons rfl (fun K hK => ?_) AllReadyH.nil)
  go_simp
  go_at_call 17
  with_reducible refine (emulZ_c _ _ _ _ wq4 HE.out h3 (HG.out.up b_q4)).mono ?_
  rintro e wq5 ⟨_, rfl, h33, hbq5⟩
  have hx_q5 := (hx_q4).up hbq5
  have b_q5 := bchain b_q4 hbq5
  try dsimp only
  refine hK.out _ _ (hx_q5) (fun hHeld => ?_)
  clear hK K
  try simp only [Act.put, List.setIfInBounds_toArray, List.set_cons_zero, List.set_cons_succ, List.getElem_toArray, List.getElem_cons_zero, List.getElem_cons_succ]
  refine wpAnyH_ready (rs := [13]) (by kernel_rfl) (by simp) ?_
  refine (AllReadyH.cons rfl (fun K hK => ?_) AllReadyH.nil)
  go_simp
  go_at_call 18
  with_reducible refine (from1_c wq5 (HG.out.up b_q5)).mono ?_
  rintro e wq6 ⟨_, rfl, h1, hbq6⟩
  have hx_q6 := (hx_q5).up hbq6
  have b_q6 := bchain b_q5 hbq6
  try dsimp only
  refine hK.out _ _ (hx_q6) (fun hHeld => ?_)
  clear hK K
  try simp only [Act.put, List.setIfInBounds_toArray, List.set_cons_zero, List.set_cons_succ, List.getElem_toArray, List.getElem_cons_zero, List.getElem_cons_succ]
  refine wpAnyH_ready (rs := [14]) (by kernel_rfl) (by simp) ?_
  refine (AllReadyH.cons rfl (fun K hK => ?_) AllReadyH.nil)
  go_simp
  go_at_call 8
  with_reducible refine (equal_t _ _ _ _ wq6 h33 h1 cauchy_3).mono ?_
  rintro e wq7 ⟨rfl, hbq7⟩
  have hx_q7 := (hx_q6).up hbq7
  have b_q7 := bchain b_q6 hbq7
  try dsimp only
  refine hK.out _ _ (hx_q7) (fun hHeld => ?_)
  clear hK K
  try simp only [Act.put, List.setIfInBounds_toArray, List.set_cons_zero, List.set_cons_succ, List.getElem_toArray, List.getElem_cons_zero, List.getElem_cons_succ]
  refine wpAnyH_take (i := 15) (v := ?_) rfl (by kernel_rfl) (by kernel_rfl) (by kernel_rfl) (fun _ _ _ h => h) (Or.inl ⟨by rfl, fun v hv => ?_⟩) (by with_reducible assumption) ?_
  rotate_left
  · go_simp
    try with_reducible rfl
  simp only [Act.put, List.setIfInBounds_toArray, List.set_cons_zero, List.set_cons_succ, List.getElem_toArray, List.getElem_cons_zero, List.getElem_cons_succ]
  refine wpAnyH_take (i := 16) (v := ?_) rfl (by kernel_rfl) (by kernel_rfl) (by kernel_rfl) (fun _ _ _ h => h) (Or.inl ⟨by rfl, fun v hv => ?_⟩) (by with_reducible assumption) ?_
  rotate_left
  · go_simp
    try with_reducible rfl
  simp only [Act.put, List.setIfInBounds_toArray, List.set_cons_zero, List.set_cons_succ, List.getElem_toArray, List.getElem_cons_zero, List.getElem_cons_succ]
  refine wpAnyH_take (i := 17) (v := ?_) rfl (by kernel_rfl) (by kernel_rfl) (by kernel_rfl) (fun _ _ _ h => h) (Or.inl ⟨by rfl, fun v hv => ?_⟩) (by with_reducible assumption) ?_
  rotate_left
  · go_simp
    try with_reducible rfl
  simp only [Act.put, List.setIfInBounds_toArray, List.set_cons_zero, List.set_cons_succ, List.getElem_toArray, List.getElem_cons_zero, List.getElem_cons_succ]
  refine wpAnyH_take (i := 18) (v := ?_) rfl (by kernel_rfl) (by kernel_rfl) (by kernel_rfl) (fun _ _ _ h => h) (Or.inl ⟨by rfl, fun v hv => ?_⟩) (by with_reducible assumption) ?_
  rotate_left
  · go_simp
    try with_reducible rfl
  simp only [Act.put, List.setIfInBounds_toArray, List.set_cons_zero, List.set_cons_succ, List.getElem_toArray, List.getElem_cons_zero, List.getElem_cons_succ]
  refine wpAnyH_take (i := 19) (v := .agg (wds 4 a).toArray) rfl (by kernel_rfl) (by kernel_rfl) (by kernel_rfl) (fun _ _ _ h => h) (yieldsIf_load_mid (by rfl) 27 (.tmp 21) rfl (bt) (0) rfl (wds 4 a) _ (fun v hv => OA.out v bt hv) Tryd.underlying27 rfl (sizeE _)) (by with_reducible assumption) ?_
  simp only [Act.put, List.setIfInBounds_toArray, List.set_cons_zero, List.set_cons_succ, List.getElem_toArray, List.getElem_cons_zero, List.getElem_cons_succ]
  refine wpAnyH_ready (rs := [20]) (by kernel_rfl) (by simp) ?_
  refine (AllReadyH.cons rfl (fun K hK => ?_) AllReadyH.nil)
  go_simp
  go_at_call 21
  with_reducible refine (isZero_f _ _ wq7 HE.out cauchy_00).mono ?_
  rintro e wq8 ⟨rfl, hbq8⟩
  have hx_q8 := (hx_q7).up hbq8
  have b_q8 := bchain b_q7 hbq8
  try dsimp only
  refine hK.out _ _ (hx_q8) (fun hHeld => ?_)
  clear hK K
  try simp only [Act.put, List.setIfInBounds_toArray, List.set_cons_zero, List.set_cons_succ, List.getElem_toArray, List.getElem_cons_zero, List.getElem_cons_succ]
  refine wpAnyH_take (i := 21) (v := ?_) rfl (by kernel_rfl) (by kernel_rfl) (by kernel_rfl) (fun _ _ _ h => h) (Or.inl ⟨by rfl, fun v hv => ?_⟩) (by with_reducible assumption) ?_
  rotate_left
  · go_simp
    try with_reducible rfl
  simp only [Act.put, List.setIfInBounds_toArray, List.set_cons_zero, List.set_cons_succ, List.getElem_toArray, List.getElem_cons_zero, List.getElem_cons_succ]
  refine wpAnyH_take (i := 22) (v := ?_) rfl (by kernel_rfl) (by kernel_rfl) (by kernel_rfl) (fun _ _ _ h => h) (Or.inl ⟨by rfl, fun v hv => ?_⟩) (by with_reducible assumption) ?_
  rotate_left
  · go_simp
    try with_reducible rfl
  simp only [Act.put, List.setIfInBounds_toArray, List.set_cons_zero, List.set_cons_succ, List.getElem_toArray, List.getElem_cons_zero, List.getElem_cons_succ]
  refine wpAnyH_take (i := 23) (v := ?_) rfl (by kernel_rfl) (by kernel_rfl) (by kernel_rfl) (fun _ _ _ h => h) (Or.inl ⟨by rfl, fun v hv => ?_⟩) (by with_reducible assumption) ?_
  rotate_left
  · go_simp
    try with_reducible rfl
  simp only [Act.put, List.setIfInBounds_toArray, List.set_cons_zero, List.set_cons_succ, List.getElem_toArray, List.getElem_cons_zero, List.getElem_cons_succ]
  refine wpAnyH_done (by kernel_rfl) ?_ _
  go_wp2_with fail
  go_ret
  exact ⟨rfl, b_q8⟩
end Go.Proofs.YtdepkfdceidikaaDoor
/-
  Fifth powers modulo the prime: unlike numbers have unlike ones. Matrices whose determinant is not 0: unlike vectors stay unlike. Plain arithmetic, ahead of stage 10.
-/
namespace Go.Proofs.YtdepkfdceidikaaDoor
set_option linter.unusedVariables false

theorem pow5_back {x d k : Nat} (hx : x < pN) (h : 5 * d = k * (pN - 1) + 1) : (x ^ 5 % pN) ^ d % pN = x := by
  rw [← Nat.pow_mod, ← Nat.pow_mul, h, Nat.pow_succ, Nat.mul_comm k, Nat.pow_mul]
  rcases Nat.eq_zero_or_pos x with e | e
  · rw [e, Nat.mul_zero]
    rfl
  · have hf := fermat_p x e hx
    rw [Nat.mul_mod, Nat.pow_mod, hf, Nat.one_pow, Nat.mod_eq_of_lt (show 1 < pN by decide), Nat.one_mul, Nat.mod_mod, Nat.mod_eq_of_lt hx]
theorem five_inv : ∃ d k : Nat, 5 * d = k * (pN - 1) + 1 := ⟨17510594297471420177797124596205820070838691520332827474958563349260646796493, 4, by decide⟩
theorem pow5_inj {x y : Nat} (hx : x < pN) (hy : y < pN) (h : x ^ 5 % pN = y ^ 5 % pN) : x = y := by
  obtain ⟨d, k, e⟩ := five_inv
  rw [← pow5_back hx e, ← pow5_back hy e, h]
/-- The fifth power. -/
def pw5 (X : Int) : Int := X * X * (X * X) * X
theorem pw5_pow (X : Int) : pw5 X = X ^ 5 := by
  unfold pw5
  grind
theorem pw5_nat {x : Nat} {X : Int} (h : (x : Int) = X % pZ) : ((x ^ 5 % pN : Nat) : Int) = pw5 X % pZ := by
  have h2 : ((x ^ 5 : Nat) : Int) % pZ = pw5 X % pZ := by
    rw [pw5_pow, Int.natCast_pow]
    show (x : Int) ^ 5 % pZ = X ^ 5 % pZ
    have e : ∀ a b : Int, a % pZ = b % pZ → a ^ 5 % pZ = b ^ 5 % pZ := fun a b hab => by
      have q : ∀ c : Int, c ^ 5 = c * c * (c * c) * c := fun c => by grind
      rw [q, q]
      exact zmul_congr2 (zmul_congr2 (zmul_congr2 hab hab) (zmul_congr2 hab hab)) hab
    exact e _ _ (by rw [h, Int.emod_emod])
  rw [← h2]
  exact Int.natCast_emod _ _
theorem z_rest (X : Int) : ∃ x : Nat, (x : Int) = X % pZ ∧ x < pN := by
  obtain ⟨x, hx⟩ := Int.eq_ofNat_of_zero_le (Int.emod_nonneg X (show pZ ≠ 0 by decide))
  refine ⟨x, hx.symm, ?_⟩
  have := Int.emod_lt_of_pos X pZ_pos
  rw [hx] at this
  exact Int.ofNat_lt.mp this
theorem pw5_inj {X Y : Int} (h : pw5 X % pZ = pw5 Y % pZ) : X % pZ = Y % pZ := by
  obtain ⟨x, ex, lx⟩ := z_rest X
  obtain ⟨y, ey, ly⟩ := z_rest Y
  have h1 := pw5_nat ex
  have h2 := pw5_nat ey
  rw [h, ← h2] at h1
  rw [← ex, ← ey, pow5_inj lx ly (Int.ofNat.inj h1)]
theorem pw5_cong {X Y : Int} (h : X % pZ = Y % pZ) : pw5 X % pZ = pw5 Y % pZ := zmul_congr2 (zmul_congr2 (zmul_congr2 h h) (zmul_congr2 h h)) h
theorem zcancel {D a b : Int} (hD : D % pZ ≠ 0) (h : (D * a) % pZ = (D * b) % pZ) : a % pZ = b % pZ := by
  have h1 := zmul_congr (invZ D) h
  have hi := invZ_mul hD
  have e : ∀ c : Int, (invZ D * (D * c)) % pZ = c % pZ := fun c => by
    have q : invZ D * (D * c) = (D * invZ D) * c := by grind
    rw [q]
    have := zmul_congr2 (hi.trans zone.symm) (rfl : c % pZ = c % pZ)
    rw [Int.one_mul] at this
    exact this
  rw [e, e] at h1
  exact h1
/-- A matrix whose determinant is not 0 keeps unlike vectors unlike. -/
theorem mz_inj {M : MZ} {V W : Nat → Int} (hD : mzDet M % pZ ≠ 0) (h : ∀ i, i < 3 → mzApply M V i % pZ = mzApply M W i % pZ) : ∀ i, i < 3 → V i % pZ = W i % pZ := by
  have h0 := h 0 (by decide)
  have h1 := h 1 (by decide)
  have h2 := h 2 (by decide)
  have key : ∀ (a b c : Int), (a * mzApply M V 0 + b * mzApply M V 1 + c * mzApply M V 2) % pZ = (a * mzApply M W 0 + b * mzApply M W 1 + c * mzApply M W 2) % pZ := fun a b c =>
    zadd_congr (zadd_congr (zmul_congr a h0) (zmul_congr b h1)) (zmul_congr c h2)
  intro i hi
  refine zcancel hD ?_
  match i, hi with
  | 0, _ =>
    have k := key (M 1 1 * M 2 2 - M 1 2 * M 2 1) (M 0 2 * M 2 1 - M 0 1 * M 2 2) (M 0 1 * M 1 2 - M 0 2 * M 1 1)
    have e : ∀ U : Nat → Int, (M 1 1 * M 2 2 - M 1 2 * M 2 1) * mzApply M U 0 + (M 0 2 * M 2 1 - M 0 1 * M 2 2) * mzApply M U 1 + (M 0 1 * M 1 2 - M 0 2 * M 1 1) * mzApply M U 2 = mzDet M * U 0 := fun U => by
      unfold mzApply mzDet
      grind
    rw [e, e] at k
    exact k
  | 1, _ =>
    have k := key (M 1 2 * M 2 0 - M 1 0 * M 2 2) (M 0 0 * M 2 2 - M 0 2 * M 2 0) (M 0 2 * M 1 0 - M 0 0 * M 1 2)
    have e : ∀ U : Nat → Int, (M 1 2 * M 2 0 - M 1 0 * M 2 2) * mzApply M U 0 + (M 0 0 * M 2 2 - M 0 2 * M 2 0) * mzApply M U 1 + (M 0 2 * M 1 0 - M 0 0 * M 1 2) * mzApply M U 2 = mzDet M * U 1 := fun U => by
      unfold mzApply mzDet
      grind
    rw [e, e] at k
    exact k
  | 2, _ =>
    have k := key (M 1 0 * M 2 1 - M 1 1 * M 2 0) (M 0 1 * M 2 0 - M 0 0 * M 2 1) (M 0 0 * M 1 1 - M 0 1 * M 1 0)
    have e : ∀ U : Nat → Int, (M 1 0 * M 2 1 - M 1 1 * M 2 0) * mzApply M U 0 + (M 0 1 * M 2 0 - M 0 0 * M 2 1) * mzApply M U 1 + (M 0 0 * M 1 1 - M 0 1 * M 1 0) * mzApply M U 2 = mzDet M * U 2 := fun U => by
      unfold mzApply mzDet
      grind
    rw [e, e] at k
    exact k
theorem cauchy_det : mzDet mzCauchy % pZ ≠ 0 := by
  rw [det_cong cauchy_cong]
  decide +kernel
end Go.Proofs.YtdepkfdceidikaaDoor
