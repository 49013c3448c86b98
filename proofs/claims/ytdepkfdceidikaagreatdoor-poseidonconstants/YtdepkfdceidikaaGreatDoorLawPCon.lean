import Derived.Test.YtdepkfdceidikaaGreatDoorPrB
/-
  avouchlaw10.is: what the call does.
-/
namespace Go.Proofs.YtdepkfdceidikaaGreatDoor
open Go.RowKit
set_option linter.unusedVariables false
set_option linter.unusedSimpArgs false

set_option maxRecDepth 20000 in
set_option maxHeartbeats 2000000 in
theorem is10_t (f : Nat → Int) (vr : Value) (X Y : Nat → Int) (w : World) (hM : VecZ f X) (hR : DV w vr 3 Y) (hG : Glob w) (hC : ∀ i, i < 3 → X i % pZ = Y i % pZ) :
    Calls Tryz.prog 12 #[.agg (wds 12 f).toArray, vr] w fun e w' => e = .returned (.bool true) ∧ Below w.heap.size w w' := by
  obtain ⟨bv, cv, rfl, hbv, hcv⟩ := hR.at_
  have hlf := wds_len 12 f
  have h0 := oF_new w 39 12 f
  have hb := (Below.refl w.heap.size w).alloc (Nat.le_refl _) (oF 39 12 f)
  have HG := hid hG
  obtain ⟨d0, hd0, cd0⟩ := hcv 0 (by decide)
  obtain ⟨dA0, dn0, dc0, rfl⟩ := hd0.form
  have ED0 := hid hd0
  have EX0 := hid (hM.at_ 0 (by decide)).out
  have C0 := hid (hC 0 (by decide))
  have OR0 : Hid (∀ v, Below w.heap.size w v → v.cell? ⟨bv, 0, none⟩ = some (.slice dA0 dn0 dc0)) := fun v hv => (hv.cell (p := ⟨bv, 0, none⟩) hbv).trans cd0
  obtain ⟨a0, ha0⟩ : ∃ a : Nat → Int, a = fun k => f (0 * 4 + k) := ⟨_, rfl⟩
  rw [← ha0] at EX0
  have OV0 : Hid (∀ v, BlkV v w.heap.size 39 (wds 12 f) → v.rangeAt w.heap.size 0 (wds 4 a0)) := fun v hv => by rw [ha0]; exact hv.sub (0 * 4) 4 (by decide)
  clear hd0 cd0 ha0
  obtain ⟨d1, hd1, cd1⟩ := hcv 1 (by decide)
  obtain ⟨dA1, dn1, dc1, rfl⟩ := hd1.form
  have ED1 := hid hd1
  have EX1 := hid (hM.at_ 1 (by decide)).out
  have C1 := hid (hC 1 (by decide))
  have OR1 : Hid (∀ v, Below w.heap.size w v → v.cell? ⟨bv, 1, none⟩ = some (.slice dA1 dn1 dc1)) := fun v hv => (hv.cell (p := ⟨bv, 1, none⟩) hbv).trans cd1
  obtain ⟨a1, ha1⟩ : ∃ a : Nat → Int, a = fun k => f (1 * 4 + k) := ⟨_, rfl⟩
  rw [← ha1] at EX1
  have OV1 : Hid (∀ v, BlkV v w.heap.size 39 (wds 12 f) → v.rangeAt w.heap.size 4 (wds 4 a1)) := fun v hv => by rw [ha1]; exact hv.sub (1 * 4) 4 (by decide)
  clear hd1 cd1 ha1
  obtain ⟨d2, hd2, cd2⟩ := hcv 2 (by decide)
  obtain ⟨dA2, dn2, dc2, rfl⟩ := hd2.form
  have ED2 := hid hd2
  have EX2 := hid (hM.at_ 2 (by decide)).out
  have C2 := hid (hC 2 (by decide))
  have OR2 : Hid (∀ v, Below w.heap.size w v → v.cell? ⟨bv, 2, none⟩ = some (.slice dA2 dn2 dc2)) := fun v hv => (hv.cell (p := ⟨bv, 2, none⟩) hbv).trans cd2
  obtain ⟨a2, ha2⟩ : ∃ a : Nat → Int, a = fun k => f (2 * 4 + k) := ⟨_, rfl⟩
  rw [← ha2] at EX2
  have OV2 : Hid (∀ v, BlkV v w.heap.size 39 (wds 12 f) → v.rangeAt w.heap.size 8 (wds 4 a2)) := fun v hv => by rw [ha2]; exact hv.sub (2 * 4) 4 (by decide)
  clear hd2 cd2 ha2
  clear hcv hM hR hG hC hbv
  unfold oF at h0 hb
  go_enter Tryz.func12, Tryz.ntmps12
  go_wp2_with fail
  generalize (w.alloc _) = w0 at *
  have x0 := h0.up (Below.refl _ _).drew
  have b0 := bchain hb (Below.refl _ _).drew
  clear h0 hb
  refine wp_region_held_drew (S := fun v => BlkV v w.heap.size 39 (wds 12 f) ∧ Below w.heap.size w v) (by kernel_rfl) ⟨x0, b0⟩ (fun hHeld => ?_)
  refine wpAnyH_take (i := 0) (v := ?_) rfl (by kernel_rfl) (by kernel_rfl) (by kernel_rfl) (fun _ _ _ h => h) (Or.inl ⟨by rfl, fun v hv => ?_⟩) (by with_reducible assumption) ?_
  rotate_left
  · go_simp
    try with_reducible rfl
  simp only [Act.put, List.setIfInBounds_toArray, List.set_cons_zero, List.set_cons_succ, List.getElem_toArray, List.getElem_cons_zero, List.getElem_cons_succ]
  refine wpAnyH_take (i := 1) (v := .agg (wds 4 a0).toArray) rfl (by kernel_rfl) (by kernel_rfl) (by kernel_rfl) (fun _ _ _ h => h) (yieldsIf_load_mid (by rfl) 37 (.tmp 5) rfl (w.heap.size) (0) rfl (wds 4 a0) _ (fun v hv => OV0.out v hv.1) Tryz.underlying37 rfl (sizeE _)) (by with_reducible assumption) ?_
  simp only [Act.put, List.setIfInBounds_toArray, List.set_cons_zero, List.set_cons_succ, List.getElem_toArray, List.getElem_cons_zero, List.getElem_cons_succ]
  refine wpAnyH_take (i := 2) (v := ?_) rfl (by kernel_rfl) (by kernel_rfl) (by kernel_rfl) (fun _ _ _ h => h) (Or.inl ⟨by rfl, fun v hv => ?_⟩) (by with_reducible assumption) ?_
  rotate_left
  · go_simp
    try with_reducible rfl
  simp only [Act.put, List.setIfInBounds_toArray, List.set_cons_zero, List.set_cons_succ, List.getElem_toArray, List.getElem_cons_zero, List.getElem_cons_succ]
  refine wpAnyH_take (i := 3) (v := ?_) rfl (by kernel_rfl) (by kernel_rfl) (by kernel_rfl) (fun _ _ _ h => h) (Or.inl ⟨by rfl, fun v hv => ?_⟩) (by with_reducible assumption) ?_
  rotate_left
  · go_simp
    try with_reducible rfl
  simp only [Act.put, List.setIfInBounds_toArray, List.set_cons_zero, List.set_cons_succ, List.getElem_toArray, List.getElem_cons_zero, List.getElem_cons_succ]
  refine wpAnyH_take (i := 4) (v := ?_) rfl (by kernel_rfl) (by kernel_rfl) (by kernel_rfl) (fun _ _ _ h => h) (Or.inl ⟨by rfl, fun v hv => ?_⟩) (by with_reducible assumption) ?_
  rotate_left
  · have hcc := OR0.out v hv.2
    go_simp
    try with_reducible rfl
  simp only [Act.put, List.setIfInBounds_toArray, List.set_cons_zero, List.set_cons_succ, List.getElem_toArray, List.getElem_cons_zero, List.getElem_cons_succ]
  refine wpAnyH_ready (rs := [5]) (by kernel_rfl) (by simp) ?_
  refine (AllReadyH.cons rfl (fun K hK => ?_) AllReadyH.nil)
  go_simp
  go_at_call 18
  with_reducible refine (is_t _ _ _ _ w0.drew EX0.out (ED0.out.up b0) (HG.out.up b0) C0.out).mono ?_
  rintro e wi1 ⟨rfl, hbi1⟩
  have x_i1 := (x0).up hbi1
  have b_i1 := bchain b0 hbi1
  try dsimp only
  refine hK.out _ _ (⟨x_i1, b_i1⟩) (fun hHeld => ?_)
  clear hK K
  try simp only [Act.put, List.setIfInBounds_toArray, List.set_cons_zero, List.set_cons_succ, List.getElem_toArray, List.getElem_cons_zero, List.getElem_cons_succ]
  refine wpAnyH_take (i := 6) (v := ?_) rfl (by kernel_rfl) (by kernel_rfl) (by kernel_rfl) (fun _ _ _ h => h) (Or.inl ⟨by rfl, fun v hv => ?_⟩) (by with_reducible assumption) ?_
  rotate_left
  · go_simp
    try with_reducible rfl
  simp only [Act.put, List.setIfInBounds_toArray, List.set_cons_zero, List.set_cons_succ, List.getElem_toArray, List.getElem_cons_zero, List.getElem_cons_succ]
  refine wpAnyH_take (i := 7) (v := ?_) rfl (by kernel_rfl) (by kernel_rfl) (by kernel_rfl) (fun _ _ _ h => h) (Or.inl ⟨by rfl, fun v hv => ?_⟩) (by with_reducible assumption) ?_
  rotate_left
  · go_simp
    try with_reducible rfl
  simp only [Act.put, List.setIfInBounds_toArray, List.set_cons_zero, List.set_cons_succ, List.getElem_toArray, List.getElem_cons_zero, List.getElem_cons_succ]
  refine wpAnyH_take (i := 8) (v := .agg (wds 4 a1).toArray) rfl (by kernel_rfl) (by kernel_rfl) (by kernel_rfl) (fun _ _ _ h => h) (yieldsIf_load_mid (by rfl) 37 (.tmp 12) rfl (w.heap.size) (4) rfl (wds 4 a1) _ (fun v hv => OV1.out v hv.1) Tryz.underlying37 rfl (sizeE _)) (by with_reducible assumption) ?_
  simp only [Act.put, List.setIfInBounds_toArray, List.set_cons_zero, List.set_cons_succ, List.getElem_toArray, List.getElem_cons_zero, List.getElem_cons_succ]
  refine wpAnyH_take (i := 9) (v := ?_) rfl (by kernel_rfl) (by kernel_rfl) (by kernel_rfl) (fun _ _ _ h => h) (Or.inl ⟨by rfl, fun v hv => ?_⟩) (by with_reducible assumption) ?_
  rotate_left
  · go_simp
    try with_reducible rfl
  simp only [Act.put, List.setIfInBounds_toArray, List.set_cons_zero, List.set_cons_succ, List.getElem_toArray, List.getElem_cons_zero, List.getElem_cons_succ]
  refine wpAnyH_take (i := 10) (v := ?_) rfl (by kernel_rfl) (by kernel_rfl) (by kernel_rfl) (fun _ _ _ h => h) (Or.inl ⟨by rfl, fun v hv => ?_⟩) (by with_reducible assumption) ?_
  rotate_left
  · go_simp
    try with_reducible rfl
  simp only [Act.put, List.setIfInBounds_toArray, List.set_cons_zero, List.set_cons_succ, List.getElem_toArray, List.getElem_cons_zero, List.getElem_cons_succ]
  refine wpAnyH_take (i := 11) (v := ?_) rfl (by kernel_rfl) (by kernel_rfl) (by kernel_rfl) (fun _ _ _ h => h) (Or.inl ⟨by rfl, fun v hv => ?_⟩) (by with_reducible assumption) ?_
  rotate_left
  · have hcc := OR1.out v hv.2
    go_simp
    try with_reducible rfl
  simp only [Act.put, List.setIfInBounds_toArray, List.set_cons_zero, List.set_cons_succ, List.getElem_toArray, List.getElem_cons_zero, List.getElem_cons_succ]
  refine wpAnyH_ready (rs := [12]) (by kernel_rfl) (by simp) ?_
  refine (AllReadyH.cons rfl (fun K hK => ?_) AllReadyH.nil)
  go_simp
  go_at_call 18
  with_reducible refine (is_t _ _ _ _ wi1 EX1.out (ED1.out.up b_i1) (HG.out.up b_i1) C1.out).mono ?_
  rintro e wi2 ⟨rfl, hbi2⟩
  have x_i2 := (x_i1).up hbi2
  have b_i2 := bchain b_i1 hbi2
  try dsimp only
  refine hK.out _ _ (⟨x_i2, b_i2⟩) (fun hHeld => ?_)
  clear hK K
  try simp only [Act.put, List.setIfInBounds_toArray, List.set_cons_zero, List.set_cons_succ, List.getElem_toArray, List.getElem_cons_zero, List.getElem_cons_succ]
  refine wpAnyH_take (i := 13) (v := ?_) rfl (by kernel_rfl) (by kernel_rfl) (by kernel_rfl) (fun _ _ _ h => h) (Or.inl ⟨by rfl, fun v hv => ?_⟩) (by with_reducible assumption) ?_
  rotate_left
  · go_simp
    try with_reducible rfl
  simp only [Act.put, List.setIfInBounds_toArray, List.set_cons_zero, List.set_cons_succ, List.getElem_toArray, List.getElem_cons_zero, List.getElem_cons_succ]
  refine wpAnyH_take (i := 14) (v := ?_) rfl (by kernel_rfl) (by kernel_rfl) (by kernel_rfl) (fun _ _ _ h => h) (Or.inl ⟨by rfl, fun v hv => ?_⟩) (by with_reducible assumption) ?_
  rotate_left
  · go_simp
    try with_reducible rfl
  simp only [Act.put, List.setIfInBounds_toArray, List.set_cons_zero, List.set_cons_succ, List.getElem_toArray, List.getElem_cons_zero, List.getElem_cons_succ]
  refine wpAnyH_take (i := 15) (v := ?_) rfl (by kernel_rfl) (by kernel_rfl) (by kernel_rfl) (fun _ _ _ h => h) (Or.inl ⟨by rfl, fun v hv => ?_⟩) (by with_reducible assumption) ?_
  rotate_left
  · go_simp
    try with_reducible rfl
  simp only [Act.put, List.setIfInBounds_toArray, List.set_cons_zero, List.set_cons_succ, List.getElem_toArray, List.getElem_cons_zero, List.getElem_cons_succ]
  refine wpAnyH_take (i := 16) (v := .agg (wds 4 a2).toArray) rfl (by kernel_rfl) (by kernel_rfl) (by kernel_rfl) (fun _ _ _ h => h) (yieldsIf_load_mid (by rfl) 37 (.tmp 20) rfl (w.heap.size) (8) rfl (wds 4 a2) _ (fun v hv => OV2.out v hv.1) Tryz.underlying37 rfl (sizeE _)) (by with_reducible assumption) ?_
  simp only [Act.put, List.setIfInBounds_toArray, List.set_cons_zero, List.set_cons_succ, List.getElem_toArray, List.getElem_cons_zero, List.getElem_cons_succ]
  refine wpAnyH_take (i := 17) (v := ?_) rfl (by kernel_rfl) (by kernel_rfl) (by kernel_rfl) (fun _ _ _ h => h) (Or.inl ⟨by rfl, fun v hv => ?_⟩) (by with_reducible assumption) ?_
  rotate_left
  · go_simp
    try with_reducible rfl
  simp only [Act.put, List.setIfInBounds_toArray, List.set_cons_zero, List.set_cons_succ, List.getElem_toArray, List.getElem_cons_zero, List.getElem_cons_succ]
  refine wpAnyH_take (i := 18) (v := ?_) rfl (by kernel_rfl) (by kernel_rfl) (by kernel_rfl) (fun _ _ _ h => h) (Or.inl ⟨by rfl, fun v hv => ?_⟩) (by with_reducible assumption) ?_
  rotate_left
  · go_simp
    try with_reducible rfl
  simp only [Act.put, List.setIfInBounds_toArray, List.set_cons_zero, List.set_cons_succ, List.getElem_toArray, List.getElem_cons_zero, List.getElem_cons_succ]
  refine wpAnyH_take (i := 19) (v := ?_) rfl (by kernel_rfl) (by kernel_rfl) (by kernel_rfl) (fun _ _ _ h => h) (Or.inl ⟨by rfl, fun v hv => ?_⟩) (by with_reducible assumption) ?_
  rotate_left
  · have hcc := OR2.out v hv.2
    go_simp
    try with_reducible rfl
  simp only [Act.put, List.setIfInBounds_toArray, List.set_cons_zero, List.set_cons_succ, List.getElem_toArray, List.getElem_cons_zero, List.getElem_cons_succ]
  refine wpAnyH_ready (rs := [20]) (by kernel_rfl) (by simp) ?_
  refine (AllReadyH.cons rfl (fun K hK => ?_) AllReadyH.nil)
  go_simp
  go_at_call 18
  with_reducible refine (is_t _ _ _ _ wi2 EX2.out (ED2.out.up b_i2) (HG.out.up b_i2) C2.out).mono ?_
  rintro e wi3 ⟨rfl, hbi3⟩
  have x_i3 := (x_i2).up hbi3
  have b_i3 := bchain b_i2 hbi3
  try dsimp only
  refine hK.out _ _ (⟨x_i3, b_i3⟩) (fun hHeld => ?_)
  clear hK K
  try simp only [Act.put, List.setIfInBounds_toArray, List.set_cons_zero, List.set_cons_succ, List.getElem_toArray, List.getElem_cons_zero, List.getElem_cons_succ]
  refine wpAnyH_take (i := 21) (v := ?_) rfl (by kernel_rfl) (by kernel_rfl) (by kernel_rfl) (fun _ _ _ h => h) (Or.inl ⟨by rfl, fun v hv => ?_⟩) (by with_reducible assumption) ?_
  rotate_left
  · go_simp
    try with_reducible rfl
  simp only [Act.put, List.setIfInBounds_toArray, List.set_cons_zero, List.set_cons_succ, List.getElem_toArray, List.getElem_cons_zero, List.getElem_cons_succ]
  refine wpAnyH_take (i := 22) (v := ?_) rfl (by kernel_rfl) (by kernel_rfl) (by kernel_rfl) (fun _ _ _ h => h) (Or.inl ⟨by rfl, fun v hv => ?_⟩) (by with_reducible assumption) ?_
  rotate_left
  · go_simp
    try with_reducible rfl
  simp only [Act.put, List.setIfInBounds_toArray, List.set_cons_zero, List.set_cons_succ, List.getElem_toArray, List.getElem_cons_zero, List.getElem_cons_succ]
  refine wpAnyH_done (by kernel_rfl) ?_ _
  go_wp2_with fail
  go_ret
  exact ⟨rfl, b_i3⟩
end Go.Proofs.YtdepkfdceidikaaGreatDoor
/-
  What the document's values do when a permutation is found; what the laws of Poseidon keep.
-/
namespace Go.Proofs.YtdepkfdceidikaaGreatDoor
open Go.RowKit
set_option linter.unusedVariables false
set_option linter.unusedSimpArgs false

theorem only_same {w w' : World} {p : Nat} {t : TypeId} {vs : List Value} (ho : Only p w w') (h : BlkV w p t vs) (h' : BlkV w' p t vs) : Below w.heap.size w w' :=
  ⟨ho.os, ho.tape, ho.output, ho.size, fun k hk => by
    by_cases e : k = p
    · subst e
      exact h'.heap.trans h.heap.symm
    · exact ho.block k hk e⟩
theorem pi_case {w w' : World} {p : Nat} (hB : PI w p) (ho : Only p w w') (hk : Kp p w w') : Far w p ∨ Below w.heap.size w w' := by
  obtain ⟨d, f, h1, h2⟩ := hB
  rcases h2 with ⟨rfl, rfl⟩ | ⟨rfl, h3, h4⟩
  · refine Or.inl ⟨⟨_, _, h1, ?_, by decide, by decide⟩⟩
    intro u hu k z e
    subst e
    rw [pcl_eq, List.mem_append] at hu
    rcases hu with hu | hu
    · simp at hu
      rcases hu with ⟨_, h⟩ | ⟨_, h⟩ | ⟨_, h⟩ <;> exact h
    · rw [wds_eq] at hu
      obtain ⟨j, _, hj⟩ := List.mem_map.1 hu
      injection hj with _ hj
      exact hj.symm
  · exact Or.inr (only_same ho h1 (hk f h1))
theorem TabZ.far {w w' : World} {v vM : Value} {p : Nat} (h : TabZ w v vM) (hp : Far w p) (ho : Only p w w') : TabZ w' v vM := ⟨h.c.far hp ho, h.m.far hp ho⟩
theorem TabZ.pi {w w' : World} {v vM : Value} {p : Nat} (h : TabZ w v vM) (hB : PI w p) (ho : Only p w w') (hk : Kp p w w') : TabZ w' v vM := by
  rcases pi_case hB ho hk with q | q
  · exact h.far q ho
  · exact h.up q
theorem DV.pi {w w' : World} {v : Value} {n : Nat} {Y : Nat → Int} {p : Nat} (h : DV w v n Y) (hB : PI w p) (ho : Only p w w') (hk : Kp p w w') : DV w' v n Y := by
  rcases pi_case hB ho hk with q | q
  · exact h.far q ho
  · exact h.up q
/-- What PoseidonPermutes keeps. -/
structure PmS (w : World) (p p6 p7 : Nat) (f : Nat → Int) (tv tM r : Value) (X : Nat → Int) (v : World) : Prop where
  x : BlkV v p7 39 (wds 12 f)
  t : BlkV v p6 32 [tv, tM]
  pi : PI v p
  tz : TabZ v tv tM
  dv : DV v r 3 X
  b : Below w.heap.size w v
theorem PmS.up {w : World} {p p6 p7 : Nat} {f : Nat → Int} {tv tM r : Value} {X : Nat → Int} {v v' : World} (h : PmS w p p6 p7 f tv tM r X v) (hb : Below v.heap.size v v') : PmS w p p6 p7 f tv tM r X v' :=
  ⟨h.x.up hb, h.t.up hb, h.pi.up hb, h.tz.up hb, h.dv.up hb, bchain h.b hb⟩
theorem PmS.onl {w : World} {p p6 p7 : Nat} {f : Nat → Int} {tv tM r : Value} {X : Nat → Int} {v v' : World} (h : PmS w p p6 p7 f tv tM r X v) (h6 : p6 ≠ p) (h7 : p7 ≠ p) (hp : w.heap.size ≤ p) (hq : PI v' p) (ho : Only p v v') (hk : Kp p v v') : PmS w p p6 p7 f tv tM r X v' :=
  ⟨ho.blk h.x h7, ho.blk h.t h6, hq, h.tz.pi h.pi ho hk, h.dv.pi h.pi ho hk, h.b.trans (ho.below hp h.b.size)⟩
/-- What PoseidonConstants keeps. -/
structure CoS (w : World) (p p4 : Nat) (tv tM : Value) (v : World) : Prop where
  t : BlkV v p4 32 [tv, tM]
  pi : PI v p
  tz : TabZ v tv tM
  b : Below w.heap.size w v
theorem CoS.up {w : World} {p p4 : Nat} {tv tM : Value} {v v' : World} (h : CoS w p p4 tv tM v) (hb : Below v.heap.size v v') : CoS w p p4 tv tM v' :=
  ⟨h.t.up hb, h.pi.up hb, h.tz.up hb, bchain h.b hb⟩
theorem CoS.onl {w : World} {p p4 : Nat} {tv tM : Value} {v v' : World} (h : CoS w p p4 tv tM v) (h4 : p4 ≠ p) (hp : w.heap.size ≤ p) (hq : PI v' p) (ho : Only p v v') (hk : Kp p v v') : CoS w p p4 tv tM v' :=
  ⟨ho.blk h.t h4, hq, h.tz.pi h.pi ho hk, h.b.trans (ho.below hp h.b.size)⟩
/-- The same, and the constants that are looked at. -/
structure CoT (w : World) (p p4 p6 : Nat) (c : Nat → Int) (tv tM : Value) (v : World) : Prop where
  s : CoS w p p4 tv tM v
  x : BlkV v p6 39 (wds 12 c)
theorem CoT.up {w : World} {p p4 p6 : Nat} {c : Nat → Int} {tv tM : Value} {v v' : World} (h : CoT w p p4 p6 c tv tM v) (hb : Below v.heap.size v v') : CoT w p p4 p6 c tv tM v' := ⟨h.s.up hb, h.x.up hb⟩
end Go.Proofs.YtdepkfdceidikaaGreatDoor
/-
  avouchlaw10.PoseidonConstants: the walk.
-/
namespace Go.Proofs.YtdepkfdceidikaaGreatDoor
open Go.RowKit
set_option linter.unusedVariables false
set_option linter.unusedSimpArgs false

theorem r10Constant1_c (v vM : Value) (r : Int) (w : World) (hT : TabZ w v vM) :
    Calls Tryz.prog 19 #[.agg #[v, vM], .int .i64 r, .int .i64 1] w fun e w' => ∃ d, e = .returned d ∧ Dz w' d (pcI r 1) ∧ Below w.heap.size w w' := r10Constant_c v vM r 1 w hT (by decide)
set_option maxRecDepth 100000 in
set_option maxHeartbeats 40000000 in
theorem poseidonConstants_w (r : Int) (w : World) (hG : Glob w) :
    Calls Tryz.prog 4 #[.int .i64 r] w fun e w' => e = .returned (.bool true) ∧ Below w.heap.size w w' := by
  have HG := hid hG
  have hzv := zeroV
  have hlv := wds_len 12 z0
  clear hG
  go_enter Tryz.func4, Tryz.ntmps4
  go_wp2_with fail
  refine (speaks10_c w HG.out).mono ?_
  rintro e w1 ⟨rfl, b1⟩
  have HB := hid b1
  clear b1
  go_wp2_with fail
  refine (pnew_c w1).mono ?_
  rintro e w3 ⟨p, rfl, hp, hpi, b3⟩
  have hpw : w.heap.size ≤ p := Nat.le_trans HB.out.size hp
  have HPI := hid hpi
  have HB3 := hid (bchain HB.out b3)
  clear hpi hp b3 HB
  go_wp2_with fail
  refine (r10New_c w3).mono ?_
  rintro e w4 ⟨tv, tM, rfl, htz, b4⟩
  have hpl := HPI.out.size
  have hpl4 := Nat.lt_of_lt_of_le hpl b4.size
  obtain ⟨bc, cc, bm, cm, htv, htM⟩ := htz.form
  subst htv htM
  have hb5 : Below w4.heap.size w4 (w4.alloc (.cells #[(.slice (some ⟨bc, 0, none⟩) 195 cc), (.slice (some ⟨bm, 0, none⟩) 3 cm)] 32)) := (Below.refl _ _).alloc (Nat.le_refl _) _
  have R0 := hid (CoS.mk (BlkV.new w4 32 [(.slice (some ⟨bc, 0, none⟩) 195 cc), (.slice (some ⟨bm, 0, none⟩) 3 cm)]) ((HPI.out.up b4).up hb5) (htz.up hb5) (bchain HB3.out (bchain b4 hb5)))
  clear htz b4 hb5 hpl HPI HB3
  go_wp2_with fail
  obtain ⟨w5, hw5⟩ : ∃ x, x = w4.alloc (.cells #[(.slice (some ⟨bc, 0, none⟩) 195 cc), (.slice (some ⟨bm, 0, none⟩) 3 cm)] 32) := ⟨_, rfl⟩
  rw [← hw5] at R0 ⊢
  obtain ⟨p4, hp4⟩ : ∃ x, x = w4.heap.size := ⟨_, rfl⟩
  rw [← hp4] at R0 hpl4 ⊢
  clear hw5 hp4
  have h4 : p4 ≠ p := by omega
  have hlo := HG.out.lo hpw
  clear hpl4
  go_loopw [5] (fun i wr => ∃ q : Int, -1 ≤ q ∧ q ≤ 66 ∧ i = .int .i64 q ∧ CoS w p p4 (.slice (some ⟨bc, 0, none⟩) 195 cc) (.slice (some ⟨bm, 0, none⟩) 3 cm) wr) (fun i _ => (66 - intOf i).toNat)
  case atStart => exact ⟨-1, by omega, by omega, rfl, R0.out⟩
  case round =>
    clear R0
    obtain ⟨q, hq0, hq1, rfl, hS⟩ := hrel
    by_cases hle : q ≤ 65
    · have HS := hid hS
      clear hS
      go_wp2_with fail
      refine (constants_c p q wr HS.out.pi (HG.out.up HS.out.b) hlo).mono ?_
      rintro e w6 ⟨c, rfl, hc, hqi, ho, hk⟩
      have h6 := HS.out.onl h4 hpw hqi ho hk
      obtain ⟨nn1, nn2, nn3⟩ := newRow w6 39 12 c
      have N1 := hid nn1
      have HT := hid (CoT.mk (h6.up nn3) nn2)
      have HC := hid hc
      have hlc := wds_len 12 c
      clear hc hqi ho hk h6 nn1 nn2 nn3 HS
      unfold oF at N1 HT
      go_wp2_with (first
    | with_reducible refine wpList_store_mid rfl 39 (.tmp 6) (.tmp 19) rfl (w6.heap.size) (0) (wds 12 c).toArray rfl rfl (by with_reducible exact N1.out) (sizeVA _) (wds_all _ _) ?_
    | fail)
      obtain ⟨w7, hw7⟩ : ∃ x, x = (w6.alloc (.cells (wds 12 z0).toArray 39)).setCells w6.heap.size 0 (wds 12 c) := ⟨_, rfl⟩
      rw [← hw7] at HT ⊢
      obtain ⟨p6, hp6⟩ : ∃ x, x = w6.heap.size := ⟨_, rfl⟩
      rw [← hp6] at HT ⊢
      clear hw7 hp6 N1
      go_loopw [20] (fun i wr => ∃ m : Nat, m ≤ 3 ∧ i = .int .i64 m ∧ CoT w p p4 p6 c (.slice (some ⟨bc, 0, none⟩) 195 cc) (.slice (some ⟨bm, 0, none⟩) 3 cm) wr) (fun i _ => 3 - (intOf i).toNat)
      case atStart => exact ⟨0, by omega, rfl, HT.out⟩
      case round =>
        clear HT
        obtain ⟨m, hm, rfl, hT⟩ := hrel
        by_cases hltm : m < 3
        · have j0 : (0 : Int) ≤ (m : Int) := by omega
          have j2 : (m : Int) < 3 := by omega
          have EX := hid (HC.out.el hltm)
          have OV : Hid (∀ v, BlkV v p6 39 (wds 12 c) → v.rangeAt p6 (m * 4) (wds 4 fun j => c (m * 4 + j))) := fun v hv => hv.sub _ 4 (by omega)
          obtain ⟨a, ha⟩ : ∃ a : Nat → Int, a = fun j => c (m * 4 + j) := ⟨_, rfl⟩
          rw [← ha] at EX OV
          have e0 := CoT.up hT (Below.refl _ _).drew
          clear ha hT
          go_wp2_with fail
          refine wp_region_held_drew (S := CoT w p p4 p6 c (.slice (some ⟨bc, 0, none⟩) 195 cc) (.slice (some ⟨bm, 0, none⟩) 3 cm)) (by kernel_rfl) e0 (fun hHeld => ?_)
          refine wpAnyH_take (i := 0) (v := ?_) rfl (by kernel_rfl) (by kernel_rfl) (by kernel_rfl) (fun _ _ _ h => h) (Or.inl ⟨by rfl, fun v hv => ?_⟩) (by with_reducible assumption) ?_
          rotate_left
          · go_simp
            try with_reducible rfl
          simp only [Act.put, List.setIfInBounds_toArray, List.set_cons_zero, List.set_cons_succ, List.getElem_toArray, List.getElem_cons_zero, List.getElem_cons_succ]
          refine wpAnyH_take (i := 1) (v := ?_) rfl (by kernel_rfl) (by kernel_rfl) (by kernel_rfl) (fun _ _ _ h => h) (Or.inl ⟨by rfl, fun v hv => ?_⟩) (by with_reducible assumption) ?_
          rotate_left
          · go_simp
            try with_reducible rfl
          simp only [Act.put, List.setIfInBounds_toArray, List.set_cons_zero, List.set_cons_succ, List.getElem_toArray, List.getElem_cons_zero, List.getElem_cons_succ]
          refine wpAnyH_take (i := 2) (v := .agg (wds 4 a).toArray) rfl (by kernel_rfl) (by kernel_rfl) (by kernel_rfl) (fun _ _ _ h => h) (yieldsIf_load_mid (by rfl) 37 (.tmp 24) rfl (p6) (m * 4) rfl (wds 4 a) _ (fun v hv => OV.out v hv.x) Tryz.underlying37 rfl (sizeE _)) (by with_reducible assumption) ?_
          simp only [Act.put, List.setIfInBounds_toArray, List.set_cons_zero, List.set_cons_succ, List.getElem_toArray, List.getElem_cons_zero, List.getElem_cons_succ]
          refine wpAnyH_take (i := 3) (v := .agg ([(.slice (some ⟨bc, 0, none⟩) 195 cc), (.slice (some ⟨bm, 0, none⟩) 3 cm)]).toArray) rfl (by kernel_rfl) (by kernel_rfl) (by kernel_rfl) (fun _ _ _ h => h) (yieldsIf_load_mid (by rfl) 32 (.tmp 4) rfl (p4) (0) rfl ([(.slice (some ⟨bc, 0, none⟩) 195 cc), (.slice (some ⟨bm, 0, none⟩) 3 cm)]) _ (fun v hv => hv.s.t.range) Tryz.underlying32 rfl (@sizeTab2 (.slice (some ⟨bc, 0, none⟩) 195 cc) _)) (by with_reducible assumption) ?_
          simp only [Act.put, List.setIfInBounds_toArray, List.set_cons_zero, List.set_cons_succ, List.getElem_toArray, List.getElem_cons_zero, List.getElem_cons_succ]
          refine wpAnyH_take (i := 4) (v := ?_) rfl (by kernel_rfl) (by kernel_rfl) (by kernel_rfl) (fun _ _ _ h => h) (Or.inl ⟨by rfl, fun v hv => ?_⟩) (by with_reducible assumption) ?_
          rotate_left
          · go_simp
            try with_reducible rfl
          simp only [Act.put, List.setIfInBounds_toArray, List.set_cons_zero, List.set_cons_succ, List.getElem_toArray, List.getElem_cons_zero, List.getElem_cons_succ]
          refine wpAnyH_take (i := 5) (v := ?_) rfl (by kernel_rfl) (by kernel_rfl) (by kernel_rfl) (fun _ _ _ h => h) (Or.inl ⟨by rfl, fun v hv => ?_⟩) (by with_reducible assumption) ?_
          rotate_left
          · go_simp
            try with_reducible rfl
          simp only [Act.put, List.setIfInBounds_toArray, List.set_cons_zero, List.set_cons_succ, List.getElem_toArray, List.getElem_cons_zero, List.getElem_cons_succ]
          refine wpAnyH_ready (rs := [6]) (by kernel_rfl) (by simp) ?_
          refine (AllReadyH.cons rfl (fun K hK => ?_) AllReadyH.nil)
          go_simp
          go_at_call 19
          with_reducible refine (r10Constant_c _ _ q m wr.drew (e0).s.tz hltm).mono ?_
          rintro e wr1 ⟨d2, rfl, hd2, hbr1⟩
          have e_r1 := (e0).up hbr1
          try dsimp only
          refine hK.out _ _ (e_r1) (fun hHeld => ?_)
          clear hK K
          try simp only [Act.put, List.setIfInBounds_toArray, List.set_cons_zero, List.set_cons_succ, List.getElem_toArray, List.getElem_cons_zero, List.getElem_cons_succ]
          refine wpAnyH_ready (rs := [7]) (by kernel_rfl) (by simp) ?_
          refine (AllReadyH.cons rfl (fun K hK => ?_) AllReadyH.nil)
          go_simp
          go_at_call 18
          with_reducible refine (is_t _ _ _ _ wr1 EX.out hd2 (HG.out.up (e_r1).s.b) rfl).mono ?_
          rintro e wr2 ⟨rfl, hbr2⟩
          have e_r2 := (e_r1).up hbr2
          try dsimp only
          refine hK.out _ _ (e_r2) (fun hHeld => ?_)
          clear hK K
          try simp only [Act.put, List.setIfInBounds_toArray, List.set_cons_zero, List.set_cons_succ, List.getElem_toArray, List.getElem_cons_zero, List.getElem_cons_succ]
          refine wpAnyH_take (i := 8) (v := ?_) rfl (by kernel_rfl) (by kernel_rfl) (by kernel_rfl) (fun _ _ _ h => h) (Or.inl ⟨by rfl, fun v hv => ?_⟩) (by with_reducible assumption) ?_
          rotate_left
          · go_simp
            try with_reducible rfl
          simp only [Act.put, List.setIfInBounds_toArray, List.set_cons_zero, List.set_cons_succ, List.getElem_toArray, List.getElem_cons_zero, List.getElem_cons_succ]
          refine wpAnyH_done (by kernel_rfl) ?_ _
          have HE := hid e_r2
          clear e_r2
          go_wp2_with fail
          go_roundw
          case rel => exact ⟨m + 1, by omega, by go_num, HE.out⟩
          case measure => simp [intOf]; omega
        · obtain rfl : m = 3 := by omega
          have HE := hid hT.s
          clear hT
          go_wp2_with fail
          go_roundw
          case rel => exact ⟨q + 1, by omega, by omega, by go_num, HE.out⟩
          case measure => simp [intOf]; omega
    · have d5 : decide (q ≤ 65) = false := decide_eq_false hle
      have HS := hid hS
      clear hS
      go_wp2_with fail
      refine (constants_c p r wr HS.out.pi (HG.out.up HS.out.b) hlo).mono ?_
      rintro e w6 ⟨c, rfl, hc, hqi, ho, hk⟩
      have h6 := HS.out.onl h4 hpw hqi ho hk
      obtain ⟨nn1, nn2, nn3⟩ := newRow w6 39 12 c
      have N1 := hid nn1
      have HT := hid (CoT.mk (h6.up nn3) nn2)
      have EX := hid (hc.at_ 1 (by decide)).out
      have hlc := wds_len 12 c
      clear hc hqi ho hk h6 nn1 nn2 nn3 HS
      unfold oF at N1 HT
      go_wp2_with (first
    | with_reducible refine wpList_store_mid rfl 39 (.tmp 8) (.tmp 35) rfl (w6.heap.size) (0) (wds 12 c).toArray rfl rfl (by with_reducible exact N1.out) (sizeVA _) (wds_all _ _) ?_
    | fail)
      obtain ⟨w7, hw7⟩ : ∃ x, x = (w6.alloc (.cells (wds 12 z0).toArray 39)).setCells w6.heap.size 0 (wds 12 c) := ⟨_, rfl⟩
      rw [← hw7] at HT ⊢
      obtain ⟨p6, hp6⟩ : ∃ x, x = w6.heap.size := ⟨_, rfl⟩
      rw [← hp6] at HT ⊢
      have OV : Hid (∀ v, BlkV v p6 39 (wds 12 c) → v.rangeAt p6 4 (wds 4 fun j => c (1 * 4 + j))) := fun v hv => hv.sub 4 4 (by omega)
      obtain ⟨a, ha⟩ : ∃ a : Nat → Int, a = fun j => c (1 * 4 + j) := ⟨_, rfl⟩
      rw [← ha] at EX OV
      have e0 := CoT.up HT.out (Below.refl _ _).drew
      clear hw7 hp6 N1 ha HT
      refine wp_region_held_drew (S := CoT w p p4 p6 c (.slice (some ⟨bc, 0, none⟩) 195 cc) (.slice (some ⟨bm, 0, none⟩) 3 cm)) (by kernel_rfl) e0 (fun hHeld => ?_)
      refine wpAnyH_take (i := 0) (v := ?_) rfl (by kernel_rfl) (by kernel_rfl) (by kernel_rfl) (fun _ _ _ h => h) (Or.inl ⟨by rfl, fun v hv => ?_⟩) (by with_reducible assumption) ?_
      rotate_left
      · go_simp
        try with_reducible rfl
      simp only [Act.put, List.setIfInBounds_toArray, List.set_cons_zero, List.set_cons_succ, List.getElem_toArray, List.getElem_cons_zero, List.getElem_cons_succ]
      refine wpAnyH_take (i := 1) (v := .agg (wds 4 a).toArray) rfl (by kernel_rfl) (by kernel_rfl) (by kernel_rfl) (fun _ _ _ h => h) (yieldsIf_load_mid (by rfl) 37 (.tmp 36) rfl (p6) (4) rfl (wds 4 a) _ (fun v hv => OV.out v hv.x) Tryz.underlying37 rfl (sizeE _)) (by with_reducible assumption) ?_
      simp only [Act.put, List.setIfInBounds_toArray, List.set_cons_zero, List.set_cons_succ, List.getElem_toArray, List.getElem_cons_zero, List.getElem_cons_succ]
      refine wpAnyH_take (i := 2) (v := .agg ([(.slice (some ⟨bc, 0, none⟩) 195 cc), (.slice (some ⟨bm, 0, none⟩) 3 cm)]).toArray) rfl (by kernel_rfl) (by kernel_rfl) (by kernel_rfl) (fun _ _ _ h => h) (yieldsIf_load_mid (by rfl) 32 (.tmp 4) rfl (p4) (0) rfl ([(.slice (some ⟨bc, 0, none⟩) 195 cc), (.slice (some ⟨bm, 0, none⟩) 3 cm)]) _ (fun v hv => hv.s.t.range) Tryz.underlying32 rfl (@sizeTab2 (.slice (some ⟨bc, 0, none⟩) 195 cc) _)) (by with_reducible assumption) ?_
      simp only [Act.put, List.setIfInBounds_toArray, List.set_cons_zero, List.set_cons_succ, List.getElem_toArray, List.getElem_cons_zero, List.getElem_cons_succ]
      refine wpAnyH_take (i := 3) (v := ?_) rfl (by kernel_rfl) (by kernel_rfl) (by kernel_rfl) (fun _ _ _ h => h) (Or.inl ⟨by rfl, fun v hv => ?_⟩) (by with_reducible assumption) ?_
      rotate_left
      · go_simp
        try with_reducible rfl
      simp only [Act.put, List.setIfInBounds_toArray, List.set_cons_zero, List.set_cons_succ, List.getElem_toArray, List.getElem_cons_zero, List.getElem_cons_succ]
      refine wpAnyH_ready (rs := [4]) (by kernel_rfl) (by simp) ?_
      refine (AllReadyH.cons rfl (fun K hK => ?_) AllReadyH.nil)
      go_simp
      go_at_call 19
      with_reducible refine (r10Constant1_c _ _ r w7.drew (e0).s.tz).mono ?_
      rintro e ws1 ⟨d2, rfl, hd2, hbs1⟩
      have e_s1 := (e0).up hbs1
      try dsimp only
      refine hK.out _ _ (e_s1) (fun hHeld => ?_)
      clear hK K
      try simp only [Act.put, List.setIfInBounds_toArray, List.set_cons_zero, List.set_cons_succ, List.getElem_toArray, List.getElem_cons_zero, List.getElem_cons_succ]
      refine wpAnyH_ready (rs := [5]) (by kernel_rfl) (by simp) ?_
      refine (AllReadyH.cons rfl (fun K hK => ?_) AllReadyH.nil)
      go_simp
      go_at_call 18
      with_reducible refine (is_t _ _ _ _ ws1 EX.out hd2 (HG.out.up (e_s1).s.b) rfl).mono ?_
      rintro e ws2 ⟨rfl, hbs2⟩
      have e_s2 := (e_s1).up hbs2
      try dsimp only
      refine hK.out _ _ (e_s2) (fun hHeld => ?_)
      clear hK K
      try simp only [Act.put, List.setIfInBounds_toArray, List.set_cons_zero, List.set_cons_succ, List.getElem_toArray, List.getElem_cons_zero, List.getElem_cons_succ]
      refine wpAnyH_take (i := 6) (v := ?_) rfl (by kernel_rfl) (by kernel_rfl) (by kernel_rfl) (fun _ _ _ h => h) (Or.inl ⟨by rfl, fun v hv => ?_⟩) (by with_reducible assumption) ?_
      rotate_left
      · go_simp
        try with_reducible rfl
      simp only [Act.put, List.setIfInBounds_toArray, List.set_cons_zero, List.set_cons_succ, List.getElem_toArray, List.getElem_cons_zero, List.getElem_cons_succ]
      refine wpAnyH_done (by kernel_rfl) ?_ _
      have HE := hid (e_s2).s.b
      clear e_s2
      go_wp2_with fail
      go_ret
      exact ⟨rfl, HE.out⟩
end Go.Proofs.YtdepkfdceidikaaGreatDoor
