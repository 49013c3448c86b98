/-
  avouchlaw09.MatrixLaws: the walk.
-/
import Derived.Test.YtdepkfdceidikaaDoorLawMReck
namespace Go.Proofs.YtdepkfdceidikaaDoor
open Go.RowKit
set_option linter.unusedVariables false
set_option linter.unusedSimpArgs false


theorem wpAnyH_relist {P : Program} {md : Region.Mode} {ops : Array Oper} {Q : Exit → Act → World → Prop} {S : World → Prop} {fuel : Nat} {l : Array Bool} (l2 : Array Bool) {a : Act} {w : World} (h : l = l2) (H : wpAnyH P md ops Q S fuel l2 a w) : wpAnyH P md ops Q S fuel l a w := h ▸ H
theorem join1 {A0 : Type} {F P : A0 → Prop} {G : Prop} (main : (∀ x0, F x0 → P x0) → G) (rest : ∀ x0, F x0 → P x0) : G := main rest
theorem join2 {A0 A1 : Type} {F P : A0 → A1 → Prop} {G : Prop} (main : (∀ x0 x1, F x0 x1 → P x0 x1) → G) (rest : ∀ x0 x1, F x0 x1 → P x0 x1) : G := main rest
theorem join3 {A0 A1 A2 : Type} {F P : A0 → A1 → A2 → Prop} {G : Prop} (main : (∀ x0 x1 x2, F x0 x1 x2 → P x0 x1 x2) → G) (rest : ∀ x0 x1 x2, F x0 x1 x2 → P x0 x1 x2) : G := main rest
theorem join4 {A0 A1 A2 A3 : Type} {F P : A0 → A1 → A2 → A3 → Prop} {G : Prop} (main : (∀ x0 x1 x2 x3, F x0 x1 x2 x3 → P x0 x1 x2 x3) → G) (rest : ∀ x0 x1 x2 x3, F x0 x1 x2 x3 → P x0 x1 x2 x3) : G := main rest
theorem join5 {A0 A1 A2 A3 A4 : Type} {F P : A0 → A1 → A2 → A3 → A4 → Prop} {G : Prop} (main : (∀ x0 x1 x2 x3 x4, F x0 x1 x2 x3 x4 → P x0 x1 x2 x3 x4) → G) (rest : ∀ x0 x1 x2 x3 x4, F x0 x1 x2 x3 x4 → P x0 x1 x2 x3 x4) : G := main rest
theorem join6 {A0 A1 A2 A3 A4 A5 : Type} {F P : A0 → A1 → A2 → A3 → A4 → A5 → Prop} {G : Prop} (main : (∀ x0 x1 x2 x3 x4 x5, F x0 x1 x2 x3 x4 x5 → P x0 x1 x2 x3 x4 x5) → G) (rest : ∀ x0 x1 x2 x3 x4 x5, F x0 x1 x2 x3 x4 x5 → P x0 x1 x2 x3 x4 x5) : G := main rest
theorem join7 {A0 A1 A2 A3 A4 A5 A6 : Type} {F P : A0 → A1 → A2 → A3 → A4 → A5 → A6 → Prop} {G : Prop} (main : (∀ x0 x1 x2 x3 x4 x5 x6, F x0 x1 x2 x3 x4 x5 x6 → P x0 x1 x2 x3 x4 x5 x6) → G) (rest : ∀ x0 x1 x2 x3 x4 x5 x6, F x0 x1 x2 x3 x4 x5 x6 → P x0 x1 x2 x3 x4 x5 x6) : G := main rest
theorem join8 {A0 A1 A2 A3 A4 A5 A6 A7 : Type} {F P : A0 → A1 → A2 → A3 → A4 → A5 → A6 → A7 → Prop} {G : Prop} (main : (∀ x0 x1 x2 x3 x4 x5 x6 x7, F x0 x1 x2 x3 x4 x5 x6 x7 → P x0 x1 x2 x3 x4 x5 x6 x7) → G) (rest : ∀ x0 x1 x2 x3 x4 x5 x6 x7, F x0 x1 x2 x3 x4 x5 x6 x7 → P x0 x1 x2 x3 x4 x5 x6 x7) : G := main rest
theorem join9 {A0 A1 A2 A3 A4 A5 A6 A7 A8 : Type} {F P : A0 → A1 → A2 → A3 → A4 → A5 → A6 → A7 → A8 → Prop} {G : Prop} (main : (∀ x0 x1 x2 x3 x4 x5 x6 x7 x8, F x0 x1 x2 x3 x4 x5 x6 x7 x8 → P x0 x1 x2 x3 x4 x5 x6 x7 x8) → G) (rest : ∀ x0 x1 x2 x3 x4 x5 x6 x7 x8, F x0 x1 x2 x3 x4 x5 x6 x7 x8 → P x0 x1 x2 x3 x4 x5 x6 x7 x8) : G := main rest
theorem balloc (v : World) (o : Obj) : Below v.heap.size v (v.alloc o) := (Below.refl _ _).alloc (Nat.le_refl _) o
/-- What stands behind u, at v: three matrices and a vector. -/
structure EL (p0 p1 p2 pv : Nat) (f0 f1 f2 gv : Nat → Int) (u v : World) : Prop where
  m : BlkV v p0 40 (wds 36 f0)
  n : BlkV v p1 40 (wds 36 f1)
  k : BlkV v p2 40 (wds 36 f2)
  y : BlkV v pv 38 (wds 12 gv)
  b : Below u.heap.size u v
  lt : p0 < u.heap.size ∧ p1 < u.heap.size ∧ p2 < u.heap.size ∧ pv < u.heap.size
/-- A new variable, behind u. -/
structure NW (u v : World) (p : Nat) (t : TypeId) (n : Nat) (f : Nat → Int) : Prop where
  le : u.heap.size ≤ p
  bl : BlkV v p t (wds n f)
theorem EL.up {p0 p1 p2 pv : Nat} {f0 f1 f2 gv : Nat → Int} {u v v' : World} (h : EL p0 p1 p2 pv f0 f1 f2 gv u v) (hb : Below v.heap.size v v') : EL p0 p1 p2 pv f0 f1 f2 gv u v' := ⟨h.m.up hb, h.n.up hb, h.k.up hb, h.y.up hb, bchain h.b hb, h.lt⟩
theorem EL.put {p0 p1 p2 pv : Nat} {f0 f1 f2 gv : Nat → Int} {u v : World} (h : EL p0 p1 p2 pv f0 f1 f2 gv u v) {c : Nat} (hc : u.heap.size ≤ c) (vs : List Value) : EL p0 p1 p2 pv f0 f1 f2 gv u (v.setCells c 0 vs) := by
  obtain ⟨l1, l2, l3, l4⟩ := h.lt
  exact ⟨BlkV.put (by omega) _ _ _ h.m, BlkV.put (by omega) _ _ _ h.n, BlkV.put (by omega) _ _ _ h.k, BlkV.put (by omega) _ _ _ h.y, below_cells hc _ _ _ h.b, h.lt⟩
theorem EL.new {p0 p1 p2 pv : Nat} {f0 f1 f2 gv : Nat → Int} {u v : World} (h : EL p0 p1 p2 pv f0 f1 f2 gv u v) (t : TypeId) (n : Nat) : NW u (v.alloc (.cells (wds n z0).toArray t)) v.heap.size t n z0 := ⟨h.b.size, BlkV.new v t (wds n z0)⟩
theorem NW.up {u v v' : World} {p : Nat} {t : TypeId} {n : Nat} {f : Nat → Int} (h : NW u v p t n f) (hb : Below v.heap.size v v') : NW u v' p t n f := ⟨h.le, h.bl.up hb⟩
theorem NW.put {u v : World} {p c : Nat} {t : TypeId} {n : Nat} {f : Nat → Int} (h : NW u v p t n f) (hc : u.heap.size ≤ c) (hne : p ≠ c) (vs : List Value) : NW u (v.setCells c 0 vs) p t n f := ⟨h.le, BlkV.put hne _ _ _ h.bl⟩
theorem NW.there {u v : World} {p : Nat} {t : TypeId} {n : Nat} {f : Nat → Int} (h : NW u v p t n f) {g : Nat → Int} : v.there p 0 (wds n g).toArray.size := h.bl.thereW 0 n g (by omega)
theorem NW.lay {u v : World} {p : Nat} {t : TypeId} {n : Nat} {f : Nat → Int} (h : NW u v p t n f) (g : Nat → Int) : NW u (v.setCells p 0 (wds n g)) p t n g := ⟨h.le, h.bl.lay0 g⟩
theorem unit_cong (M : MZ) {i j : Nat} (hj : j < 3) : mzMul M mzUnit i j % pZ = M i j % pZ := by rw [mzMul_unit M hj]
set_option maxRecDepth 100000 in
set_option maxHeartbeats 40000000 in
theorem matrixLaws_w (A0 : Nat → Option Addr) (n0 c0 : Nat → Nat) (l0 : Nat → List Nat) (A1 : Nat → Option Addr) (n1 c1 : Nat → Nat) (l1 : Nat → List Nat) (A2 : Nat → Option Addr) (n2 c2 : Nat → Nat) (l2 : Nat → List Nat) (w : World) (hN0 : N9 w w.heap.size A0 n0 l0) (hN1 : N9 w w.heap.size A1 n1 l1) (hN2 : N9 w w.heap.size A2 n2 l2) (hG : Glob w) :
    Calls Tryd.prog 4 #[.agg (sls A0 n0 c0).toArray, .agg (sls A1 n1 c1).toArray, .agg (sls A2 n2 c2).toArray] w fun e w' => e = .returned (.bool true) ∧ Below w.heap.size w w' := by
  have e1 : (w.alloc (.cells (sls A0 n0 c0).toArray 35)).heap.size = w.heap.size + 1 := by simp
  have e2 : ((w.alloc (.cells (sls A0 n0 c0).toArray 35)).alloc (.cells (sls A1 n1 c1).toArray 35)).heap.size = w.heap.size + 1 + 1 := by simp
  have x0 := ((BlkV.new w 35 (sls A0 n0 c0)).alloc (.cells (sls A1 n1 c1).toArray 35)).alloc (.cells (sls A2 n2 c2).toArray 35)
  have hls0 := sls_len A0 n0 c0
  have x1 := (BlkV.new (w.alloc (.cells (sls A0 n0 c0).toArray 35)) 35 (sls A1 n1 c1)).alloc (.cells (sls A2 n2 c2).toArray 35)
  rw [e1] at x1
  have hls1 := sls_len A1 n1 c1
  have x2 := BlkV.new ((w.alloc (.cells (sls A0 n0 c0).toArray 35)).alloc (.cells (sls A1 n1 c1).toArray 35)) 35 (sls A2 n2 c2)
  rw [e2] at x2
  have hls2 := sls_len A2 n2 c2
  have HB := hid ((((Below.refl w.heap.size w).alloc (Nat.le_refl _) (.cells (sls A0 n0 c0).toArray 35)).alloc (by omega) (.cells (sls A1 n1 c1).toArray 35)).alloc (by omega) (.cells (sls A2 n2 c2).toArray 35))
  have HX0 := hid x0
  have HN0 := hid hN0
  have HX1 := hid x1
  have HN1 := hid hN1
  have HX2 := hid x2
  have HN2 := hid hN2
  have HG := hid hG
  clear x0 hN0 x1 hN1 x2 hN2 e1 e2 hG
  by_cases hF0 : Few n0
  · by_cases hF1 : Few n1
    · by_cases hF2 : Few n2
      · go_enter Tryd.func4, Tryd.ntmps4
        go_wp2_with fail
        generalize (((w.alloc _).alloc _).alloc _) = w0 at *
        refine (speaks9_c w0 (HG.out.up HB.out)).mono ?_
        rintro e w1 ⟨rfl, b1⟩
        have HX0' := hid (HX0.out.up b1)
        clear HX0
        have HX0 := HX0'
        clear HX0'
        have HX1' := hid (HX1.out.up b1)
        clear HX1
        have HX1 := HX1'
        clear HX1'
        have HX2' := hid (HX2.out.up b1)
        clear HX2
        have HX2 := HX2'
        clear HX2'
        have HB' := hid (bchain HB.out b1)
        clear HB
        have HB := HB'
        clear HB' b1
        go_wp2_with (first
    | refine wpList_load_midG (by rfl) 35 (.tmp 3) rfl (w.heap.size) 0 rfl (sls A0 n0 c0) _ (by with_reducible exact HX0.out.range) Tryd.underlying35 rfl (sizeNA _ _ _) ?_
    | fail)
        refine (few_t A0 n0 c0 w1 hF0).mono ?_
        rintro e w1f0 ⟨rfl, bf0⟩
        have HX0' := hid (HX0.out.up bf0)
        clear HX0
        have HX0 := HX0'
        clear HX0'
        have HX1' := hid (HX1.out.up bf0)
        clear HX1
        have HX1 := HX1'
        clear HX1'
        have HX2' := hid (HX2.out.up bf0)
        clear HX2
        have HX2 := HX2'
        clear HX2'
        have HB' := hid (bchain HB.out bf0)
        clear HB
        have HB := HB'
        clear HB' bf0
        go_wp2_with (first
    | refine wpList_load_midG (by rfl) 35 (.tmp 4) rfl (w.heap.size + 1) 0 rfl (sls A1 n1 c1) _ (by with_reducible exact HX1.out.range) Tryd.underlying35 rfl (sizeNA _ _ _) ?_
    | fail)
        refine (few_t A1 n1 c1 w1f0 hF1).mono ?_
        rintro e w1f0f1 ⟨rfl, bf1⟩
        have HX0' := hid (HX0.out.up bf1)
        clear HX0
        have HX0 := HX0'
        clear HX0'
        have HX1' := hid (HX1.out.up bf1)
        clear HX1
        have HX1 := HX1'
        clear HX1'
        have HX2' := hid (HX2.out.up bf1)
        clear HX2
        have HX2 := HX2'
        clear HX2'
        have HB' := hid (bchain HB.out bf1)
        clear HB
        have HB := HB'
        clear HB' bf1
        go_wp2_with (first
    | refine wpList_load_midG (by rfl) 35 (.tmp 5) rfl (w.heap.size + 1 + 1) 0 rfl (sls A2 n2 c2) _ (by with_reducible exact HX2.out.range) Tryd.underlying35 rfl (sizeNA _ _ _) ?_
    | fail)
        refine (few_t A2 n2 c2 w1f0f1 hF2).mono ?_
        rintro e w1f0f1f2 ⟨rfl, bf2⟩
        have HX0' := hid (HX0.out.up bf2)
        clear HX0
        have HX0 := HX0'
        clear HX0'
        have HX1' := hid (HX1.out.up bf2)
        clear HX1
        have HX1 := HX1'
        clear HX1'
        have HX2' := hid (HX2.out.up bf2)
        clear HX2
        have HX2 := HX2'
        clear HX2'
        have HB' := hid (bchain HB.out bf2)
        clear HB
        have HB := HB'
        clear HB' bf2
        have hz := zeroM
        have hlz := wds_len 36 z0
        have hzv := zeroV
        have hlv := wds_len 12 z0
        go_wp2_with (first
    | with_reducible refine wpList_load_mid rfl 35 (.tmp 3) rfl (w.heap.size) 0 rfl (sls A0 n0 c0) _ (by with_reducible exact HX0.out.range) Tryd.underlying35 rfl (sizeNA _ _ _) ?_
    | fail)
        refine (of9_c A0 n0 c0 l0 w1f0f1f2 ((HN0.out.below HB.out (Nat.le_refl _)).more HB.out.size) hF0 (HG.out.up HB.out)).mono ?_
        rintro e wo0 ⟨f0, r0, rfl, hM0, hR0, bo0⟩
        obtain ⟨nn1, nn2, nn3⟩ := newRow wo0 40 36 f0
        have N1 := hid nn1
        have HM0 := hid hM0
        have HY0 := hid nn2
        have HR0 := hid (hR0.up nn3)
        have bb0 := bchain bo0 nn3
        have hlf0 := wds_len 36 f0
        clear nn1 nn2 nn3 hM0 hR0 bo0
        have HX0' := hid (HX0.out.up bb0)
        clear HX0
        have HX0 := HX0'
        clear HX0'
        have HX1' := hid (HX1.out.up bb0)
        clear HX1
        have HX1 := HX1'
        clear HX1'
        have HX2' := hid (HX2.out.up bb0)
        clear HX2
        have HX2 := HX2'
        clear HX2'
        have HB' := hid (bchain HB.out bb0)
        clear HB
        have HB := HB'
        clear HB' bb0
        unfold oF at N1 HY0 HR0 HB HX0 HX1 HX2
        go_wp2_with (first
    | with_reducible refine wpList_store_mid rfl 40 (.tmp 7) (.tmp 42) rfl (wo0.heap.size) (0) (wds 36 f0).toArray rfl rfl (by with_reducible exact N1.out) (sizeMA _) (wds_all _ _) ?_
    | with_reducible refine wpList_load_mid rfl 35 (.tmp 4) rfl (w.heap.size + 1) 0 rfl (sls A1 n1 c1) _ (by with_reducible exact HX1.out.range) Tryd.underlying35 rfl (sizeNA _ _ _) ?_
    | fail)
        clear N1 HR0
        obtain ⟨p0, hp0⟩ : ∃ b, b = wo0.heap.size := ⟨_, rfl⟩
        rw [← hp0] at HY0 HX0 HX1 HX2 HB ⊢
        generalize ((wo0.alloc _).setCells _ _ _) = wm0 at *
        clear hp0
        refine (of9_c A1 n1 c1 l1 wm0 ((HN1.out.below HB.out (Nat.le_refl _)).more HB.out.size) hF1 (HG.out.up HB.out)).mono ?_
        rintro e wo1 ⟨f1, r1, rfl, hM1, hR1, bo1⟩
        obtain ⟨nn1, nn2, nn3⟩ := newRow wo1 40 36 f1
        have N1 := hid nn1
        have HM1 := hid hM1
        have HY1 := hid nn2
        have HR1 := hid (hR1.up nn3)
        have bb1 := bchain bo1 nn3
        have hlf1 := wds_len 36 f1
        clear nn1 nn2 nn3 hM1 hR1 bo1
        have HX0' := hid (HX0.out.up bb1)
        clear HX0
        have HX0 := HX0'
        clear HX0'
        have HX1' := hid (HX1.out.up bb1)
        clear HX1
        have HX1 := HX1'
        clear HX1'
        have HX2' := hid (HX2.out.up bb1)
        clear HX2
        have HX2 := HX2'
        clear HX2'
        have HY0' := hid (HY0.out.up bb1)
        clear HY0
        have HY0 := HY0'
        clear HY0'
        have HB' := hid (bchain HB.out bb1)
        clear HB
        have HB := HB'
        clear HB' bb1
        unfold oF at N1 HY1 HR1 HB HX0 HX1 HX2 HY0
        go_wp2_with (first
    | with_reducible refine wpList_store_mid rfl 40 (.tmp 9) (.tmp 47) rfl (wo1.heap.size) (0) (wds 36 f1).toArray rfl rfl (by with_reducible exact N1.out) (sizeMA _) (wds_all _ _) ?_
    | with_reducible refine wpList_load_mid rfl 35 (.tmp 5) rfl (w.heap.size + 1 + 1) 0 rfl (sls A2 n2 c2) _ (by with_reducible exact HX2.out.range) Tryd.underlying35 rfl (sizeNA _ _ _) ?_
    | fail)
        clear N1 HR1
        obtain ⟨p1, hp1⟩ : ∃ b, b = wo1.heap.size := ⟨_, rfl⟩
        rw [← hp1] at HY1 HX0 HX1 HX2 HY0 HB ⊢
        generalize ((wo1.alloc _).setCells _ _ _) = wm1 at *
        clear hp1
        refine (of9_c A2 n2 c2 l2 wm1 ((HN2.out.below HB.out (Nat.le_refl _)).more HB.out.size) hF2 (HG.out.up HB.out)).mono ?_
        rintro e wo2 ⟨f2, r2, rfl, hM2, hR2, bo2⟩
        obtain ⟨nn1, nn2, nn3⟩ := newRow wo2 40 36 f2
        have N1 := hid nn1
        have HM2 := hid hM2
        have HY2 := hid nn2
        have HR2 := hid (hR2.up nn3)
        have bb2 := bchain bo2 nn3
        have hlf2 := wds_len 36 f2
        clear nn1 nn2 nn3 hM2 hR2 bo2
        have HX0' := hid (HX0.out.up bb2)
        clear HX0
        have HX0 := HX0'
        clear HX0'
        have HX1' := hid (HX1.out.up bb2)
        clear HX1
        have HX1 := HX1'
        clear HX1'
        have HX2' := hid (HX2.out.up bb2)
        clear HX2
        have HX2 := HX2'
        clear HX2'
        have HY0' := hid (HY0.out.up bb2)
        clear HY0
        have HY0 := HY0'
        clear HY0'
        have HY1' := hid (HY1.out.up bb2)
        clear HY1
        have HY1 := HY1'
        clear HY1'
        have HB' := hid (bchain HB.out bb2)
        clear HB
        have HB := HB'
        clear HB' bb2
        unfold oF at N1 HY2 HR2 HB HX0 HX1 HX2 HY0 HY1
        have HSUB : Hid (∀ v b, BlkV v b 40 (wds 36 f2) → v.rangeAt b 12 (wds 12 fun k => f2 (12 + k))) := fun v b hv => hv.sub 12 12 (by decide)
        have HV : Hid (VecZ (fun k => f2 (12 + k)) (nums l2 1)) := HM2.out.row (i := 1) (by decide)
        obtain ⟨gv, hgv⟩ : ∃ a : Nat → Int, a = fun k => f2 (12 + k) := ⟨_, rfl⟩
        rw [← hgv] at HSUB HV
        clear hgv
        have hlgv := wds_len 12 gv
        have HRG := hid (HSUB.out _ _ HY2.out)
        obtain ⟨w6, hw6⟩ : ∃ v, v = World.setCells (wo2.alloc (.cells (wds 36 z0).toArray 40)) wo2.heap.size 0 (wds 36 f2) := ⟨_, rfl⟩
        have nr := newRow w6 38 12 gv
        unfold oF at nr
        rw [hw6] at nr
        obtain ⟨nn1, nn2, nn3⟩ := nr
        have N2 := hid nn1
        have HYv := hid nn2
        have HY0' := hid (HY0.out.up nn3)
        have HY1' := hid (HY1.out.up nn3)
        have HY2' := hid (HY2.out.up nn3)
        have HB' := hid (bchain HB.out nn3)
        clear hw6 nn1 nn2 nn3
        go_wp2_with (first
    | with_reducible refine wpList_store_mid rfl 40 (.tmp 11) (.tmp 52) rfl (wo2.heap.size) (0) (wds 36 f2).toArray rfl rfl (by with_reducible exact N1.out) (sizeMA _) (wds_all _ _) ?_
    | with_reducible refine wpList_load_mid rfl 38 (.tmp 54) rfl (wo2.heap.size) (12) rfl (wds 12 gv) _ (by with_reducible exact HRG.out) Tryd.underlying38 rfl (sizeV _) ?_
    | with_reducible refine wpList_store_mid rfl 38 (.tmp 13) (.tmp 55) rfl ((World.setCells (wo2.alloc (.cells (wds 36 z0).toArray 40)) wo2.heap.size 0 (wds 36 f2)).heap.size) (0) (wds 12 gv).toArray rfl rfl (by with_reducible exact N2.out) (sizeVA _) (wds_all _ _) ?_
    | fail)
        clear N1 N2 HRG HY0 HY1 HY2 HB HX0 HX1 HX2 HR2
        have HY0 := HY0'
        have HY1 := HY1'
        have HY2 := HY2'
        have HB := HB'
        clear HY0' HY1' HY2' HB'
        obtain ⟨pv, hpv⟩ : ∃ b, b = (World.setCells (wo2.alloc (.cells (wds 36 z0).toArray 40)) wo2.heap.size 0 (wds 36 f2)).heap.size := ⟨_, rfl⟩
        rw [← hpv] at HYv HY0 HY1 HY2 HB ⊢
        generalize (World.setCells (World.alloc (World.setCells (wo2.alloc _) _ _ _) _) pv 0 (wds 12 gv)) = w7 at *
        obtain ⟨p2, hp2⟩ : ∃ b, b = wo2.heap.size := ⟨_, rfl⟩
        rw [← hp2] at HY2 ⊢
        clear hpv hp2
        try simp only [Act.put]
        go_cut [14, 15] (fun s t wx => ∃ (p q : Nat) (g h : Nat → Int), s = .pointer (some ⟨p, 0, none⟩) ∧ t = .pointer (some ⟨q, 0, none⟩) ∧ BlkV wx p 40 (wds 36 g) ∧ BlkV wx q 40 (wds 36 h) ∧ MatZ g (mzMul (mzMul (nums l0) (nums l1)) (nums l2)) ∧ MatZ h (mzMul (nums l0) (mzMul (nums l1) (nums l2))) ∧ Below w7.heap.size w7 wx)
        case first =>
          have hlf0 := wds_len 36 f0
          have e0 := EL.up (⟨HY0.out, HY1.out, HY2.out, HYv.out, Below.refl _ _, HY0.out.size, HY1.out.size, HY2.out.size, HYv.out.size⟩ : EL p0 p1 p2 pv f0 f1 f2 gv w7 w7) (Below.refl _ _).drew
          clear HV HYv HY0 HY1 HY2
          generalize hvd : w7.drew = wd0 at *
          refine wp_region_held_drew (S := EL p0 p1 p2 pv f0 f1 f2 gv w7) (by kernel_rfl) (by rw [hvd]; exact e0) (fun hHeld => ?_)
          rw [hvd] at hHeld ⊢
          refine wpAnyH_take (i := 0) (v := .agg (wds 36 f0).toArray) rfl (by kernel_rfl) (by kernel_rfl) (by kernel_rfl) (fun _ _ _ h => h) (yieldsIf_load_mid (by rfl) 40 (.tmp 7) rfl (p0) (0) rfl (wds 36 f0) _ (fun v hv => hv.m.range) Tryd.underlying40 rfl (sizeM _)) (by with_reducible assumption) ?_
          simp only [Act.put, List.setIfInBounds_toArray, List.set_cons_zero, List.set_cons_succ, List.getElem_toArray, List.getElem_cons_zero, List.getElem_cons_succ]
          refine wpAnyH_take (i := 1) (v := .agg (wds 36 f1).toArray) rfl (by kernel_rfl) (by kernel_rfl) (by kernel_rfl) (fun _ _ _ h => h) (yieldsIf_load_mid (by rfl) 40 (.tmp 9) rfl (p1) (0) rfl (wds 36 f1) _ (fun v hv => hv.n.range) Tryd.underlying40 rfl (sizeM _)) (by with_reducible assumption) ?_
          simp only [Act.put, List.setIfInBounds_toArray, List.set_cons_zero, List.set_cons_succ, List.getElem_toArray, List.getElem_cons_zero, List.getElem_cons_succ]
          refine wpAnyH_take (i := 3) (v := .agg (wds 36 f2).toArray) rfl (by kernel_rfl) (by kernel_rfl) (by kernel_rfl) (fun _ _ _ h => h) (yieldsIf_load_mid (by rfl) 40 (.tmp 11) rfl (p2) (0) rfl (wds 36 f2) _ (fun v hv => hv.k.range) Tryd.underlying40 rfl (sizeM _)) (by with_reducible assumption) ?_
          simp only [Act.put, List.setIfInBounds_toArray, List.set_cons_zero, List.set_cons_succ, List.getElem_toArray, List.getElem_cons_zero, List.getElem_cons_succ]
          refine wpAnyH_take (i := 5) (v := .agg (wds 36 f0).toArray) rfl (by kernel_rfl) (by kernel_rfl) (by kernel_rfl) (fun _ _ _ h => h) (yieldsIf_load_mid (by rfl) 40 (.tmp 7) rfl (p0) (0) rfl (wds 36 f0) _ (fun v hv => hv.m.range) Tryd.underlying40 rfl (sizeM _)) (by with_reducible assumption) ?_
          simp only [Act.put, List.setIfInBounds_toArray, List.set_cons_zero, List.set_cons_succ, List.getElem_toArray, List.getElem_cons_zero, List.getElem_cons_succ]
          refine wpAnyH_take (i := 6) (v := .agg (wds 36 f1).toArray) rfl (by kernel_rfl) (by kernel_rfl) (by kernel_rfl) (fun _ _ _ h => h) (yieldsIf_load_mid (by rfl) 40 (.tmp 9) rfl (p1) (0) rfl (wds 36 f1) _ (fun v hv => hv.n.range) Tryd.underlying40 rfl (sizeM _)) (by with_reducible assumption) ?_
          simp only [Act.put, List.setIfInBounds_toArray, List.set_cons_zero, List.set_cons_succ, List.getElem_toArray, List.getElem_cons_zero, List.getElem_cons_succ]
          refine wpAnyH_take (i := 7) (v := .agg (wds 36 f2).toArray) rfl (by kernel_rfl) (by kernel_rfl) (by kernel_rfl) (fun _ _ _ h => h) (yieldsIf_load_mid (by rfl) 40 (.tmp 11) rfl (p2) (0) rfl (wds 36 f2) _ (fun v hv => hv.k.range) Tryd.underlying40 rfl (sizeM _)) (by with_reducible assumption) ?_
          simp only [Act.put, List.setIfInBounds_toArray, List.set_cons_zero, List.set_cons_succ, List.getElem_toArray, List.getElem_cons_zero, List.getElem_cons_succ]
          refine wpAnyH_relist #[true, true, false, true, false, true, true, true, false, false, false, false, false, false] (by kernel_rfl) ?_
          apply join7 (F := fun (v : World) (gA : Nat → Int) (gB : Nat → Int) (gC : Nat → Int) (gD : Nat → Int) (pp : Nat) (pq : Nat) => (EL p0 p1 p2 pv f0 f1 f2 gv w7 v) ∧ (NW w7 v pp 40 36 gB) ∧ (NW w7 v pq 40 36 gD) ∧ (pp ≠ pq) ∧ (MatZ gA (mzMul (nums l0) (nums l1))) ∧ (MatZ gB (mzMul (mzMul (nums l0) (nums l1)) (nums l2))) ∧ (MatZ gC (mzMul (nums l1) (nums l2))) ∧ (MatZ gD (mzMul (nums l0) (mzMul (nums l1) (nums l2)))))
          ·intro Ja11111111
           apply join7 (F := fun (v : World) (gA : Nat → Int) (gB : Nat → Int) (gC : Nat → Int) (gD : Nat → Int) (pp : Nat) (pq : Nat) => (EL p0 p1 p2 pv f0 f1 f2 gv w7 v) ∧ (NW w7 v pp 40 36 gB) ∧ (NW w7 v pq 40 36 z0) ∧ (pp ≠ pq) ∧ (MatZ gA (mzMul (nums l0) (nums l1))) ∧ (MatZ gB (mzMul (mzMul (nums l0) (nums l1)) (nums l2))) ∧ (MatZ gC (mzMul (nums l1) (nums l2))) ∧ (MatZ gD (mzMul (nums l0) (mzMul (nums l1) (nums l2)))))
           ·intro Ja11111110
            apply join7 (F := fun (v : World) (gA : Nat → Int) (gB : Nat → Int) (gC : Nat → Int) (gD : Nat → Int) (pp : Nat) (pq : Nat) => (EL p0 p1 p2 pv f0 f1 f2 gv w7 v) ∧ (NW w7 v pp 40 36 z0) ∧ (NW w7 v pq 40 36 z0) ∧ (pp ≠ pq) ∧ (MatZ gA (mzMul (nums l0) (nums l1))) ∧ (MatZ gB (mzMul (mzMul (nums l0) (nums l1)) (nums l2))) ∧ (MatZ gC (mzMul (nums l1) (nums l2))) ∧ (MatZ gD (mzMul (nums l0) (mzMul (nums l1) (nums l2)))))
            ·intro Ja11111100
             apply join6 (F := fun (v : World) (gA : Nat → Int) (gB : Nat → Int) (gC : Nat → Int) (pp : Nat) (pq : Nat) => (EL p0 p1 p2 pv f0 f1 f2 gv w7 v) ∧ (NW w7 v pp 40 36 z0) ∧ (NW w7 v pq 40 36 z0) ∧ (pp ≠ pq) ∧ (MatZ gA (mzMul (nums l0) (nums l1))) ∧ (MatZ gB (mzMul (mzMul (nums l0) (nums l1)) (nums l2))) ∧ (MatZ gC (mzMul (nums l1) (nums l2))))
             ·intro Ja11101100
              apply join6 (F := fun (v : World) (gA : Nat → Int) (gB : Nat → Int) (gC : Nat → Int) (gD : Nat → Int) (pq : Nat) => (EL p0 p1 p2 pv f0 f1 f2 gv w7 v) ∧ (NW w7 v pq 40 36 z0) ∧ (MatZ gA (mzMul (nums l0) (nums l1))) ∧ (MatZ gB (mzMul (mzMul (nums l0) (nums l1)) (nums l2))) ∧ (MatZ gC (mzMul (nums l1) (nums l2))) ∧ (MatZ gD (mzMul (nums l0) (mzMul (nums l1) (nums l2)))))
              ·intro Ja11110100
               apply join6 (F := fun (v : World) (gA : Nat → Int) (gB : Nat → Int) (gC : Nat → Int) (gD : Nat → Int) (pp : Nat) => (EL p0 p1 p2 pv f0 f1 f2 gv w7 v) ∧ (NW w7 v pp 40 36 z0) ∧ (MatZ gA (mzMul (nums l0) (nums l1))) ∧ (MatZ gB (mzMul (mzMul (nums l0) (nums l1)) (nums l2))) ∧ (MatZ gC (mzMul (nums l1) (nums l2))) ∧ (MatZ gD (mzMul (nums l0) (mzMul (nums l1) (nums l2)))))
               ·intro Ja11111000
                apply join5 (F := fun (v : World) (gA : Nat → Int) (gB : Nat → Int) (pp : Nat) (pq : Nat) => (EL p0 p1 p2 pv f0 f1 f2 gv w7 v) ∧ (NW w7 v pp 40 36 z0) ∧ (NW w7 v pq 40 36 z0) ∧ (pp ≠ pq) ∧ (MatZ gA (mzMul (nums l0) (nums l1))) ∧ (MatZ gB (mzMul (mzMul (nums l0) (nums l1)) (nums l2))))
                ·intro Ja11001100
                 apply join5 (F := fun (v : World) (gA : Nat → Int) (gB : Nat → Int) (gC : Nat → Int) (pq : Nat) => (EL p0 p1 p2 pv f0 f1 f2 gv w7 v) ∧ (NW w7 v pq 40 36 z0) ∧ (MatZ gA (mzMul (nums l0) (nums l1))) ∧ (MatZ gB (mzMul (mzMul (nums l0) (nums l1)) (nums l2))) ∧ (MatZ gC (mzMul (nums l1) (nums l2))))
                 ·intro Ja11100100
                  apply join5 (F := fun (v : World) (gA : Nat → Int) (gB : Nat → Int) (gC : Nat → Int) (pp : Nat) => (EL p0 p1 p2 pv f0 f1 f2 gv w7 v) ∧ (NW w7 v pp 40 36 z0) ∧ (MatZ gA (mzMul (nums l0) (nums l1))) ∧ (MatZ gB (mzMul (mzMul (nums l0) (nums l1)) (nums l2))) ∧ (MatZ gC (mzMul (nums l1) (nums l2))))
                  ·intro Ja11101000
                   apply join5 (F := fun (v : World) (gA : Nat → Int) (gB : Nat → Int) (gC : Nat → Int) (gD : Nat → Int) => (EL p0 p1 p2 pv f0 f1 f2 gv w7 v) ∧ (MatZ gA (mzMul (nums l0) (nums l1))) ∧ (MatZ gB (mzMul (mzMul (nums l0) (nums l1)) (nums l2))) ∧ (MatZ gC (mzMul (nums l1) (nums l2))) ∧ (MatZ gD (mzMul (nums l0) (mzMul (nums l1) (nums l2)))))
                   ·intro Ja11110000
                    apply join4 (F := fun (v : World) (gA : Nat → Int) (pp : Nat) (pq : Nat) => (EL p0 p1 p2 pv f0 f1 f2 gv w7 v) ∧ (NW w7 v pp 40 36 z0) ∧ (NW w7 v pq 40 36 z0) ∧ (pp ≠ pq) ∧ (MatZ gA (mzMul (nums l0) (nums l1))))
                    ·intro Ja10001100
                     apply join4 (F := fun (v : World) (gA : Nat → Int) (gB : Nat → Int) (pq : Nat) => (EL p0 p1 p2 pv f0 f1 f2 gv w7 v) ∧ (NW w7 v pq 40 36 z0) ∧ (MatZ gA (mzMul (nums l0) (nums l1))) ∧ (MatZ gB (mzMul (mzMul (nums l0) (nums l1)) (nums l2))))
                     ·intro Ja11000100
                      apply join4 (F := fun (v : World) (gA : Nat → Int) (gB : Nat → Int) (pp : Nat) => (EL p0 p1 p2 pv f0 f1 f2 gv w7 v) ∧ (NW w7 v pp 40 36 z0) ∧ (MatZ gA (mzMul (nums l0) (nums l1))) ∧ (MatZ gB (mzMul (mzMul (nums l0) (nums l1)) (nums l2))))
                      ·intro Ja11001000
                       apply join4 (F := fun (v : World) (gA : Nat → Int) (gB : Nat → Int) (gC : Nat → Int) => (EL p0 p1 p2 pv f0 f1 f2 gv w7 v) ∧ (MatZ gA (mzMul (nums l0) (nums l1))) ∧ (MatZ gB (mzMul (mzMul (nums l0) (nums l1)) (nums l2))) ∧ (MatZ gC (mzMul (nums l1) (nums l2))))
                       ·intro Ja11100000
                        apply join3 (F := fun (v : World) (pp : Nat) (pq : Nat) => (EL p0 p1 p2 pv f0 f1 f2 gv w7 v) ∧ (NW w7 v pp 40 36 z0) ∧ (NW w7 v pq 40 36 z0) ∧ (pp ≠ pq))
                        ·intro Ja00001100
                         apply join3 (F := fun (v : World) (gA : Nat → Int) (pq : Nat) => (EL p0 p1 p2 pv f0 f1 f2 gv w7 v) ∧ (NW w7 v pq 40 36 z0) ∧ (MatZ gA (mzMul (nums l0) (nums l1))))
                         ·intro Ja10000100
                          apply join3 (F := fun (v : World) (gA : Nat → Int) (pp : Nat) => (EL p0 p1 p2 pv f0 f1 f2 gv w7 v) ∧ (NW w7 v pp 40 36 z0) ∧ (MatZ gA (mzMul (nums l0) (nums l1))))
                          ·intro Ja10001000
                           apply join3 (F := fun (v : World) (gA : Nat → Int) (gB : Nat → Int) => (EL p0 p1 p2 pv f0 f1 f2 gv w7 v) ∧ (MatZ gA (mzMul (nums l0) (nums l1))) ∧ (MatZ gB (mzMul (mzMul (nums l0) (nums l1)) (nums l2))))
                           ·intro Ja11000000
                            apply join2 (F := fun (v : World) (pq : Nat) => (EL p0 p1 p2 pv f0 f1 f2 gv w7 v) ∧ (NW w7 v pq 40 36 z0))
                            ·intro Ja00000100
                             apply join2 (F := fun (v : World) (pp : Nat) => (EL p0 p1 p2 pv f0 f1 f2 gv w7 v) ∧ (NW w7 v pp 40 36 z0))
                             ·intro Ja00001000
                              apply join2 (F := fun (v : World) (gA : Nat → Int) => (EL p0 p1 p2 pv f0 f1 f2 gv w7 v) ∧ (MatZ gA (mzMul (nums l0) (nums l1))))
                              ·intro Ja10000000
                               have eB : EL p0 p1 p2 pv f0 f1 f2 gv w7 wd0 := e0
                               obtain ⟨v, hvv⟩ : ∃ x, x = wd0 := ⟨_, rfl⟩
                               rw [← hvv] at eB ⊢
                               clear hvv
                               refine wpAnyH_ready (rs := [2, 10, 11]) (by kernel_rfl) (by simp) ?_
                               refine (AllReadyH.cons rfl (fun K hK => ?_) (AllReadyH.cons rfl (fun K hK => ?_) (AllReadyH.cons rfl (fun K hK => ?_) AllReadyH.nil)))
                               ·go_simp
                                go_at_call 13
                                with_reducible refine (mxMul_c f0 f1 _ _ v HM0.out HM1.out (HG.out.up (bchain HB.out eB.b))).mono ?_
                                rintro e vN ⟨gA, rfl, hA, hb⟩
                                try dsimp only
                                refine hK.out _ _ (eB.up hb) (fun _ => ?_)
                                clear hK K
                                refine wpAnyH_relist #[true, true, true, true, false, true, true, true, false, false, false, false, false, false] (by kernel_rfl) ?_
                                try simp only [Act.put, List.setIfInBounds_toArray, List.set_cons_zero, List.set_cons_succ, List.getElem_toArray, List.getElem_cons_zero, List.getElem_cons_succ]
                                exact Ja10000000 vN gA ⟨(eB.up hb), hA⟩
                               ·have zN := eB.new 40 36
                                have eN := eB.up (balloc v (.cells (wds 36 z0).toArray 40))
                                go_simp
                                refine hK.out _ _ eN (fun _ => ?_)
                                clear hK K
                                generalize v.alloc (.cells (wds 36 z0).toArray 40) = vN at eN zN ⊢
                                generalize v.heap.size = pp at zN ⊢
                                refine wpAnyH_relist #[true, true, false, true, false, true, true, true, false, false, true, false, false, false] (by kernel_rfl) ?_
                                try simp only [Act.put, List.setIfInBounds_toArray, List.set_cons_zero, List.set_cons_succ, List.getElem_toArray, List.getElem_cons_zero, List.getElem_cons_succ]
                                exact Ja00001000 vN pp ⟨eN, zN⟩
                               ·have zN := eB.new 40 36
                                have eN := eB.up (balloc v (.cells (wds 36 z0).toArray 40))
                                go_simp
                                refine hK.out _ _ eN (fun _ => ?_)
                                clear hK K
                                generalize v.alloc (.cells (wds 36 z0).toArray 40) = vN at eN zN ⊢
                                generalize v.heap.size = pq at zN ⊢
                                refine wpAnyH_relist #[true, true, false, true, false, true, true, true, false, false, false, true, false, false] (by kernel_rfl) ?_
                                try simp only [Act.put, List.setIfInBounds_toArray, List.set_cons_zero, List.set_cons_succ, List.getElem_toArray, List.getElem_cons_zero, List.getElem_cons_succ]
                                exact Ja00000100 vN pq ⟨eN, zN⟩
                              ·intro v gA hJ
                               obtain ⟨eB, hA⟩ := hJ
                               refine wpAnyH_ready (rs := [4, 10, 11]) (by kernel_rfl) (by simp) ?_
                               refine (AllReadyH.cons rfl (fun K hK => ?_) (AllReadyH.cons rfl (fun K hK => ?_) (AllReadyH.cons rfl (fun K hK => ?_) AllReadyH.nil)))
                               ·go_simp
                                go_at_call 13
                                with_reducible refine (mxMul_c gA f2 _ _ v hA HM2.out (HG.out.up (bchain HB.out eB.b))).mono ?_
                                rintro e vN ⟨gB, rfl, hB, hb⟩
                                try dsimp only
                                refine hK.out _ _ (eB.up hb) (fun _ => ?_)
                                clear hK K
                                refine wpAnyH_relist #[true, true, true, true, true, true, true, true, false, false, false, false, false, false] (by kernel_rfl) ?_
                                try simp only [Act.put, List.setIfInBounds_toArray, List.set_cons_zero, List.set_cons_succ, List.getElem_toArray, List.getElem_cons_zero, List.getElem_cons_succ]
                                exact Ja11000000 vN gA gB ⟨(eB.up hb), hA, hB⟩
                               ·have zN := eB.new 40 36
                                have eN := eB.up (balloc v (.cells (wds 36 z0).toArray 40))
                                go_simp
                                refine hK.out _ _ eN (fun _ => ?_)
                                clear hK K
                                generalize v.alloc (.cells (wds 36 z0).toArray 40) = vN at eN zN ⊢
                                generalize v.heap.size = pp at zN ⊢
                                refine wpAnyH_relist #[true, true, true, true, false, true, true, true, false, false, true, false, false, false] (by kernel_rfl) ?_
                                try simp only [Act.put, List.setIfInBounds_toArray, List.set_cons_zero, List.set_cons_succ, List.getElem_toArray, List.getElem_cons_zero, List.getElem_cons_succ]
                                exact Ja10001000 vN gA pp ⟨eN, zN, hA⟩
                               ·have zN := eB.new 40 36
                                have eN := eB.up (balloc v (.cells (wds 36 z0).toArray 40))
                                go_simp
                                refine hK.out _ _ eN (fun _ => ?_)
                                clear hK K
                                generalize v.alloc (.cells (wds 36 z0).toArray 40) = vN at eN zN ⊢
                                generalize v.heap.size = pq at zN ⊢
                                refine wpAnyH_relist #[true, true, true, true, false, true, true, true, false, false, false, true, false, false] (by kernel_rfl) ?_
                                try simp only [Act.put, List.setIfInBounds_toArray, List.set_cons_zero, List.set_cons_succ, List.getElem_toArray, List.getElem_cons_zero, List.getElem_cons_succ]
                                exact Ja10000100 vN gA pq ⟨eN, zN, hA⟩
                             ·intro v pp hJ
                              obtain ⟨eB, zp⟩ := hJ
                              refine wpAnyH_ready (rs := [2, 11]) (by kernel_rfl) (by simp) ?_
                              refine (AllReadyH.cons rfl (fun K hK => ?_) (AllReadyH.cons rfl (fun K hK => ?_) AllReadyH.nil))
                              ·go_simp
                               go_at_call 13
                               with_reducible refine (mxMul_c f0 f1 _ _ v HM0.out HM1.out (HG.out.up (bchain HB.out eB.b))).mono ?_
                               rintro e vN ⟨gA, rfl, hA, hb⟩
                               try dsimp only
                               refine hK.out _ _ (eB.up hb) (fun _ => ?_)
                               clear hK K
                               refine wpAnyH_relist #[true, true, true, true, false, true, true, true, false, false, true, false, false, false] (by kernel_rfl) ?_
                               try simp only [Act.put, List.setIfInBounds_toArray, List.set_cons_zero, List.set_cons_succ, List.getElem_toArray, List.getElem_cons_zero, List.getElem_cons_succ]
                               exact Ja10001000 vN gA pp ⟨(eB.up hb), (zp.up hb), hA⟩
                              ·have zN := eB.new 40 36
                               have eN := eB.up (balloc v (.cells (wds 36 z0).toArray 40))
                               have lzp := zp.bl.size
                               have zpN := zp.up (balloc v (.cells (wds 36 z0).toArray 40))
                               go_simp
                               refine hK.out _ _ eN (fun _ => ?_)
                               clear hK K
                               generalize v.alloc (.cells (wds 36 z0).toArray 40) = vN at eN zN zpN ⊢
                               generalize v.heap.size = pq at zN lzp ⊢
                               refine wpAnyH_relist #[true, true, false, true, false, true, true, true, false, false, true, true, false, false] (by kernel_rfl) ?_
                               try simp only [Act.put, List.setIfInBounds_toArray, List.set_cons_zero, List.set_cons_succ, List.getElem_toArray, List.getElem_cons_zero, List.getElem_cons_succ]
                               exact Ja00001100 vN pp pq ⟨eN, zpN, zN, (by omega)⟩
                            ·intro v pq hJ
                             obtain ⟨eB, zq⟩ := hJ
                             refine wpAnyH_ready (rs := [2, 10]) (by kernel_rfl) (by simp) ?_
                             refine (AllReadyH.cons rfl (fun K hK => ?_) (AllReadyH.cons rfl (fun K hK => ?_) AllReadyH.nil))
                             ·go_simp
                              go_at_call 13
                              with_reducible refine (mxMul_c f0 f1 _ _ v HM0.out HM1.out (HG.out.up (bchain HB.out eB.b))).mono ?_
                              rintro e vN ⟨gA, rfl, hA, hb⟩
                              try dsimp only
                              refine hK.out _ _ (eB.up hb) (fun _ => ?_)
                              clear hK K
                              refine wpAnyH_relist #[true, true, true, true, false, true, true, true, false, false, false, true, false, false] (by kernel_rfl) ?_
                              try simp only [Act.put, List.setIfInBounds_toArray, List.set_cons_zero, List.set_cons_succ, List.getElem_toArray, List.getElem_cons_zero, List.getElem_cons_succ]
                              exact Ja10000100 vN gA pq ⟨(eB.up hb), (zq.up hb), hA⟩
                             ·have zN := eB.new 40 36
                              have eN := eB.up (balloc v (.cells (wds 36 z0).toArray 40))
                              have lzq := zq.bl.size
                              have zqN := zq.up (balloc v (.cells (wds 36 z0).toArray 40))
                              go_simp
                              refine hK.out _ _ eN (fun _ => ?_)
                              clear hK K
                              generalize v.alloc (.cells (wds 36 z0).toArray 40) = vN at eN zN zqN ⊢
                              generalize v.heap.size = pp at zN lzq ⊢
                              refine wpAnyH_relist #[true, true, false, true, false, true, true, true, false, false, true, true, false, false] (by kernel_rfl) ?_
                              try simp only [Act.put, List.setIfInBounds_toArray, List.set_cons_zero, List.set_cons_succ, List.getElem_toArray, List.getElem_cons_zero, List.getElem_cons_succ]
                              exact Ja00001100 vN pp pq ⟨eN, zN, zqN, (by omega)⟩
                           ·intro v gA gB hJ
                            obtain ⟨eB, hA, hB⟩ := hJ
                            refine wpAnyH_ready (rs := [8, 10, 11]) (by kernel_rfl) (by simp) ?_
                            refine (AllReadyH.cons rfl (fun K hK => ?_) (AllReadyH.cons rfl (fun K hK => ?_) (AllReadyH.cons rfl (fun K hK => ?_) AllReadyH.nil)))
                            ·go_simp
                             go_at_call 13
                             with_reducible refine (mxMul_c f1 f2 _ _ v HM1.out HM2.out (HG.out.up (bchain HB.out eB.b))).mono ?_
                             rintro e vN ⟨gC, rfl, hC, hb⟩
                             try dsimp only
                             refine hK.out _ _ (eB.up hb) (fun _ => ?_)
                             clear hK K
                             refine wpAnyH_relist #[true, true, true, true, true, true, true, true, true, false, false, false, false, false] (by kernel_rfl) ?_
                             try simp only [Act.put, List.setIfInBounds_toArray, List.set_cons_zero, List.set_cons_succ, List.getElem_toArray, List.getElem_cons_zero, List.getElem_cons_succ]
                             exact Ja11100000 vN gA gB gC ⟨(eB.up hb), hA, hB, hC⟩
                            ·have zN := eB.new 40 36
                             have eN := eB.up (balloc v (.cells (wds 36 z0).toArray 40))
                             go_simp
                             refine hK.out _ _ eN (fun _ => ?_)
                             clear hK K
                             generalize v.alloc (.cells (wds 36 z0).toArray 40) = vN at eN zN ⊢
                             generalize v.heap.size = pp at zN ⊢
                             refine wpAnyH_relist #[true, true, true, true, true, true, true, true, false, false, true, false, false, false] (by kernel_rfl) ?_
                             try simp only [Act.put, List.setIfInBounds_toArray, List.set_cons_zero, List.set_cons_succ, List.getElem_toArray, List.getElem_cons_zero, List.getElem_cons_succ]
                             exact Ja11001000 vN gA gB pp ⟨eN, zN, hA, hB⟩
                            ·have zN := eB.new 40 36
                             have eN := eB.up (balloc v (.cells (wds 36 z0).toArray 40))
                             go_simp
                             refine hK.out _ _ eN (fun _ => ?_)
                             clear hK K
                             generalize v.alloc (.cells (wds 36 z0).toArray 40) = vN at eN zN ⊢
                             generalize v.heap.size = pq at zN ⊢
                             refine wpAnyH_relist #[true, true, true, true, true, true, true, true, false, false, false, true, false, false] (by kernel_rfl) ?_
                             try simp only [Act.put, List.setIfInBounds_toArray, List.set_cons_zero, List.set_cons_succ, List.getElem_toArray, List.getElem_cons_zero, List.getElem_cons_succ]
                             exact Ja11000100 vN gA gB pq ⟨eN, zN, hA, hB⟩
                          ·intro v gA pp hJ
                           obtain ⟨eB, zp, hA⟩ := hJ
                           refine wpAnyH_ready (rs := [4, 11]) (by kernel_rfl) (by simp) ?_
                           refine (AllReadyH.cons rfl (fun K hK => ?_) (AllReadyH.cons rfl (fun K hK => ?_) AllReadyH.nil))
                           ·go_simp
                            go_at_call 13
                            with_reducible refine (mxMul_c gA f2 _ _ v hA HM2.out (HG.out.up (bchain HB.out eB.b))).mono ?_
                            rintro e vN ⟨gB, rfl, hB, hb⟩
                            try dsimp only
                            refine hK.out _ _ (eB.up hb) (fun _ => ?_)
                            clear hK K
                            refine wpAnyH_relist #[true, true, true, true, true, true, true, true, false, false, true, false, false, false] (by kernel_rfl) ?_
                            try simp only [Act.put, List.setIfInBounds_toArray, List.set_cons_zero, List.set_cons_succ, List.getElem_toArray, List.getElem_cons_zero, List.getElem_cons_succ]
                            exact Ja11001000 vN gA gB pp ⟨(eB.up hb), (zp.up hb), hA, hB⟩
                           ·have zN := eB.new 40 36
                            have eN := eB.up (balloc v (.cells (wds 36 z0).toArray 40))
                            have lzp := zp.bl.size
                            have zpN := zp.up (balloc v (.cells (wds 36 z0).toArray 40))
                            go_simp
                            refine hK.out _ _ eN (fun _ => ?_)
                            clear hK K
                            generalize v.alloc (.cells (wds 36 z0).toArray 40) = vN at eN zN zpN ⊢
                            generalize v.heap.size = pq at zN lzp ⊢
                            refine wpAnyH_relist #[true, true, true, true, false, true, true, true, false, false, true, true, false, false] (by kernel_rfl) ?_
                            try simp only [Act.put, List.setIfInBounds_toArray, List.set_cons_zero, List.set_cons_succ, List.getElem_toArray, List.getElem_cons_zero, List.getElem_cons_succ]
                            exact Ja10001100 vN gA pp pq ⟨eN, zpN, zN, (by omega), hA⟩
                         ·intro v gA pq hJ
                          obtain ⟨eB, zq, hA⟩ := hJ
                          refine wpAnyH_ready (rs := [4, 10]) (by kernel_rfl) (by simp) ?_
                          refine (AllReadyH.cons rfl (fun K hK => ?_) (AllReadyH.cons rfl (fun K hK => ?_) AllReadyH.nil))
                          ·go_simp
                           go_at_call 13
                           with_reducible refine (mxMul_c gA f2 _ _ v hA HM2.out (HG.out.up (bchain HB.out eB.b))).mono ?_
                           rintro e vN ⟨gB, rfl, hB, hb⟩
                           try dsimp only
                           refine hK.out _ _ (eB.up hb) (fun _ => ?_)
                           clear hK K
                           refine wpAnyH_relist #[true, true, true, true, true, true, true, true, false, false, false, true, false, false] (by kernel_rfl) ?_
                           try simp only [Act.put, List.setIfInBounds_toArray, List.set_cons_zero, List.set_cons_succ, List.getElem_toArray, List.getElem_cons_zero, List.getElem_cons_succ]
                           exact Ja11000100 vN gA gB pq ⟨(eB.up hb), (zq.up hb), hA, hB⟩
                          ·have zN := eB.new 40 36
                           have eN := eB.up (balloc v (.cells (wds 36 z0).toArray 40))
                           have lzq := zq.bl.size
                           have zqN := zq.up (balloc v (.cells (wds 36 z0).toArray 40))
                           go_simp
                           refine hK.out _ _ eN (fun _ => ?_)
                           clear hK K
                           generalize v.alloc (.cells (wds 36 z0).toArray 40) = vN at eN zN zqN ⊢
                           generalize v.heap.size = pp at zN lzq ⊢
                           refine wpAnyH_relist #[true, true, true, true, false, true, true, true, false, false, true, true, false, false] (by kernel_rfl) ?_
                           try simp only [Act.put, List.setIfInBounds_toArray, List.set_cons_zero, List.set_cons_succ, List.getElem_toArray, List.getElem_cons_zero, List.getElem_cons_succ]
                           exact Ja10001100 vN gA pp pq ⟨eN, zN, zqN, (by omega), hA⟩
                        ·intro v pp pq hJ
                         obtain ⟨eB, zp, zq, npq⟩ := hJ
                         refine wpAnyH_ready (rs := [2]) (by kernel_rfl) (by simp) ?_
                         refine (AllReadyH.cons rfl (fun K hK => ?_) AllReadyH.nil)
                         go_simp
                         go_at_call 13
                         with_reducible refine (mxMul_c f0 f1 _ _ v HM0.out HM1.out (HG.out.up (bchain HB.out eB.b))).mono ?_
                         rintro e vN ⟨gA, rfl, hA, hb⟩
                         try dsimp only
                         refine hK.out _ _ (eB.up hb) (fun _ => ?_)
                         clear hK K
                         refine wpAnyH_relist #[true, true, true, true, false, true, true, true, false, false, true, true, false, false] (by kernel_rfl) ?_
                         try simp only [Act.put, List.setIfInBounds_toArray, List.set_cons_zero, List.set_cons_succ, List.getElem_toArray, List.getElem_cons_zero, List.getElem_cons_succ]
                         exact Ja10001100 vN gA pp pq ⟨(eB.up hb), (zp.up hb), (zq.up hb), npq, hA⟩
                       ·intro v gA gB gC hJ
                        obtain ⟨eB, hA, hB, hC⟩ := hJ
                        refine wpAnyH_ready (rs := [9, 10, 11]) (by kernel_rfl) (by simp) ?_
                        refine (AllReadyH.cons rfl (fun K hK => ?_) (AllReadyH.cons rfl (fun K hK => ?_) (AllReadyH.cons rfl (fun K hK => ?_) AllReadyH.nil)))
                        ·go_simp
                         go_at_call 13
                         with_reducible refine (mxMul_c f0 gC _ _ v HM0.out hC (HG.out.up (bchain HB.out eB.b))).mono ?_
                         rintro e vN ⟨gD, rfl, hD, hb⟩
                         try dsimp only
                         refine hK.out _ _ (eB.up hb) (fun _ => ?_)
                         clear hK K
                         refine wpAnyH_relist #[true, true, true, true, true, true, true, true, true, true, false, false, false, false] (by kernel_rfl) ?_
                         try simp only [Act.put, List.setIfInBounds_toArray, List.set_cons_zero, List.set_cons_succ, List.getElem_toArray, List.getElem_cons_zero, List.getElem_cons_succ]
                         exact Ja11110000 vN gA gB gC gD ⟨(eB.up hb), hA, hB, hC, hD⟩
                        ·have zN := eB.new 40 36
                         have eN := eB.up (balloc v (.cells (wds 36 z0).toArray 40))
                         go_simp
                         refine hK.out _ _ eN (fun _ => ?_)
                         clear hK K
                         generalize v.alloc (.cells (wds 36 z0).toArray 40) = vN at eN zN ⊢
                         generalize v.heap.size = pp at zN ⊢
                         refine wpAnyH_relist #[true, true, true, true, true, true, true, true, true, false, true, false, false, false] (by kernel_rfl) ?_
                         try simp only [Act.put, List.setIfInBounds_toArray, List.set_cons_zero, List.set_cons_succ, List.getElem_toArray, List.getElem_cons_zero, List.getElem_cons_succ]
                         exact Ja11101000 vN gA gB gC pp ⟨eN, zN, hA, hB, hC⟩
                        ·have zN := eB.new 40 36
                         have eN := eB.up (balloc v (.cells (wds 36 z0).toArray 40))
                         go_simp
                         refine hK.out _ _ eN (fun _ => ?_)
                         clear hK K
                         generalize v.alloc (.cells (wds 36 z0).toArray 40) = vN at eN zN ⊢
                         generalize v.heap.size = pq at zN ⊢
                         refine wpAnyH_relist #[true, true, true, true, true, true, true, true, true, false, false, true, false, false] (by kernel_rfl) ?_
                         try simp only [Act.put, List.setIfInBounds_toArray, List.set_cons_zero, List.set_cons_succ, List.getElem_toArray, List.getElem_cons_zero, List.getElem_cons_succ]
                         exact Ja11100100 vN gA gB gC pq ⟨eN, zN, hA, hB, hC⟩
                      ·intro v gA gB pp hJ
                       obtain ⟨eB, zp, hA, hB⟩ := hJ
                       refine wpAnyH_ready (rs := [8, 11]) (by kernel_rfl) (by simp) ?_
                       refine (AllReadyH.cons rfl (fun K hK => ?_) (AllReadyH.cons rfl (fun K hK => ?_) AllReadyH.nil))
                       ·go_simp
                        go_at_call 13
                        with_reducible refine (mxMul_c f1 f2 _ _ v HM1.out HM2.out (HG.out.up (bchain HB.out eB.b))).mono ?_
                        rintro e vN ⟨gC, rfl, hC, hb⟩
                        try dsimp only
                        refine hK.out _ _ (eB.up hb) (fun _ => ?_)
                        clear hK K
                        refine wpAnyH_relist #[true, true, true, true, true, true, true, true, true, false, true, false, false, false] (by kernel_rfl) ?_
                        try simp only [Act.put, List.setIfInBounds_toArray, List.set_cons_zero, List.set_cons_succ, List.getElem_toArray, List.getElem_cons_zero, List.getElem_cons_succ]
                        exact Ja11101000 vN gA gB gC pp ⟨(eB.up hb), (zp.up hb), hA, hB, hC⟩
                       ·have zN := eB.new 40 36
                        have eN := eB.up (balloc v (.cells (wds 36 z0).toArray 40))
                        have lzp := zp.bl.size
                        have zpN := zp.up (balloc v (.cells (wds 36 z0).toArray 40))
                        go_simp
                        refine hK.out _ _ eN (fun _ => ?_)
                        clear hK K
                        generalize v.alloc (.cells (wds 36 z0).toArray 40) = vN at eN zN zpN ⊢
                        generalize v.heap.size = pq at zN lzp ⊢
                        refine wpAnyH_relist #[true, true, true, true, true, true, true, true, false, false, true, true, false, false] (by kernel_rfl) ?_
                        try simp only [Act.put, List.setIfInBounds_toArray, List.set_cons_zero, List.set_cons_succ, List.getElem_toArray, List.getElem_cons_zero, List.getElem_cons_succ]
                        exact Ja11001100 vN gA gB pp pq ⟨eN, zpN, zN, (by omega), hA, hB⟩
                     ·intro v gA gB pq hJ
                      obtain ⟨eB, zq, hA, hB⟩ := hJ
                      refine wpAnyH_ready (rs := [8, 10]) (by kernel_rfl) (by simp) ?_
                      refine (AllReadyH.cons rfl (fun K hK => ?_) (AllReadyH.cons rfl (fun K hK => ?_) AllReadyH.nil))
                      ·go_simp
                       go_at_call 13
                       with_reducible refine (mxMul_c f1 f2 _ _ v HM1.out HM2.out (HG.out.up (bchain HB.out eB.b))).mono ?_
                       rintro e vN ⟨gC, rfl, hC, hb⟩
                       try dsimp only
                       refine hK.out _ _ (eB.up hb) (fun _ => ?_)
                       clear hK K
                       refine wpAnyH_relist #[true, true, true, true, true, true, true, true, true, false, false, true, false, false] (by kernel_rfl) ?_
                       try simp only [Act.put, List.setIfInBounds_toArray, List.set_cons_zero, List.set_cons_succ, List.getElem_toArray, List.getElem_cons_zero, List.getElem_cons_succ]
                       exact Ja11100100 vN gA gB gC pq ⟨(eB.up hb), (zq.up hb), hA, hB, hC⟩
                      ·have zN := eB.new 40 36
                       have eN := eB.up (balloc v (.cells (wds 36 z0).toArray 40))
                       have lzq := zq.bl.size
                       have zqN := zq.up (balloc v (.cells (wds 36 z0).toArray 40))
                       go_simp
                       refine hK.out _ _ eN (fun _ => ?_)
                       clear hK K
                       generalize v.alloc (.cells (wds 36 z0).toArray 40) = vN at eN zN zqN ⊢
                       generalize v.heap.size = pp at zN lzq ⊢
                       refine wpAnyH_relist #[true, true, true, true, true, true, true, true, false, false, true, true, false, false] (by kernel_rfl) ?_
                       try simp only [Act.put, List.setIfInBounds_toArray, List.set_cons_zero, List.set_cons_succ, List.getElem_toArray, List.getElem_cons_zero, List.getElem_cons_succ]
                       exact Ja11001100 vN gA gB pp pq ⟨eN, zN, zqN, (by omega), hA, hB⟩
                    ·intro v gA pp pq hJ
                     obtain ⟨eB, zp, zq, npq, hA⟩ := hJ
                     refine wpAnyH_ready (rs := [4]) (by kernel_rfl) (by simp) ?_
                     refine (AllReadyH.cons rfl (fun K hK => ?_) AllReadyH.nil)
                     go_simp
                     go_at_call 13
                     with_reducible refine (mxMul_c gA f2 _ _ v hA HM2.out (HG.out.up (bchain HB.out eB.b))).mono ?_
                     rintro e vN ⟨gB, rfl, hB, hb⟩
                     try dsimp only
                     refine hK.out _ _ (eB.up hb) (fun _ => ?_)
                     clear hK K
                     refine wpAnyH_relist #[true, true, true, true, true, true, true, true, false, false, true, true, false, false] (by kernel_rfl) ?_
                     try simp only [Act.put, List.setIfInBounds_toArray, List.set_cons_zero, List.set_cons_succ, List.getElem_toArray, List.getElem_cons_zero, List.getElem_cons_succ]
                     exact Ja11001100 vN gA gB pp pq ⟨(eB.up hb), (zp.up hb), (zq.up hb), npq, hA, hB⟩
                   ·intro v gA gB gC gD hJ
                    obtain ⟨eB, hA, hB, hC, hD⟩ := hJ
                    refine wpAnyH_ready (rs := [10, 11]) (by kernel_rfl) (by simp) ?_
                    refine (AllReadyH.cons rfl (fun K hK => ?_) (AllReadyH.cons rfl (fun K hK => ?_) AllReadyH.nil))
                    ·have zN := eB.new 40 36
                     have eN := eB.up (balloc v (.cells (wds 36 z0).toArray 40))
                     go_simp
                     refine hK.out _ _ eN (fun _ => ?_)
                     clear hK K
                     generalize v.alloc (.cells (wds 36 z0).toArray 40) = vN at eN zN ⊢
                     generalize v.heap.size = pp at zN ⊢
                     refine wpAnyH_relist #[true, true, true, true, true, true, true, true, true, true, true, false, false, false] (by kernel_rfl) ?_
                     try simp only [Act.put, List.setIfInBounds_toArray, List.set_cons_zero, List.set_cons_succ, List.getElem_toArray, List.getElem_cons_zero, List.getElem_cons_succ]
                     exact Ja11111000 vN gA gB gC gD pp ⟨eN, zN, hA, hB, hC, hD⟩
                    ·have zN := eB.new 40 36
                     have eN := eB.up (balloc v (.cells (wds 36 z0).toArray 40))
                     go_simp
                     refine hK.out _ _ eN (fun _ => ?_)
                     clear hK K
                     generalize v.alloc (.cells (wds 36 z0).toArray 40) = vN at eN zN ⊢
                     generalize v.heap.size = pq at zN ⊢
                     refine wpAnyH_relist #[true, true, true, true, true, true, true, true, true, true, false, true, false, false] (by kernel_rfl) ?_
                     try simp only [Act.put, List.setIfInBounds_toArray, List.set_cons_zero, List.set_cons_succ, List.getElem_toArray, List.getElem_cons_zero, List.getElem_cons_succ]
                     exact Ja11110100 vN gA gB gC gD pq ⟨eN, zN, hA, hB, hC, hD⟩
                  ·intro v gA gB gC pp hJ
                   obtain ⟨eB, zp, hA, hB, hC⟩ := hJ
                   refine wpAnyH_ready (rs := [9, 11]) (by kernel_rfl) (by simp) ?_
                   refine (AllReadyH.cons rfl (fun K hK => ?_) (AllReadyH.cons rfl (fun K hK => ?_) AllReadyH.nil))
                   ·go_simp
                    go_at_call 13
                    with_reducible refine (mxMul_c f0 gC _ _ v HM0.out hC (HG.out.up (bchain HB.out eB.b))).mono ?_
                    rintro e vN ⟨gD, rfl, hD, hb⟩
                    try dsimp only
                    refine hK.out _ _ (eB.up hb) (fun _ => ?_)
                    clear hK K
                    refine wpAnyH_relist #[true, true, true, true, true, true, true, true, true, true, true, false, false, false] (by kernel_rfl) ?_
                    try simp only [Act.put, List.setIfInBounds_toArray, List.set_cons_zero, List.set_cons_succ, List.getElem_toArray, List.getElem_cons_zero, List.getElem_cons_succ]
                    exact Ja11111000 vN gA gB gC gD pp ⟨(eB.up hb), (zp.up hb), hA, hB, hC, hD⟩
                   ·have zN := eB.new 40 36
                    have eN := eB.up (balloc v (.cells (wds 36 z0).toArray 40))
                    have lzp := zp.bl.size
                    have zpN := zp.up (balloc v (.cells (wds 36 z0).toArray 40))
                    go_simp
                    refine hK.out _ _ eN (fun _ => ?_)
                    clear hK K
                    generalize v.alloc (.cells (wds 36 z0).toArray 40) = vN at eN zN zpN ⊢
                    generalize v.heap.size = pq at zN lzp ⊢
                    refine wpAnyH_relist #[true, true, true, true, true, true, true, true, true, false, true, true, false, false] (by kernel_rfl) ?_
                    try simp only [Act.put, List.setIfInBounds_toArray, List.set_cons_zero, List.set_cons_succ, List.getElem_toArray, List.getElem_cons_zero, List.getElem_cons_succ]
                    exact Ja11101100 vN gA gB gC pp pq ⟨eN, zpN, zN, (by omega), hA, hB, hC⟩
                 ·intro v gA gB gC pq hJ
                  obtain ⟨eB, zq, hA, hB, hC⟩ := hJ
                  refine wpAnyH_ready (rs := [9, 10]) (by kernel_rfl) (by simp) ?_
                  refine (AllReadyH.cons rfl (fun K hK => ?_) (AllReadyH.cons rfl (fun K hK => ?_) AllReadyH.nil))
                  ·go_simp
                   go_at_call 13
                   with_reducible refine (mxMul_c f0 gC _ _ v HM0.out hC (HG.out.up (bchain HB.out eB.b))).mono ?_
                   rintro e vN ⟨gD, rfl, hD, hb⟩
                   try dsimp only
                   refine hK.out _ _ (eB.up hb) (fun _ => ?_)
                   clear hK K
                   refine wpAnyH_relist #[true, true, true, true, true, true, true, true, true, true, false, true, false, false] (by kernel_rfl) ?_
                   try simp only [Act.put, List.setIfInBounds_toArray, List.set_cons_zero, List.set_cons_succ, List.getElem_toArray, List.getElem_cons_zero, List.getElem_cons_succ]
                   exact Ja11110100 vN gA gB gC gD pq ⟨(eB.up hb), (zq.up hb), hA, hB, hC, hD⟩
                  ·have zN := eB.new 40 36
                   have eN := eB.up (balloc v (.cells (wds 36 z0).toArray 40))
                   have lzq := zq.bl.size
                   have zqN := zq.up (balloc v (.cells (wds 36 z0).toArray 40))
                   go_simp
                   refine hK.out _ _ eN (fun _ => ?_)
                   clear hK K
                   generalize v.alloc (.cells (wds 36 z0).toArray 40) = vN at eN zN zqN ⊢
                   generalize v.heap.size = pp at zN lzq ⊢
                   refine wpAnyH_relist #[true, true, true, true, true, true, true, true, true, false, true, true, false, false] (by kernel_rfl) ?_
                   try simp only [Act.put, List.setIfInBounds_toArray, List.set_cons_zero, List.set_cons_succ, List.getElem_toArray, List.getElem_cons_zero, List.getElem_cons_succ]
                   exact Ja11101100 vN gA gB gC pp pq ⟨eN, zN, zqN, (by omega), hA, hB, hC⟩
                ·intro v gA gB pp pq hJ
                 obtain ⟨eB, zp, zq, npq, hA, hB⟩ := hJ
                 refine wpAnyH_ready (rs := [8]) (by kernel_rfl) (by simp) ?_
                 refine (AllReadyH.cons rfl (fun K hK => ?_) AllReadyH.nil)
                 go_simp
                 go_at_call 13
                 with_reducible refine (mxMul_c f1 f2 _ _ v HM1.out HM2.out (HG.out.up (bchain HB.out eB.b))).mono ?_
                 rintro e vN ⟨gC, rfl, hC, hb⟩
                 try dsimp only
                 refine hK.out _ _ (eB.up hb) (fun _ => ?_)
                 clear hK K
                 refine wpAnyH_relist #[true, true, true, true, true, true, true, true, true, false, true, true, false, false] (by kernel_rfl) ?_
                 try simp only [Act.put, List.setIfInBounds_toArray, List.set_cons_zero, List.set_cons_succ, List.getElem_toArray, List.getElem_cons_zero, List.getElem_cons_succ]
                 exact Ja11101100 vN gA gB gC pp pq ⟨(eB.up hb), (zp.up hb), (zq.up hb), npq, hA, hB, hC⟩
               ·intro v gA gB gC gD pp hJ
                obtain ⟨eB, zp, hA, hB, hC, hD⟩ := hJ
                refine wpAnyH_ready (rs := [11]) (by kernel_rfl) (by simp) ?_
                refine (AllReadyH.cons rfl (fun K hK => ?_) AllReadyH.nil)
                have zN := eB.new 40 36
                have eN := eB.up (balloc v (.cells (wds 36 z0).toArray 40))
                have lzp := zp.bl.size
                have zpN := zp.up (balloc v (.cells (wds 36 z0).toArray 40))
                go_simp
                refine hK.out _ _ eN (fun _ => ?_)
                clear hK K
                generalize v.alloc (.cells (wds 36 z0).toArray 40) = vN at eN zN zpN ⊢
                generalize v.heap.size = pq at zN lzp ⊢
                refine wpAnyH_relist #[true, true, true, true, true, true, true, true, true, true, true, true, false, false] (by kernel_rfl) ?_
                try simp only [Act.put, List.setIfInBounds_toArray, List.set_cons_zero, List.set_cons_succ, List.getElem_toArray, List.getElem_cons_zero, List.getElem_cons_succ]
                exact Ja11111100 vN gA gB gC gD pp pq ⟨eN, zpN, zN, (by omega), hA, hB, hC, hD⟩
              ·intro v gA gB gC gD pq hJ
               obtain ⟨eB, zq, hA, hB, hC, hD⟩ := hJ
               refine wpAnyH_ready (rs := [10]) (by kernel_rfl) (by simp) ?_
               refine (AllReadyH.cons rfl (fun K hK => ?_) AllReadyH.nil)
               have zN := eB.new 40 36
               have eN := eB.up (balloc v (.cells (wds 36 z0).toArray 40))
               have lzq := zq.bl.size
               have zqN := zq.up (balloc v (.cells (wds 36 z0).toArray 40))
               go_simp
               refine hK.out _ _ eN (fun _ => ?_)
               clear hK K
               generalize v.alloc (.cells (wds 36 z0).toArray 40) = vN at eN zN zqN ⊢
               generalize v.heap.size = pp at zN lzq ⊢
               refine wpAnyH_relist #[true, true, true, true, true, true, true, true, true, true, true, true, false, false] (by kernel_rfl) ?_
               try simp only [Act.put, List.setIfInBounds_toArray, List.set_cons_zero, List.set_cons_succ, List.getElem_toArray, List.getElem_cons_zero, List.getElem_cons_succ]
               exact Ja11111100 vN gA gB gC gD pp pq ⟨eN, zN, zqN, (by omega), hA, hB, hC, hD⟩
             ·intro v gA gB gC pp pq hJ
              obtain ⟨eB, zp, zq, npq, hA, hB, hC⟩ := hJ
              refine wpAnyH_ready (rs := [9]) (by kernel_rfl) (by simp) ?_
              refine (AllReadyH.cons rfl (fun K hK => ?_) AllReadyH.nil)
              go_simp
              go_at_call 13
              with_reducible refine (mxMul_c f0 gC _ _ v HM0.out hC (HG.out.up (bchain HB.out eB.b))).mono ?_
              rintro e vN ⟨gD, rfl, hD, hb⟩
              try dsimp only
              refine hK.out _ _ (eB.up hb) (fun _ => ?_)
              clear hK K
              refine wpAnyH_relist #[true, true, true, true, true, true, true, true, true, true, true, true, false, false] (by kernel_rfl) ?_
              try simp only [Act.put, List.setIfInBounds_toArray, List.set_cons_zero, List.set_cons_succ, List.getElem_toArray, List.getElem_cons_zero, List.getElem_cons_succ]
              exact Ja11111100 vN gA gB gC gD pp pq ⟨(eB.up hb), (zp.up hb), (zq.up hb), npq, hA, hB, hC, hD⟩
            ·intro v gA gB gC gD pp pq hJ
             obtain ⟨eB, zp, zq, npq, hA, hB, hC, hD⟩ := hJ
             refine wpAnyH_ready (rs := [12]) (by kernel_rfl) (by simp) ?_
             refine (AllReadyH.cons rfl (fun K hK => ?_) AllReadyH.nil)
             refine ready_go (by rfl) ?_
             refine wp_store_mid 40 (.tmp 14) (.tmp 60) rfl pp 0 (wds 36 gB).toArray rfl rfl zp.there (sizeMA _) (wds_all _ _) ?_
             have eN := eB.put zp.le (wds 36 gB)
             have zN := zp.lay gB
             have zqN := zq.put zp.le (by omega) (wds 36 gB)
             refine hK.out _ _ eN (fun _ => ?_)
             clear hK K
             try change wpAnyH _ _ _ _ _ _ _ (World.setCells v pp 0 (wds 36 gB))
             generalize World.setCells v pp 0 (wds 36 gB) = vN at eN zN zqN ⊢
             refine wpAnyH_relist #[true, true, true, true, true, true, true, true, true, true, true, true, true, false] (by kernel_rfl) ?_
             try simp only [Act.put, List.setIfInBounds_toArray, List.set_cons_zero, List.set_cons_succ, List.getElem_toArray, List.getElem_cons_zero, List.getElem_cons_succ]
             exact Ja11111110 vN gA gB gC gD pp pq ⟨eN, zN, zqN, npq, hA, hB, hC, hD⟩
           ·intro v gA gB gC gD pp pq hJ
            obtain ⟨eB, zp, zq, npq, hA, hB, hC, hD⟩ := hJ
            refine wpAnyH_ready (rs := [13]) (by kernel_rfl) (by simp) ?_
            refine (AllReadyH.cons rfl (fun K hK => ?_) AllReadyH.nil)
            refine ready_go (by rfl) ?_
            refine wp_store_mid 40 (.tmp 15) (.tmp 65) rfl pq 0 (wds 36 gD).toArray rfl rfl zq.there (sizeMA _) (wds_all _ _) ?_
            have eN := eB.put zq.le (wds 36 gD)
            have zN := zq.lay gD
            have zpN := zp.put zq.le (by omega) (wds 36 gD)
            refine hK.out _ _ eN (fun _ => ?_)
            clear hK K
            try change wpAnyH _ _ _ _ _ _ _ (World.setCells v pq 0 (wds 36 gD))
            generalize World.setCells v pq 0 (wds 36 gD) = vN at eN zN zpN ⊢
            refine wpAnyH_relist #[true, true, true, true, true, true, true, true, true, true, true, true, true, true] (by kernel_rfl) ?_
            try simp only [Act.put, List.setIfInBounds_toArray, List.set_cons_zero, List.set_cons_succ, List.getElem_toArray, List.getElem_cons_zero, List.getElem_cons_succ]
            exact Ja11111111 vN gA gB gC gD pp pq ⟨eN, zpN, zN, npq, hA, hB, hC, hD⟩
          ·intro v gA gB gC gD pp pq hJ
           obtain ⟨eB, zp, zq, npq, hA, hB, hC, hD⟩ := hJ
           refine wpAnyH_done (by kernel_rfl) ?_ _
           go_wp2_with fail
           go_meet
           exact ⟨_, _, gB, gD, rfl, rfl, zp.bl, zq.bl, hB, hD, eB.b⟩
        case rest =>
          obtain ⟨bx, b_y, gB, gD, rfl, rfl, hp, hq, hB, hD, hb⟩ := hcut
          have HPX := hid hp
          have HQY := hid hq
          have HBZ := hid hB
          have HDZ := hid hD
          clear hp hq hB hD
          have HY0' := hid (HY0.out.up hb)
          clear HY0
          have HY0 := HY0'
          clear HY0'
          have HY1' := hid (HY1.out.up hb)
          clear HY1
          have HY1 := HY1'
          clear HY1'
          have HY2' := hid (HY2.out.up hb)
          clear HY2
          have HY2 := HY2'
          clear HY2'
          have HYv' := hid (HYv.out.up hb)
          clear HYv
          have HYv := HYv'
          clear HYv'
          have HB' := hid (bchain HB.out hb)
          clear HB
          have HB := HB'
          clear HB' hb
          obtain ⟨w8, hw8⟩ : ∃ v, v = wc := ⟨_, rfl⟩
          rw [← hw8] at HPX HQY HY0 HY1 HY2 HYv HB ⊢
          clear hw8
          go_wp2_with fail
          try simp only [Act.put]
          go_cut [16, 17] (fun s t wx => ∃ (p q : Nat) (g h : Nat → Int), s = .pointer (some ⟨p, 0, none⟩) ∧ t = .pointer (some ⟨q, 0, none⟩) ∧ BlkV wx p 38 (wds 12 g) ∧ BlkV wx q 38 (wds 12 h) ∧ VecZ g (mzApply (mzMul (nums l0) (nums l1)) (nums l2 1)) ∧ VecZ h (mzApply (nums l0) (mzApply (nums l1) (nums l2 1))) ∧ Below w8.heap.size w8 wx)
          case first =>
            have hlf0 := wds_len 36 f0
            have e0 := EL.up (⟨HY0.out, HY1.out, HY2.out, HYv.out, Below.refl _ _, HY0.out.size, HY1.out.size, HY2.out.size, HYv.out.size⟩ : EL p0 p1 p2 pv f0 f1 f2 gv w8 w8) (Below.refl _ _).drew
            clear HYv HY0 HY1 HY2 HPX HQY HBZ HDZ
            generalize hvd : w8.drew = wd0 at *
            refine wp_region_held_drew (S := EL p0 p1 p2 pv f0 f1 f2 gv w8) (by kernel_rfl) (by rw [hvd]; exact e0) (fun hHeld => ?_)
            rw [hvd] at hHeld ⊢
            refine wpAnyH_take (i := 0) (v := .agg (wds 36 f0).toArray) rfl (by kernel_rfl) (by kernel_rfl) (by kernel_rfl) (fun _ _ _ h => h) (yieldsIf_load_mid (by rfl) 40 (.tmp 7) rfl (p0) (0) rfl (wds 36 f0) _ (fun v hv => hv.m.range) Tryd.underlying40 rfl (sizeM _)) (by with_reducible assumption) ?_
            simp only [Act.put, List.setIfInBounds_toArray, List.set_cons_zero, List.set_cons_succ, List.getElem_toArray, List.getElem_cons_zero, List.getElem_cons_succ]
            refine wpAnyH_take (i := 1) (v := .agg (wds 36 f1).toArray) rfl (by kernel_rfl) (by kernel_rfl) (by kernel_rfl) (fun _ _ _ h => h) (yieldsIf_load_mid (by rfl) 40 (.tmp 9) rfl (p1) (0) rfl (wds 36 f1) _ (fun v hv => hv.n.range) Tryd.underlying40 rfl (sizeM _)) (by with_reducible assumption) ?_
            simp only [Act.put, List.setIfInBounds_toArray, List.set_cons_zero, List.set_cons_succ, List.getElem_toArray, List.getElem_cons_zero, List.getElem_cons_succ]
            refine wpAnyH_take (i := 3) (v := .agg (wds 12 gv).toArray) rfl (by kernel_rfl) (by kernel_rfl) (by kernel_rfl) (fun _ _ _ h => h) (yieldsIf_load_mid (by rfl) 38 (.tmp 13) rfl (pv) (0) rfl (wds 12 gv) _ (fun v hv => hv.y.range) Tryd.underlying38 rfl (sizeV _)) (by with_reducible assumption) ?_
            simp only [Act.put, List.setIfInBounds_toArray, List.set_cons_zero, List.set_cons_succ, List.getElem_toArray, List.getElem_cons_zero, List.getElem_cons_succ]
            refine wpAnyH_take (i := 5) (v := .agg (wds 36 f0).toArray) rfl (by kernel_rfl) (by kernel_rfl) (by kernel_rfl) (fun _ _ _ h => h) (yieldsIf_load_mid (by rfl) 40 (.tmp 7) rfl (p0) (0) rfl (wds 36 f0) _ (fun v hv => hv.m.range) Tryd.underlying40 rfl (sizeM _)) (by with_reducible assumption) ?_
            simp only [Act.put, List.setIfInBounds_toArray, List.set_cons_zero, List.set_cons_succ, List.getElem_toArray, List.getElem_cons_zero, List.getElem_cons_succ]
            refine wpAnyH_take (i := 6) (v := .agg (wds 36 f1).toArray) rfl (by kernel_rfl) (by kernel_rfl) (by kernel_rfl) (fun _ _ _ h => h) (yieldsIf_load_mid (by rfl) 40 (.tmp 9) rfl (p1) (0) rfl (wds 36 f1) _ (fun v hv => hv.n.range) Tryd.underlying40 rfl (sizeM _)) (by with_reducible assumption) ?_
            simp only [Act.put, List.setIfInBounds_toArray, List.set_cons_zero, List.set_cons_succ, List.getElem_toArray, List.getElem_cons_zero, List.getElem_cons_succ]
            refine wpAnyH_take (i := 7) (v := .agg (wds 12 gv).toArray) rfl (by kernel_rfl) (by kernel_rfl) (by kernel_rfl) (fun _ _ _ h => h) (yieldsIf_load_mid (by rfl) 38 (.tmp 13) rfl (pv) (0) rfl (wds 12 gv) _ (fun v hv => hv.y.range) Tryd.underlying38 rfl (sizeV _)) (by with_reducible assumption) ?_
            simp only [Act.put, List.setIfInBounds_toArray, List.set_cons_zero, List.set_cons_succ, List.getElem_toArray, List.getElem_cons_zero, List.getElem_cons_succ]
            refine wpAnyH_relist #[true, true, false, true, false, true, true, true, false, false, false, false, false, false] (by kernel_rfl) ?_
            apply join7 (F := fun (v : World) (gE : Nat → Int) (gF : Nat → Int) (gK : Nat → Int) (gH : Nat → Int) (pp : Nat) (pq : Nat) => (EL p0 p1 p2 pv f0 f1 f2 gv w8 v) ∧ (NW w8 v pp 38 12 gF) ∧ (NW w8 v pq 38 12 gH) ∧ (pp ≠ pq) ∧ (MatZ gE (mzMul (nums l0) (nums l1))) ∧ (VecZ gF (mzApply (mzMul (nums l0) (nums l1)) (nums l2 1))) ∧ (VecZ gK (mzApply (nums l1) (nums l2 1))) ∧ (VecZ gH (mzApply (nums l0) (mzApply (nums l1) (nums l2 1)))))
            ·intro Jc11111111
             apply join7 (F := fun (v : World) (gE : Nat → Int) (gF : Nat → Int) (gK : Nat → Int) (gH : Nat → Int) (pp : Nat) (pq : Nat) => (EL p0 p1 p2 pv f0 f1 f2 gv w8 v) ∧ (NW w8 v pp 38 12 gF) ∧ (NW w8 v pq 38 12 z0) ∧ (pp ≠ pq) ∧ (MatZ gE (mzMul (nums l0) (nums l1))) ∧ (VecZ gF (mzApply (mzMul (nums l0) (nums l1)) (nums l2 1))) ∧ (VecZ gK (mzApply (nums l1) (nums l2 1))) ∧ (VecZ gH (mzApply (nums l0) (mzApply (nums l1) (nums l2 1)))))
             ·intro Jc11111110
              apply join7 (F := fun (v : World) (gE : Nat → Int) (gF : Nat → Int) (gK : Nat → Int) (gH : Nat → Int) (pp : Nat) (pq : Nat) => (EL p0 p1 p2 pv f0 f1 f2 gv w8 v) ∧ (NW w8 v pp 38 12 z0) ∧ (NW w8 v pq 38 12 z0) ∧ (pp ≠ pq) ∧ (MatZ gE (mzMul (nums l0) (nums l1))) ∧ (VecZ gF (mzApply (mzMul (nums l0) (nums l1)) (nums l2 1))) ∧ (VecZ gK (mzApply (nums l1) (nums l2 1))) ∧ (VecZ gH (mzApply (nums l0) (mzApply (nums l1) (nums l2 1)))))
              ·intro Jc11111100
               apply join6 (F := fun (v : World) (gE : Nat → Int) (gF : Nat → Int) (gK : Nat → Int) (pp : Nat) (pq : Nat) => (EL p0 p1 p2 pv f0 f1 f2 gv w8 v) ∧ (NW w8 v pp 38 12 z0) ∧ (NW w8 v pq 38 12 z0) ∧ (pp ≠ pq) ∧ (MatZ gE (mzMul (nums l0) (nums l1))) ∧ (VecZ gF (mzApply (mzMul (nums l0) (nums l1)) (nums l2 1))) ∧ (VecZ gK (mzApply (nums l1) (nums l2 1))))
               ·intro Jc11101100
                apply join6 (F := fun (v : World) (gE : Nat → Int) (gF : Nat → Int) (gK : Nat → Int) (gH : Nat → Int) (pq : Nat) => (EL p0 p1 p2 pv f0 f1 f2 gv w8 v) ∧ (NW w8 v pq 38 12 z0) ∧ (MatZ gE (mzMul (nums l0) (nums l1))) ∧ (VecZ gF (mzApply (mzMul (nums l0) (nums l1)) (nums l2 1))) ∧ (VecZ gK (mzApply (nums l1) (nums l2 1))) ∧ (VecZ gH (mzApply (nums l0) (mzApply (nums l1) (nums l2 1)))))
                ·intro Jc11110100
                 apply join6 (F := fun (v : World) (gE : Nat → Int) (gF : Nat → Int) (gK : Nat → Int) (gH : Nat → Int) (pp : Nat) => (EL p0 p1 p2 pv f0 f1 f2 gv w8 v) ∧ (NW w8 v pp 38 12 z0) ∧ (MatZ gE (mzMul (nums l0) (nums l1))) ∧ (VecZ gF (mzApply (mzMul (nums l0) (nums l1)) (nums l2 1))) ∧ (VecZ gK (mzApply (nums l1) (nums l2 1))) ∧ (VecZ gH (mzApply (nums l0) (mzApply (nums l1) (nums l2 1)))))
                 ·intro Jc11111000
                  apply join5 (F := fun (v : World) (gE : Nat → Int) (gF : Nat → Int) (pp : Nat) (pq : Nat) => (EL p0 p1 p2 pv f0 f1 f2 gv w8 v) ∧ (NW w8 v pp 38 12 z0) ∧ (NW w8 v pq 38 12 z0) ∧ (pp ≠ pq) ∧ (MatZ gE (mzMul (nums l0) (nums l1))) ∧ (VecZ gF (mzApply (mzMul (nums l0) (nums l1)) (nums l2 1))))
                  ·intro Jc11001100
                   apply join5 (F := fun (v : World) (gE : Nat → Int) (gF : Nat → Int) (gK : Nat → Int) (pq : Nat) => (EL p0 p1 p2 pv f0 f1 f2 gv w8 v) ∧ (NW w8 v pq 38 12 z0) ∧ (MatZ gE (mzMul (nums l0) (nums l1))) ∧ (VecZ gF (mzApply (mzMul (nums l0) (nums l1)) (nums l2 1))) ∧ (VecZ gK (mzApply (nums l1) (nums l2 1))))
                   ·intro Jc11100100
                    apply join5 (F := fun (v : World) (gE : Nat → Int) (gF : Nat → Int) (gK : Nat → Int) (pp : Nat) => (EL p0 p1 p2 pv f0 f1 f2 gv w8 v) ∧ (NW w8 v pp 38 12 z0) ∧ (MatZ gE (mzMul (nums l0) (nums l1))) ∧ (VecZ gF (mzApply (mzMul (nums l0) (nums l1)) (nums l2 1))) ∧ (VecZ gK (mzApply (nums l1) (nums l2 1))))
                    ·intro Jc11101000
                     apply join5 (F := fun (v : World) (gE : Nat → Int) (gF : Nat → Int) (gK : Nat → Int) (gH : Nat → Int) => (EL p0 p1 p2 pv f0 f1 f2 gv w8 v) ∧ (MatZ gE (mzMul (nums l0) (nums l1))) ∧ (VecZ gF (mzApply (mzMul (nums l0) (nums l1)) (nums l2 1))) ∧ (VecZ gK (mzApply (nums l1) (nums l2 1))) ∧ (VecZ gH (mzApply (nums l0) (mzApply (nums l1) (nums l2 1)))))
                     ·intro Jc11110000
                      apply join4 (F := fun (v : World) (gE : Nat → Int) (pp : Nat) (pq : Nat) => (EL p0 p1 p2 pv f0 f1 f2 gv w8 v) ∧ (NW w8 v pp 38 12 z0) ∧ (NW w8 v pq 38 12 z0) ∧ (pp ≠ pq) ∧ (MatZ gE (mzMul (nums l0) (nums l1))))
                      ·intro Jc10001100
                       apply join4 (F := fun (v : World) (gE : Nat → Int) (gF : Nat → Int) (pq : Nat) => (EL p0 p1 p2 pv f0 f1 f2 gv w8 v) ∧ (NW w8 v pq 38 12 z0) ∧ (MatZ gE (mzMul (nums l0) (nums l1))) ∧ (VecZ gF (mzApply (mzMul (nums l0) (nums l1)) (nums l2 1))))
                       ·intro Jc11000100
                        apply join4 (F := fun (v : World) (gE : Nat → Int) (gF : Nat → Int) (pp : Nat) => (EL p0 p1 p2 pv f0 f1 f2 gv w8 v) ∧ (NW w8 v pp 38 12 z0) ∧ (MatZ gE (mzMul (nums l0) (nums l1))) ∧ (VecZ gF (mzApply (mzMul (nums l0) (nums l1)) (nums l2 1))))
                        ·intro Jc11001000
                         apply join4 (F := fun (v : World) (gE : Nat → Int) (gF : Nat → Int) (gK : Nat → Int) => (EL p0 p1 p2 pv f0 f1 f2 gv w8 v) ∧ (MatZ gE (mzMul (nums l0) (nums l1))) ∧ (VecZ gF (mzApply (mzMul (nums l0) (nums l1)) (nums l2 1))) ∧ (VecZ gK (mzApply (nums l1) (nums l2 1))))
                         ·intro Jc11100000
                          apply join3 (F := fun (v : World) (pp : Nat) (pq : Nat) => (EL p0 p1 p2 pv f0 f1 f2 gv w8 v) ∧ (NW w8 v pp 38 12 z0) ∧ (NW w8 v pq 38 12 z0) ∧ (pp ≠ pq))
                          ·intro Jc00001100
                           apply join3 (F := fun (v : World) (gE : Nat → Int) (pq : Nat) => (EL p0 p1 p2 pv f0 f1 f2 gv w8 v) ∧ (NW w8 v pq 38 12 z0) ∧ (MatZ gE (mzMul (nums l0) (nums l1))))
                           ·intro Jc10000100
                            apply join3 (F := fun (v : World) (gE : Nat → Int) (pp : Nat) => (EL p0 p1 p2 pv f0 f1 f2 gv w8 v) ∧ (NW w8 v pp 38 12 z0) ∧ (MatZ gE (mzMul (nums l0) (nums l1))))
                            ·intro Jc10001000
                             apply join3 (F := fun (v : World) (gE : Nat → Int) (gF : Nat → Int) => (EL p0 p1 p2 pv f0 f1 f2 gv w8 v) ∧ (MatZ gE (mzMul (nums l0) (nums l1))) ∧ (VecZ gF (mzApply (mzMul (nums l0) (nums l1)) (nums l2 1))))
                             ·intro Jc11000000
                              apply join2 (F := fun (v : World) (pq : Nat) => (EL p0 p1 p2 pv f0 f1 f2 gv w8 v) ∧ (NW w8 v pq 38 12 z0))
                              ·intro Jc00000100
                               apply join2 (F := fun (v : World) (pp : Nat) => (EL p0 p1 p2 pv f0 f1 f2 gv w8 v) ∧ (NW w8 v pp 38 12 z0))
                               ·intro Jc00001000
                                apply join2 (F := fun (v : World) (gE : Nat → Int) => (EL p0 p1 p2 pv f0 f1 f2 gv w8 v) ∧ (MatZ gE (mzMul (nums l0) (nums l1))))
                                ·intro Jc10000000
                                 have eB : EL p0 p1 p2 pv f0 f1 f2 gv w8 wd0 := e0
                                 obtain ⟨v, hvv⟩ : ∃ x, x = wd0 := ⟨_, rfl⟩
                                 rw [← hvv] at eB ⊢
                                 clear hvv
                                 refine wpAnyH_ready (rs := [2, 10, 11]) (by kernel_rfl) (by simp) ?_
                                 refine (AllReadyH.cons rfl (fun K hK => ?_) (AllReadyH.cons rfl (fun K hK => ?_) (AllReadyH.cons rfl (fun K hK => ?_) AllReadyH.nil)))
                                 ·go_simp
                                  go_at_call 13
                                  with_reducible refine (mxMul_c f0 f1 _ _ v HM0.out HM1.out (HG.out.up (bchain HB.out eB.b))).mono ?_
                                  rintro e vN ⟨gE, rfl, hE, hb⟩
                                  try dsimp only
                                  refine hK.out _ _ (eB.up hb) (fun _ => ?_)
                                  clear hK K
                                  refine wpAnyH_relist #[true, true, true, true, false, true, true, true, false, false, false, false, false, false] (by kernel_rfl) ?_
                                  try simp only [Act.put, List.setIfInBounds_toArray, List.set_cons_zero, List.set_cons_succ, List.getElem_toArray, List.getElem_cons_zero, List.getElem_cons_succ]
                                  exact Jc10000000 vN gE ⟨(eB.up hb), hE⟩
                                 ·have zN := eB.new 38 12
                                  have eN := eB.up (balloc v (.cells (wds 12 z0).toArray 38))
                                  go_simp
                                  refine hK.out _ _ eN (fun _ => ?_)
                                  clear hK K
                                  generalize v.alloc (.cells (wds 12 z0).toArray 38) = vN at eN zN ⊢
                                  generalize v.heap.size = pp at zN ⊢
                                  refine wpAnyH_relist #[true, true, false, true, false, true, true, true, false, false, true, false, false, false] (by kernel_rfl) ?_
                                  try simp only [Act.put, List.setIfInBounds_toArray, List.set_cons_zero, List.set_cons_succ, List.getElem_toArray, List.getElem_cons_zero, List.getElem_cons_succ]
                                  exact Jc00001000 vN pp ⟨eN, zN⟩
                                 ·have zN := eB.new 38 12
                                  have eN := eB.up (balloc v (.cells (wds 12 z0).toArray 38))
                                  go_simp
                                  refine hK.out _ _ eN (fun _ => ?_)
                                  clear hK K
                                  generalize v.alloc (.cells (wds 12 z0).toArray 38) = vN at eN zN ⊢
                                  generalize v.heap.size = pq at zN ⊢
                                  refine wpAnyH_relist #[true, true, false, true, false, true, true, true, false, false, false, true, false, false] (by kernel_rfl) ?_
                                  try simp only [Act.put, List.setIfInBounds_toArray, List.set_cons_zero, List.set_cons_succ, List.getElem_toArray, List.getElem_cons_zero, List.getElem_cons_succ]
                                  exact Jc00000100 vN pq ⟨eN, zN⟩
                                ·intro v gE hJ
                                 obtain ⟨eB, hE⟩ := hJ
                                 refine wpAnyH_ready (rs := [4, 10, 11]) (by kernel_rfl) (by simp) ?_
                                 refine (AllReadyH.cons rfl (fun K hK => ?_) (AllReadyH.cons rfl (fun K hK => ?_) (AllReadyH.cons rfl (fun K hK => ?_) AllReadyH.nil)))
                                 ·go_simp
                                  go_at_call 14
                                  with_reducible refine (apply_c gE gv _ _ v hE HV.out (HG.out.up (bchain HB.out eB.b))).mono ?_
                                  rintro e vN ⟨gF, rfl, hF, hb⟩
                                  try dsimp only
                                  refine hK.out _ _ (eB.up hb) (fun _ => ?_)
                                  clear hK K
                                  refine wpAnyH_relist #[true, true, true, true, true, true, true, true, false, false, false, false, false, false] (by kernel_rfl) ?_
                                  try simp only [Act.put, List.setIfInBounds_toArray, List.set_cons_zero, List.set_cons_succ, List.getElem_toArray, List.getElem_cons_zero, List.getElem_cons_succ]
                                  exact Jc11000000 vN gE gF ⟨(eB.up hb), hE, hF⟩
                                 ·have zN := eB.new 38 12
                                  have eN := eB.up (balloc v (.cells (wds 12 z0).toArray 38))
                                  go_simp
                                  refine hK.out _ _ eN (fun _ => ?_)
                                  clear hK K
                                  generalize v.alloc (.cells (wds 12 z0).toArray 38) = vN at eN zN ⊢
                                  generalize v.heap.size = pp at zN ⊢
                                  refine wpAnyH_relist #[true, true, true, true, false, true, true, true, false, false, true, false, false, false] (by kernel_rfl) ?_
                                  try simp only [Act.put, List.setIfInBounds_toArray, List.set_cons_zero, List.set_cons_succ, List.getElem_toArray, List.getElem_cons_zero, List.getElem_cons_succ]
                                  exact Jc10001000 vN gE pp ⟨eN, zN, hE⟩
                                 ·have zN := eB.new 38 12
                                  have eN := eB.up (balloc v (.cells (wds 12 z0).toArray 38))
                                  go_simp
                                  refine hK.out _ _ eN (fun _ => ?_)
                                  clear hK K
                                  generalize v.alloc (.cells (wds 12 z0).toArray 38) = vN at eN zN ⊢
                                  generalize v.heap.size = pq at zN ⊢
                                  refine wpAnyH_relist #[true, true, true, true, false, true, true, true, false, false, false, true, false, false] (by kernel_rfl) ?_
                                  try simp only [Act.put, List.setIfInBounds_toArray, List.set_cons_zero, List.set_cons_succ, List.getElem_toArray, List.getElem_cons_zero, List.getElem_cons_succ]
                                  exact Jc10000100 vN gE pq ⟨eN, zN, hE⟩
                               ·intro v pp hJ
                                obtain ⟨eB, zp⟩ := hJ
                                refine wpAnyH_ready (rs := [2, 11]) (by kernel_rfl) (by simp) ?_
                                refine (AllReadyH.cons rfl (fun K hK => ?_) (AllReadyH.cons rfl (fun K hK => ?_) AllReadyH.nil))
                                ·go_simp
                                 go_at_call 13
                                 with_reducible refine (mxMul_c f0 f1 _ _ v HM0.out HM1.out (HG.out.up (bchain HB.out eB.b))).mono ?_
                                 rintro e vN ⟨gE, rfl, hE, hb⟩
                                 try dsimp only
                                 refine hK.out _ _ (eB.up hb) (fun _ => ?_)
                                 clear hK K
                                 refine wpAnyH_relist #[true, true, true, true, false, true, true, true, false, false, true, false, false, false] (by kernel_rfl) ?_
                                 try simp only [Act.put, List.setIfInBounds_toArray, List.set_cons_zero, List.set_cons_succ, List.getElem_toArray, List.getElem_cons_zero, List.getElem_cons_succ]
                                 exact Jc10001000 vN gE pp ⟨(eB.up hb), (zp.up hb), hE⟩
                                ·have zN := eB.new 38 12
                                 have eN := eB.up (balloc v (.cells (wds 12 z0).toArray 38))
                                 have lzp := zp.bl.size
                                 have zpN := zp.up (balloc v (.cells (wds 12 z0).toArray 38))
                                 go_simp
                                 refine hK.out _ _ eN (fun _ => ?_)
                                 clear hK K
                                 generalize v.alloc (.cells (wds 12 z0).toArray 38) = vN at eN zN zpN ⊢
                                 generalize v.heap.size = pq at zN lzp ⊢
                                 refine wpAnyH_relist #[true, true, false, true, false, true, true, true, false, false, true, true, false, false] (by kernel_rfl) ?_
                                 try simp only [Act.put, List.setIfInBounds_toArray, List.set_cons_zero, List.set_cons_succ, List.getElem_toArray, List.getElem_cons_zero, List.getElem_cons_succ]
                                 exact Jc00001100 vN pp pq ⟨eN, zpN, zN, (by omega)⟩
                              ·intro v pq hJ
                               obtain ⟨eB, zq⟩ := hJ
                               refine wpAnyH_ready (rs := [2, 10]) (by kernel_rfl) (by simp) ?_
                               refine (AllReadyH.cons rfl (fun K hK => ?_) (AllReadyH.cons rfl (fun K hK => ?_) AllReadyH.nil))
                               ·go_simp
                                go_at_call 13
                                with_reducible refine (mxMul_c f0 f1 _ _ v HM0.out HM1.out (HG.out.up (bchain HB.out eB.b))).mono ?_
                                rintro e vN ⟨gE, rfl, hE, hb⟩
                                try dsimp only
                                refine hK.out _ _ (eB.up hb) (fun _ => ?_)
                                clear hK K
                                refine wpAnyH_relist #[true, true, true, true, false, true, true, true, false, false, false, true, false, false] (by kernel_rfl) ?_
                                try simp only [Act.put, List.setIfInBounds_toArray, List.set_cons_zero, List.set_cons_succ, List.getElem_toArray, List.getElem_cons_zero, List.getElem_cons_succ]
                                exact Jc10000100 vN gE pq ⟨(eB.up hb), (zq.up hb), hE⟩
                               ·have zN := eB.new 38 12
                                have eN := eB.up (balloc v (.cells (wds 12 z0).toArray 38))
                                have lzq := zq.bl.size
                                have zqN := zq.up (balloc v (.cells (wds 12 z0).toArray 38))
                                go_simp
                                refine hK.out _ _ eN (fun _ => ?_)
                                clear hK K
                                generalize v.alloc (.cells (wds 12 z0).toArray 38) = vN at eN zN zqN ⊢
                                generalize v.heap.size = pp at zN lzq ⊢
                                refine wpAnyH_relist #[true, true, false, true, false, true, true, true, false, false, true, true, false, false] (by kernel_rfl) ?_
                                try simp only [Act.put, List.setIfInBounds_toArray, List.set_cons_zero, List.set_cons_succ, List.getElem_toArray, List.getElem_cons_zero, List.getElem_cons_succ]
                                exact Jc00001100 vN pp pq ⟨eN, zN, zqN, (by omega)⟩
                             ·intro v gE gF hJ
                              obtain ⟨eB, hE, hF⟩ := hJ
                              refine wpAnyH_ready (rs := [8, 10, 11]) (by kernel_rfl) (by simp) ?_
                              refine (AllReadyH.cons rfl (fun K hK => ?_) (AllReadyH.cons rfl (fun K hK => ?_) (AllReadyH.cons rfl (fun K hK => ?_) AllReadyH.nil)))
                              ·go_simp
                               go_at_call 14
                               with_reducible refine (apply_c f1 gv _ _ v HM1.out HV.out (HG.out.up (bchain HB.out eB.b))).mono ?_
                               rintro e vN ⟨gK, rfl, hK1, hb⟩
                               try dsimp only
                               refine hK.out _ _ (eB.up hb) (fun _ => ?_)
                               clear hK K
                               refine wpAnyH_relist #[true, true, true, true, true, true, true, true, true, false, false, false, false, false] (by kernel_rfl) ?_
                               try simp only [Act.put, List.setIfInBounds_toArray, List.set_cons_zero, List.set_cons_succ, List.getElem_toArray, List.getElem_cons_zero, List.getElem_cons_succ]
                               exact Jc11100000 vN gE gF gK ⟨(eB.up hb), hE, hF, hK1⟩
                              ·have zN := eB.new 38 12
                               have eN := eB.up (balloc v (.cells (wds 12 z0).toArray 38))
                               go_simp
                               refine hK.out _ _ eN (fun _ => ?_)
                               clear hK K
                               generalize v.alloc (.cells (wds 12 z0).toArray 38) = vN at eN zN ⊢
                               generalize v.heap.size = pp at zN ⊢
                               refine wpAnyH_relist #[true, true, true, true, true, true, true, true, false, false, true, false, false, false] (by kernel_rfl) ?_
                               try simp only [Act.put, List.setIfInBounds_toArray, List.set_cons_zero, List.set_cons_succ, List.getElem_toArray, List.getElem_cons_zero, List.getElem_cons_succ]
                               exact Jc11001000 vN gE gF pp ⟨eN, zN, hE, hF⟩
                              ·have zN := eB.new 38 12
                               have eN := eB.up (balloc v (.cells (wds 12 z0).toArray 38))
                               go_simp
                               refine hK.out _ _ eN (fun _ => ?_)
                               clear hK K
                               generalize v.alloc (.cells (wds 12 z0).toArray 38) = vN at eN zN ⊢
                               generalize v.heap.size = pq at zN ⊢
                               refine wpAnyH_relist #[true, true, true, true, true, true, true, true, false, false, false, true, false, false] (by kernel_rfl) ?_
                               try simp only [Act.put, List.setIfInBounds_toArray, List.set_cons_zero, List.set_cons_succ, List.getElem_toArray, List.getElem_cons_zero, List.getElem_cons_succ]
                               exact Jc11000100 vN gE gF pq ⟨eN, zN, hE, hF⟩
                            ·intro v gE pp hJ
                             obtain ⟨eB, zp, hE⟩ := hJ
                             refine wpAnyH_ready (rs := [4, 11]) (by kernel_rfl) (by simp) ?_
                             refine (AllReadyH.cons rfl (fun K hK => ?_) (AllReadyH.cons rfl (fun K hK => ?_) AllReadyH.nil))
                             ·go_simp
                              go_at_call 14
                              with_reducible refine (apply_c gE gv _ _ v hE HV.out (HG.out.up (bchain HB.out eB.b))).mono ?_
                              rintro e vN ⟨gF, rfl, hF, hb⟩
                              try dsimp only
                              refine hK.out _ _ (eB.up hb) (fun _ => ?_)
                              clear hK K
                              refine wpAnyH_relist #[true, true, true, true, true, true, true, true, false, false, true, false, false, false] (by kernel_rfl) ?_
                              try simp only [Act.put, List.setIfInBounds_toArray, List.set_cons_zero, List.set_cons_succ, List.getElem_toArray, List.getElem_cons_zero, List.getElem_cons_succ]
                              exact Jc11001000 vN gE gF pp ⟨(eB.up hb), (zp.up hb), hE, hF⟩
                             ·have zN := eB.new 38 12
                              have eN := eB.up (balloc v (.cells (wds 12 z0).toArray 38))
                              have lzp := zp.bl.size
                              have zpN := zp.up (balloc v (.cells (wds 12 z0).toArray 38))
                              go_simp
                              refine hK.out _ _ eN (fun _ => ?_)
                              clear hK K
                              generalize v.alloc (.cells (wds 12 z0).toArray 38) = vN at eN zN zpN ⊢
                              generalize v.heap.size = pq at zN lzp ⊢
                              refine wpAnyH_relist #[true, true, true, true, false, true, true, true, false, false, true, true, false, false] (by kernel_rfl) ?_
                              try simp only [Act.put, List.setIfInBounds_toArray, List.set_cons_zero, List.set_cons_succ, List.getElem_toArray, List.getElem_cons_zero, List.getElem_cons_succ]
                              exact Jc10001100 vN gE pp pq ⟨eN, zpN, zN, (by omega), hE⟩
                           ·intro v gE pq hJ
                            obtain ⟨eB, zq, hE⟩ := hJ
                            refine wpAnyH_ready (rs := [4, 10]) (by kernel_rfl) (by simp) ?_
                            refine (AllReadyH.cons rfl (fun K hK => ?_) (AllReadyH.cons rfl (fun K hK => ?_) AllReadyH.nil))
                            ·go_simp
                             go_at_call 14
                             with_reducible refine (apply_c gE gv _ _ v hE HV.out (HG.out.up (bchain HB.out eB.b))).mono ?_
                             rintro e vN ⟨gF, rfl, hF, hb⟩
                             try dsimp only
                             refine hK.out _ _ (eB.up hb) (fun _ => ?_)
                             clear hK K
                             refine wpAnyH_relist #[true, true, true, true, true, true, true, true, false, false, false, true, false, false] (by kernel_rfl) ?_
                             try simp only [Act.put, List.setIfInBounds_toArray, List.set_cons_zero, List.set_cons_succ, List.getElem_toArray, List.getElem_cons_zero, List.getElem_cons_succ]
                             exact Jc11000100 vN gE gF pq ⟨(eB.up hb), (zq.up hb), hE, hF⟩
                            ·have zN := eB.new 38 12
                             have eN := eB.up (balloc v (.cells (wds 12 z0).toArray 38))
                             have lzq := zq.bl.size
                             have zqN := zq.up (balloc v (.cells (wds 12 z0).toArray 38))
                             go_simp
                             refine hK.out _ _ eN (fun _ => ?_)
                             clear hK K
                             generalize v.alloc (.cells (wds 12 z0).toArray 38) = vN at eN zN zqN ⊢
                             generalize v.heap.size = pp at zN lzq ⊢
                             refine wpAnyH_relist #[true, true, true, true, false, true, true, true, false, false, true, true, false, false] (by kernel_rfl) ?_
                             try simp only [Act.put, List.setIfInBounds_toArray, List.set_cons_zero, List.set_cons_succ, List.getElem_toArray, List.getElem_cons_zero, List.getElem_cons_succ]
                             exact Jc10001100 vN gE pp pq ⟨eN, zN, zqN, (by omega), hE⟩
                          ·intro v pp pq hJ
                           obtain ⟨eB, zp, zq, npq⟩ := hJ
                           refine wpAnyH_ready (rs := [2]) (by kernel_rfl) (by simp) ?_
                           refine (AllReadyH.cons rfl (fun K hK => ?_) AllReadyH.nil)
                           go_simp
                           go_at_call 13
                           with_reducible refine (mxMul_c f0 f1 _ _ v HM0.out HM1.out (HG.out.up (bchain HB.out eB.b))).mono ?_
                           rintro e vN ⟨gE, rfl, hE, hb⟩
                           try dsimp only
                           refine hK.out _ _ (eB.up hb) (fun _ => ?_)
                           clear hK K
                           refine wpAnyH_relist #[true, true, true, true, false, true, true, true, false, false, true, true, false, false] (by kernel_rfl) ?_
                           try simp only [Act.put, List.setIfInBounds_toArray, List.set_cons_zero, List.set_cons_succ, List.getElem_toArray, List.getElem_cons_zero, List.getElem_cons_succ]
                           exact Jc10001100 vN gE pp pq ⟨(eB.up hb), (zp.up hb), (zq.up hb), npq, hE⟩
                         ·intro v gE gF gK hJ
                          obtain ⟨eB, hE, hF, hK1⟩ := hJ
                          refine wpAnyH_ready (rs := [9, 10, 11]) (by kernel_rfl) (by simp) ?_
                          refine (AllReadyH.cons rfl (fun K hK => ?_) (AllReadyH.cons rfl (fun K hK => ?_) (AllReadyH.cons rfl (fun K hK => ?_) AllReadyH.nil)))
                          ·go_simp
                           go_at_call 14
                           with_reducible refine (apply_c f0 gK _ _ v HM0.out hK1 (HG.out.up (bchain HB.out eB.b))).mono ?_
                           rintro e vN ⟨gH, rfl, hH, hb⟩
                           try dsimp only
                           refine hK.out _ _ (eB.up hb) (fun _ => ?_)
                           clear hK K
                           refine wpAnyH_relist #[true, true, true, true, true, true, true, true, true, true, false, false, false, false] (by kernel_rfl) ?_
                           try simp only [Act.put, List.setIfInBounds_toArray, List.set_cons_zero, List.set_cons_succ, List.getElem_toArray, List.getElem_cons_zero, List.getElem_cons_succ]
                           exact Jc11110000 vN gE gF gK gH ⟨(eB.up hb), hE, hF, hK1, hH⟩
                          ·have zN := eB.new 38 12
                           have eN := eB.up (balloc v (.cells (wds 12 z0).toArray 38))
                           go_simp
                           refine hK.out _ _ eN (fun _ => ?_)
                           clear hK K
                           generalize v.alloc (.cells (wds 12 z0).toArray 38) = vN at eN zN ⊢
                           generalize v.heap.size = pp at zN ⊢
                           refine wpAnyH_relist #[true, true, true, true, true, true, true, true, true, false, true, false, false, false] (by kernel_rfl) ?_
                           try simp only [Act.put, List.setIfInBounds_toArray, List.set_cons_zero, List.set_cons_succ, List.getElem_toArray, List.getElem_cons_zero, List.getElem_cons_succ]
                           exact Jc11101000 vN gE gF gK pp ⟨eN, zN, hE, hF, hK1⟩
                          ·have zN := eB.new 38 12
                           have eN := eB.up (balloc v (.cells (wds 12 z0).toArray 38))
                           go_simp
                           refine hK.out _ _ eN (fun _ => ?_)
                           clear hK K
                           generalize v.alloc (.cells (wds 12 z0).toArray 38) = vN at eN zN ⊢
                           generalize v.heap.size = pq at zN ⊢
                           refine wpAnyH_relist #[true, true, true, true, true, true, true, true, true, false, false, true, false, false] (by kernel_rfl) ?_
                           try simp only [Act.put, List.setIfInBounds_toArray, List.set_cons_zero, List.set_cons_succ, List.getElem_toArray, List.getElem_cons_zero, List.getElem_cons_succ]
                           exact Jc11100100 vN gE gF gK pq ⟨eN, zN, hE, hF, hK1⟩
                        ·intro v gE gF pp hJ
                         obtain ⟨eB, zp, hE, hF⟩ := hJ
                         refine wpAnyH_ready (rs := [8, 11]) (by kernel_rfl) (by simp) ?_
                         refine (AllReadyH.cons rfl (fun K hK => ?_) (AllReadyH.cons rfl (fun K hK => ?_) AllReadyH.nil))
                         ·go_simp
                          go_at_call 14
                          with_reducible refine (apply_c f1 gv _ _ v HM1.out HV.out (HG.out.up (bchain HB.out eB.b))).mono ?_
                          rintro e vN ⟨gK, rfl, hK1, hb⟩
                          try dsimp only
                          refine hK.out _ _ (eB.up hb) (fun _ => ?_)
                          clear hK K
                          refine wpAnyH_relist #[true, true, true, true, true, true, true, true, true, false, true, false, false, false] (by kernel_rfl) ?_
                          try simp only [Act.put, List.setIfInBounds_toArray, List.set_cons_zero, List.set_cons_succ, List.getElem_toArray, List.getElem_cons_zero, List.getElem_cons_succ]
                          exact Jc11101000 vN gE gF gK pp ⟨(eB.up hb), (zp.up hb), hE, hF, hK1⟩
                         ·have zN := eB.new 38 12
                          have eN := eB.up (balloc v (.cells (wds 12 z0).toArray 38))
                          have lzp := zp.bl.size
                          have zpN := zp.up (balloc v (.cells (wds 12 z0).toArray 38))
                          go_simp
                          refine hK.out _ _ eN (fun _ => ?_)
                          clear hK K
                          generalize v.alloc (.cells (wds 12 z0).toArray 38) = vN at eN zN zpN ⊢
                          generalize v.heap.size = pq at zN lzp ⊢
                          refine wpAnyH_relist #[true, true, true, true, true, true, true, true, false, false, true, true, false, false] (by kernel_rfl) ?_
                          try simp only [Act.put, List.setIfInBounds_toArray, List.set_cons_zero, List.set_cons_succ, List.getElem_toArray, List.getElem_cons_zero, List.getElem_cons_succ]
                          exact Jc11001100 vN gE gF pp pq ⟨eN, zpN, zN, (by omega), hE, hF⟩
                       ·intro v gE gF pq hJ
                        obtain ⟨eB, zq, hE, hF⟩ := hJ
                        refine wpAnyH_ready (rs := [8, 10]) (by kernel_rfl) (by simp) ?_
                        refine (AllReadyH.cons rfl (fun K hK => ?_) (AllReadyH.cons rfl (fun K hK => ?_) AllReadyH.nil))
                        ·go_simp
                         go_at_call 14
                         with_reducible refine (apply_c f1 gv _ _ v HM1.out HV.out (HG.out.up (bchain HB.out eB.b))).mono ?_
                         rintro e vN ⟨gK, rfl, hK1, hb⟩
                         try dsimp only
                         refine hK.out _ _ (eB.up hb) (fun _ => ?_)
                         clear hK K
                         refine wpAnyH_relist #[true, true, true, true, true, true, true, true, true, false, false, true, false, false] (by kernel_rfl) ?_
                         try simp only [Act.put, List.setIfInBounds_toArray, List.set_cons_zero, List.set_cons_succ, List.getElem_toArray, List.getElem_cons_zero, List.getElem_cons_succ]
                         exact Jc11100100 vN gE gF gK pq ⟨(eB.up hb), (zq.up hb), hE, hF, hK1⟩
                        ·have zN := eB.new 38 12
                         have eN := eB.up (balloc v (.cells (wds 12 z0).toArray 38))
                         have lzq := zq.bl.size
                         have zqN := zq.up (balloc v (.cells (wds 12 z0).toArray 38))
                         go_simp
                         refine hK.out _ _ eN (fun _ => ?_)
                         clear hK K
                         generalize v.alloc (.cells (wds 12 z0).toArray 38) = vN at eN zN zqN ⊢
                         generalize v.heap.size = pp at zN lzq ⊢
                         refine wpAnyH_relist #[true, true, true, true, true, true, true, true, false, false, true, true, false, false] (by kernel_rfl) ?_
                         try simp only [Act.put, List.setIfInBounds_toArray, List.set_cons_zero, List.set_cons_succ, List.getElem_toArray, List.getElem_cons_zero, List.getElem_cons_succ]
                         exact Jc11001100 vN gE gF pp pq ⟨eN, zN, zqN, (by omega), hE, hF⟩
                      ·intro v gE pp pq hJ
                       obtain ⟨eB, zp, zq, npq, hE⟩ := hJ
                       refine wpAnyH_ready (rs := [4]) (by kernel_rfl) (by simp) ?_
                       refine (AllReadyH.cons rfl (fun K hK => ?_) AllReadyH.nil)
                       go_simp
                       go_at_call 14
                       with_reducible refine (apply_c gE gv _ _ v hE HV.out (HG.out.up (bchain HB.out eB.b))).mono ?_
                       rintro e vN ⟨gF, rfl, hF, hb⟩
                       try dsimp only
                       refine hK.out _ _ (eB.up hb) (fun _ => ?_)
                       clear hK K
                       refine wpAnyH_relist #[true, true, true, true, true, true, true, true, false, false, true, true, false, false] (by kernel_rfl) ?_
                       try simp only [Act.put, List.setIfInBounds_toArray, List.set_cons_zero, List.set_cons_succ, List.getElem_toArray, List.getElem_cons_zero, List.getElem_cons_succ]
                       exact Jc11001100 vN gE gF pp pq ⟨(eB.up hb), (zp.up hb), (zq.up hb), npq, hE, hF⟩
                     ·intro v gE gF gK gH hJ
                      obtain ⟨eB, hE, hF, hK1, hH⟩ := hJ
                      refine wpAnyH_ready (rs := [10, 11]) (by kernel_rfl) (by simp) ?_
                      refine (AllReadyH.cons rfl (fun K hK => ?_) (AllReadyH.cons rfl (fun K hK => ?_) AllReadyH.nil))
                      ·have zN := eB.new 38 12
                       have eN := eB.up (balloc v (.cells (wds 12 z0).toArray 38))
                       go_simp
                       refine hK.out _ _ eN (fun _ => ?_)
                       clear hK K
                       generalize v.alloc (.cells (wds 12 z0).toArray 38) = vN at eN zN ⊢
                       generalize v.heap.size = pp at zN ⊢
                       refine wpAnyH_relist #[true, true, true, true, true, true, true, true, true, true, true, false, false, false] (by kernel_rfl) ?_
                       try simp only [Act.put, List.setIfInBounds_toArray, List.set_cons_zero, List.set_cons_succ, List.getElem_toArray, List.getElem_cons_zero, List.getElem_cons_succ]
                       exact Jc11111000 vN gE gF gK gH pp ⟨eN, zN, hE, hF, hK1, hH⟩
                      ·have zN := eB.new 38 12
                       have eN := eB.up (balloc v (.cells (wds 12 z0).toArray 38))
                       go_simp
                       refine hK.out _ _ eN (fun _ => ?_)
                       clear hK K
                       generalize v.alloc (.cells (wds 12 z0).toArray 38) = vN at eN zN ⊢
                       generalize v.heap.size = pq at zN ⊢
                       refine wpAnyH_relist #[true, true, true, true, true, true, true, true, true, true, false, true, false, false] (by kernel_rfl) ?_
                       try simp only [Act.put, List.setIfInBounds_toArray, List.set_cons_zero, List.set_cons_succ, List.getElem_toArray, List.getElem_cons_zero, List.getElem_cons_succ]
                       exact Jc11110100 vN gE gF gK gH pq ⟨eN, zN, hE, hF, hK1, hH⟩
                    ·intro v gE gF gK pp hJ
                     obtain ⟨eB, zp, hE, hF, hK1⟩ := hJ
                     refine wpAnyH_ready (rs := [9, 11]) (by kernel_rfl) (by simp) ?_
                     refine (AllReadyH.cons rfl (fun K hK => ?_) (AllReadyH.cons rfl (fun K hK => ?_) AllReadyH.nil))
                     ·go_simp
                      go_at_call 14
                      with_reducible refine (apply_c f0 gK _ _ v HM0.out hK1 (HG.out.up (bchain HB.out eB.b))).mono ?_
                      rintro e vN ⟨gH, rfl, hH, hb⟩
                      try dsimp only
                      refine hK.out _ _ (eB.up hb) (fun _ => ?_)
                      clear hK K
                      refine wpAnyH_relist #[true, true, true, true, true, true, true, true, true, true, true, false, false, false] (by kernel_rfl) ?_
                      try simp only [Act.put, List.setIfInBounds_toArray, List.set_cons_zero, List.set_cons_succ, List.getElem_toArray, List.getElem_cons_zero, List.getElem_cons_succ]
                      exact Jc11111000 vN gE gF gK gH pp ⟨(eB.up hb), (zp.up hb), hE, hF, hK1, hH⟩
                     ·have zN := eB.new 38 12
                      have eN := eB.up (balloc v (.cells (wds 12 z0).toArray 38))
                      have lzp := zp.bl.size
                      have zpN := zp.up (balloc v (.cells (wds 12 z0).toArray 38))
                      go_simp
                      refine hK.out _ _ eN (fun _ => ?_)
                      clear hK K
                      generalize v.alloc (.cells (wds 12 z0).toArray 38) = vN at eN zN zpN ⊢
                      generalize v.heap.size = pq at zN lzp ⊢
                      refine wpAnyH_relist #[true, true, true, true, true, true, true, true, true, false, true, true, false, false] (by kernel_rfl) ?_
                      try simp only [Act.put, List.setIfInBounds_toArray, List.set_cons_zero, List.set_cons_succ, List.getElem_toArray, List.getElem_cons_zero, List.getElem_cons_succ]
                      exact Jc11101100 vN gE gF gK pp pq ⟨eN, zpN, zN, (by omega), hE, hF, hK1⟩
                   ·intro v gE gF gK pq hJ
                    obtain ⟨eB, zq, hE, hF, hK1⟩ := hJ
                    refine wpAnyH_ready (rs := [9, 10]) (by kernel_rfl) (by simp) ?_
                    refine (AllReadyH.cons rfl (fun K hK => ?_) (AllReadyH.cons rfl (fun K hK => ?_) AllReadyH.nil))
                    ·go_simp
                     go_at_call 14
                     with_reducible refine (apply_c f0 gK _ _ v HM0.out hK1 (HG.out.up (bchain HB.out eB.b))).mono ?_
                     rintro e vN ⟨gH, rfl, hH, hb⟩
                     try dsimp only
                     refine hK.out _ _ (eB.up hb) (fun _ => ?_)
                     clear hK K
                     refine wpAnyH_relist #[true, true, true, true, true, true, true, true, true, true, false, true, false, false] (by kernel_rfl) ?_
                     try simp only [Act.put, List.setIfInBounds_toArray, List.set_cons_zero, List.set_cons_succ, List.getElem_toArray, List.getElem_cons_zero, List.getElem_cons_succ]
                     exact Jc11110100 vN gE gF gK gH pq ⟨(eB.up hb), (zq.up hb), hE, hF, hK1, hH⟩
                    ·have zN := eB.new 38 12
                     have eN := eB.up (balloc v (.cells (wds 12 z0).toArray 38))
                     have lzq := zq.bl.size
                     have zqN := zq.up (balloc v (.cells (wds 12 z0).toArray 38))
                     go_simp
                     refine hK.out _ _ eN (fun _ => ?_)
                     clear hK K
                     generalize v.alloc (.cells (wds 12 z0).toArray 38) = vN at eN zN zqN ⊢
                     generalize v.heap.size = pp at zN lzq ⊢
                     refine wpAnyH_relist #[true, true, true, true, true, true, true, true, true, false, true, true, false, false] (by kernel_rfl) ?_
                     try simp only [Act.put, List.setIfInBounds_toArray, List.set_cons_zero, List.set_cons_succ, List.getElem_toArray, List.getElem_cons_zero, List.getElem_cons_succ]
                     exact Jc11101100 vN gE gF gK pp pq ⟨eN, zN, zqN, (by omega), hE, hF, hK1⟩
                  ·intro v gE gF pp pq hJ
                   obtain ⟨eB, zp, zq, npq, hE, hF⟩ := hJ
                   refine wpAnyH_ready (rs := [8]) (by kernel_rfl) (by simp) ?_
                   refine (AllReadyH.cons rfl (fun K hK => ?_) AllReadyH.nil)
                   go_simp
                   go_at_call 14
                   with_reducible refine (apply_c f1 gv _ _ v HM1.out HV.out (HG.out.up (bchain HB.out eB.b))).mono ?_
                   rintro e vN ⟨gK, rfl, hK1, hb⟩
                   try dsimp only
                   refine hK.out _ _ (eB.up hb) (fun _ => ?_)
                   clear hK K
                   refine wpAnyH_relist #[true, true, true, true, true, true, true, true, true, false, true, true, false, false] (by kernel_rfl) ?_
                   try simp only [Act.put, List.setIfInBounds_toArray, List.set_cons_zero, List.set_cons_succ, List.getElem_toArray, List.getElem_cons_zero, List.getElem_cons_succ]
                   exact Jc11101100 vN gE gF gK pp pq ⟨(eB.up hb), (zp.up hb), (zq.up hb), npq, hE, hF, hK1⟩
                 ·intro v gE gF gK gH pp hJ
                  obtain ⟨eB, zp, hE, hF, hK1, hH⟩ := hJ
                  refine wpAnyH_ready (rs := [11]) (by kernel_rfl) (by simp) ?_
                  refine (AllReadyH.cons rfl (fun K hK => ?_) AllReadyH.nil)
                  have zN := eB.new 38 12
                  have eN := eB.up (balloc v (.cells (wds 12 z0).toArray 38))
                  have lzp := zp.bl.size
                  have zpN := zp.up (balloc v (.cells (wds 12 z0).toArray 38))
                  go_simp
                  refine hK.out _ _ eN (fun _ => ?_)
                  clear hK K
                  generalize v.alloc (.cells (wds 12 z0).toArray 38) = vN at eN zN zpN ⊢
                  generalize v.heap.size = pq at zN lzp ⊢
                  refine wpAnyH_relist #[true, true, true, true, true, true, true, true, true, true, true, true, false, false] (by kernel_rfl) ?_
                  try simp only [Act.put, List.setIfInBounds_toArray, List.set_cons_zero, List.set_cons_succ, List.getElem_toArray, List.getElem_cons_zero, List.getElem_cons_succ]
                  exact Jc11111100 vN gE gF gK gH pp pq ⟨eN, zpN, zN, (by omega), hE, hF, hK1, hH⟩
                ·intro v gE gF gK gH pq hJ
                 obtain ⟨eB, zq, hE, hF, hK1, hH⟩ := hJ
                 refine wpAnyH_ready (rs := [10]) (by kernel_rfl) (by simp) ?_
                 refine (AllReadyH.cons rfl (fun K hK => ?_) AllReadyH.nil)
                 have zN := eB.new 38 12
                 have eN := eB.up (balloc v (.cells (wds 12 z0).toArray 38))
                 have lzq := zq.bl.size
                 have zqN := zq.up (balloc v (.cells (wds 12 z0).toArray 38))
                 go_simp
                 refine hK.out _ _ eN (fun _ => ?_)
                 clear hK K
                 generalize v.alloc (.cells (wds 12 z0).toArray 38) = vN at eN zN zqN ⊢
                 generalize v.heap.size = pp at zN lzq ⊢
                 refine wpAnyH_relist #[true, true, true, true, true, true, true, true, true, true, true, true, false, false] (by kernel_rfl) ?_
                 try simp only [Act.put, List.setIfInBounds_toArray, List.set_cons_zero, List.set_cons_succ, List.getElem_toArray, List.getElem_cons_zero, List.getElem_cons_succ]
                 exact Jc11111100 vN gE gF gK gH pp pq ⟨eN, zN, zqN, (by omega), hE, hF, hK1, hH⟩
               ·intro v gE gF gK pp pq hJ
                obtain ⟨eB, zp, zq, npq, hE, hF, hK1⟩ := hJ
                refine wpAnyH_ready (rs := [9]) (by kernel_rfl) (by simp) ?_
                refine (AllReadyH.cons rfl (fun K hK => ?_) AllReadyH.nil)
                go_simp
                go_at_call 14
                with_reducible refine (apply_c f0 gK _ _ v HM0.out hK1 (HG.out.up (bchain HB.out eB.b))).mono ?_
                rintro e vN ⟨gH, rfl, hH, hb⟩
                try dsimp only
                refine hK.out _ _ (eB.up hb) (fun _ => ?_)
                clear hK K
                refine wpAnyH_relist #[true, true, true, true, true, true, true, true, true, true, true, true, false, false] (by kernel_rfl) ?_
                try simp only [Act.put, List.setIfInBounds_toArray, List.set_cons_zero, List.set_cons_succ, List.getElem_toArray, List.getElem_cons_zero, List.getElem_cons_succ]
                exact Jc11111100 vN gE gF gK gH pp pq ⟨(eB.up hb), (zp.up hb), (zq.up hb), npq, hE, hF, hK1, hH⟩
              ·intro v gE gF gK gH pp pq hJ
               obtain ⟨eB, zp, zq, npq, hE, hF, hK1, hH⟩ := hJ
               refine wpAnyH_ready (rs := [12]) (by kernel_rfl) (by simp) ?_
               refine (AllReadyH.cons rfl (fun K hK => ?_) AllReadyH.nil)
               refine ready_go (by rfl) ?_
               refine wp_store_mid 38 (.tmp 16) (.tmp 70) rfl pp 0 (wds 12 gF).toArray rfl rfl zp.there (sizeVA _) (wds_all _ _) ?_
               have eN := eB.put zp.le (wds 12 gF)
               have zN := zp.lay gF
               have zqN := zq.put zp.le (by omega) (wds 12 gF)
               refine hK.out _ _ eN (fun _ => ?_)
               clear hK K
               try change wpAnyH _ _ _ _ _ _ _ (World.setCells v pp 0 (wds 12 gF))
               generalize World.setCells v pp 0 (wds 12 gF) = vN at eN zN zqN ⊢
               refine wpAnyH_relist #[true, true, true, true, true, true, true, true, true, true, true, true, true, false] (by kernel_rfl) ?_
               try simp only [Act.put, List.setIfInBounds_toArray, List.set_cons_zero, List.set_cons_succ, List.getElem_toArray, List.getElem_cons_zero, List.getElem_cons_succ]
               exact Jc11111110 vN gE gF gK gH pp pq ⟨eN, zN, zqN, npq, hE, hF, hK1, hH⟩
             ·intro v gE gF gK gH pp pq hJ
              obtain ⟨eB, zp, zq, npq, hE, hF, hK1, hH⟩ := hJ
              refine wpAnyH_ready (rs := [13]) (by kernel_rfl) (by simp) ?_
              refine (AllReadyH.cons rfl (fun K hK => ?_) AllReadyH.nil)
              refine ready_go (by rfl) ?_
              refine wp_store_mid 38 (.tmp 17) (.tmp 75) rfl pq 0 (wds 12 gH).toArray rfl rfl zq.there (sizeVA _) (wds_all _ _) ?_
              have eN := eB.put zq.le (wds 12 gH)
              have zN := zq.lay gH
              have zpN := zp.put zq.le (by omega) (wds 12 gH)
              refine hK.out _ _ eN (fun _ => ?_)
              clear hK K
              try change wpAnyH _ _ _ _ _ _ _ (World.setCells v pq 0 (wds 12 gH))
              generalize World.setCells v pq 0 (wds 12 gH) = vN at eN zN zpN ⊢
              refine wpAnyH_relist #[true, true, true, true, true, true, true, true, true, true, true, true, true, true] (by kernel_rfl) ?_
              try simp only [Act.put, List.setIfInBounds_toArray, List.set_cons_zero, List.set_cons_succ, List.getElem_toArray, List.getElem_cons_zero, List.getElem_cons_succ]
              exact Jc11111111 vN gE gF gK gH pp pq ⟨eN, zpN, zN, npq, hE, hF, hK1, hH⟩
            ·intro v gE gF gK gH pp pq hJ
             obtain ⟨eB, zp, zq, npq, hE, hF, hK1, hH⟩ := hJ
             refine wpAnyH_done (by kernel_rfl) ?_ _
             go_wp2_with fail
             go_meet
             exact ⟨_, _, gF, gH, rfl, rfl, zp.bl, zq.bl, hF, hH, eB.b⟩
          case rest =>
            obtain ⟨bp, bq, gF, gH, rfl, rfl, hp, hq, hF, hH, hb⟩ := hcut
            have HPV := hid hp
            have HQV := hid hq
            have HFZ := hid hF
            have HHZ := hid hH
            clear hp hq hF hH
            have HY0' := hid (HY0.out.up hb)
            clear HY0
            have HY0 := HY0'
            clear HY0'
            have HY1' := hid (HY1.out.up hb)
            clear HY1
            have HY1 := HY1'
            clear HY1'
            have HY2' := hid (HY2.out.up hb)
            clear HY2
            have HY2 := HY2'
            clear HY2'
            have HYv' := hid (HYv.out.up hb)
            clear HYv
            have HYv := HYv'
            clear HYv'
            have HPX' := hid (HPX.out.up hb)
            clear HPX
            have HPX := HPX'
            clear HPX'
            have HQY' := hid (HQY.out.up hb)
            clear HQY
            have HQY := HQY'
            clear HQY'
            have HB' := hid (bchain HB.out hb)
            clear HB
            have HB := HB'
            clear HB' hb
            obtain ⟨w9, hw9⟩ : ∃ v, v = wc := ⟨_, rfl⟩
            rw [← hw9] at HPX HQY HPV HQV HY0 HY1 HY2 HYv HB ⊢
            clear hw9
            go_wp2_with fail
            try simp only [Act.put]
            go_cut [18] (fun s wx => ∃ (p : Nat) (g : Nat → Int), s = .pointer (some ⟨p, 0, none⟩) ∧ BlkV wx p 40 (wds 36 g) ∧ MatZ g (mzMul (nums l0) mzUnit) ∧ Below w9.heap.size w9 wx)
            case first =>
              have hlf0 := wds_len 36 f0
              have e0 := EL.up (⟨HY0.out, HY1.out, HY2.out, HYv.out, Below.refl _ _, HY0.out.size, HY1.out.size, HY2.out.size, HYv.out.size⟩ : EL p0 p1 p2 pv f0 f1 f2 gv w9 w9) (Below.refl _ _).drew
              clear HYv HY0 HY1 HY2 HPX HQY HBZ HDZ HPV HQV HFZ HHZ
              generalize hvd : w9.drew = wd0 at *
              refine wp_region_held_drew (S := EL p0 p1 p2 pv f0 f1 f2 gv w9) (by kernel_rfl) (by rw [hvd]; exact e0) (fun hHeld => ?_)
              rw [hvd] at hHeld ⊢
              refine wpAnyH_take (i := 0) (v := .agg (wds 36 f0).toArray) rfl (by kernel_rfl) (by kernel_rfl) (by kernel_rfl) (fun _ _ _ h => h) (yieldsIf_load_mid (by rfl) 40 (.tmp 7) rfl (p0) (0) rfl (wds 36 f0) _ (fun v hv => hv.m.range) Tryd.underlying40 rfl (sizeM _)) (by with_reducible assumption) ?_
              simp only [Act.put, List.setIfInBounds_toArray, List.set_cons_zero, List.set_cons_succ, List.getElem_toArray, List.getElem_cons_zero, List.getElem_cons_succ]
              refine wpAnyH_ready (rs := [1, 3]) (by kernel_rfl) (by simp) ?_
              refine (AllReadyH.cons rfl (fun K hK => ?_) (AllReadyH.cons rfl (fun K hK => ?_) AllReadyH.nil))
              ·go_simp
               go_at_call 15
               with_reducible refine (unit_c wd0 (HG.out.up (bchain HB.out e0.b))).mono ?_
               rintro e wd1 ⟨g1, rfl, h1, hb⟩
               have ed1 := e0.up hb
               refine hK.out _ _ ed1 (fun _ => ?_)
               clear hK K hb
               refine wpAnyH_ready (rs := [2, 3]) (by kernel_rfl) (by simp) ?_
               refine (AllReadyH.cons rfl (fun K hK => ?_) (AllReadyH.cons rfl (fun K hK => ?_) AllReadyH.nil))
               ·go_simp
                go_at_call 13
                with_reducible refine (mxMul_c f0 g1 _ _ wd1 HM0.out h1 (HG.out.up (bchain HB.out ed1.b))).mono ?_
                rintro e wd2 ⟨gU, rfl, hU, hb⟩
                have ed2 := ed1.up hb
                refine hK.out _ _ ed2 (fun _ => ?_)
                clear hK K hb
                refine wpAnyH_ready (rs := [3]) (by kernel_rfl) (by simp) ?_
                refine (AllReadyH.cons rfl (fun K hK => ?_) AllReadyH.nil)
                have zpd3 := ed2.new 40 36
                have ed3 := ed2.up (balloc wd2 (.cells (wds 36 z0).toArray 40))
                go_simp
                refine hK.out _ _ ed3 (fun _ => ?_)
                clear hK K
                generalize wd2.alloc (.cells (wds 36 z0).toArray 40) = wd3 at *
                generalize wd2.heap.size = ppd3 at *
                refine wpAnyH_ready (rs := [4]) (by kernel_rfl) (by simp) ?_
                refine (AllReadyH.cons rfl (fun K hK => ?_) AllReadyH.nil)
                refine ready_go (by rfl) ?_
                refine wp_store_mid 40 (.tmp 18) (.tmp 78) rfl ppd3 0 (wds 36 gU).toArray rfl rfl zpd3.there (sizeMA _) (wds_all _ _) ?_
                have ed4 := ed3.put zpd3.le (wds 36 gU)
                have ypd4 := zpd3.lay gU
                refine hK.out _ _ ed4 (fun _ => ?_)
                clear hK K
                try change wpAnyH _ _ _ _ _ _ _ (World.setCells wd3 ppd3 0 (wds 36 gU))
                generalize World.setCells wd3 ppd3 0 (wds 36 gU) = wd4 at *
                refine wpAnyH_done (by kernel_rfl) ?_ _
                go_wp2_with fail
                go_meet
                exact ⟨_, gU, rfl, ypd4.bl, hU, ed4.b⟩
               ·have zpd5 := ed1.new 40 36
                have ed5 := ed1.up (balloc wd1 (.cells (wds 36 z0).toArray 40))
                go_simp
                refine hK.out _ _ ed5 (fun _ => ?_)
                clear hK K
                generalize wd1.alloc (.cells (wds 36 z0).toArray 40) = wd5 at *
                generalize wd1.heap.size = ppd5 at *
                refine wpAnyH_ready (rs := [2]) (by kernel_rfl) (by simp) ?_
                refine (AllReadyH.cons rfl (fun K hK => ?_) AllReadyH.nil)
                go_simp
                go_at_call 13
                with_reducible refine (mxMul_c f0 g1 _ _ wd5 HM0.out h1 (HG.out.up (bchain HB.out ed5.b))).mono ?_
                rintro e wd6 ⟨gU, rfl, hU, hb⟩
                have ed6 := ed5.up hb
                have zpd6 := zpd5.up hb
                refine hK.out _ _ ed6 (fun _ => ?_)
                clear hK K hb
                refine wpAnyH_ready (rs := [4]) (by kernel_rfl) (by simp) ?_
                refine (AllReadyH.cons rfl (fun K hK => ?_) AllReadyH.nil)
                refine ready_go (by rfl) ?_
                refine wp_store_mid 40 (.tmp 18) (.tmp 78) rfl ppd5 0 (wds 36 gU).toArray rfl rfl zpd6.there (sizeMA _) (wds_all _ _) ?_
                have ed7 := ed6.put zpd6.le (wds 36 gU)
                have ypd7 := zpd6.lay gU
                refine hK.out _ _ ed7 (fun _ => ?_)
                clear hK K
                try change wpAnyH _ _ _ _ _ _ _ (World.setCells wd6 ppd5 0 (wds 36 gU))
                generalize World.setCells wd6 ppd5 0 (wds 36 gU) = wd7 at *
                refine wpAnyH_done (by kernel_rfl) ?_ _
                go_wp2_with fail
                go_meet
                exact ⟨_, gU, rfl, ypd7.bl, hU, ed7.b⟩
              ·have zpd8 := e0.new 40 36
               have ed8 := e0.up (balloc wd0 (.cells (wds 36 z0).toArray 40))
               go_simp
               refine hK.out _ _ ed8 (fun _ => ?_)
               clear hK K
               generalize wd0.alloc (.cells (wds 36 z0).toArray 40) = wd8 at *
               generalize wd0.heap.size = ppd8 at *
               refine wpAnyH_ready (rs := [1]) (by kernel_rfl) (by simp) ?_
               refine (AllReadyH.cons rfl (fun K hK => ?_) AllReadyH.nil)
               go_simp
               go_at_call 15
               with_reducible refine (unit_c wd8 (HG.out.up (bchain HB.out ed8.b))).mono ?_
               rintro e wd9 ⟨g1, rfl, h1, hb⟩
               have ed9 := ed8.up hb
               have zpd9 := zpd8.up hb
               refine hK.out _ _ ed9 (fun _ => ?_)
               clear hK K hb
               refine wpAnyH_ready (rs := [2]) (by kernel_rfl) (by simp) ?_
               refine (AllReadyH.cons rfl (fun K hK => ?_) AllReadyH.nil)
               go_simp
               go_at_call 13
               with_reducible refine (mxMul_c f0 g1 _ _ wd9 HM0.out h1 (HG.out.up (bchain HB.out ed9.b))).mono ?_
               rintro e wd10 ⟨gU, rfl, hU, hb⟩
               have ed10 := ed9.up hb
               have zpd10 := zpd9.up hb
               refine hK.out _ _ ed10 (fun _ => ?_)
               clear hK K hb
               refine wpAnyH_ready (rs := [4]) (by kernel_rfl) (by simp) ?_
               refine (AllReadyH.cons rfl (fun K hK => ?_) AllReadyH.nil)
               refine ready_go (by rfl) ?_
               refine wp_store_mid 40 (.tmp 18) (.tmp 78) rfl ppd8 0 (wds 36 gU).toArray rfl rfl zpd10.there (sizeMA _) (wds_all _ _) ?_
               have ed11 := ed10.put zpd10.le (wds 36 gU)
               have ypd11 := zpd10.lay gU
               refine hK.out _ _ ed11 (fun _ => ?_)
               clear hK K
               try change wpAnyH _ _ _ _ _ _ _ (World.setCells wd10 ppd8 0 (wds 36 gU))
               generalize World.setCells wd10 ppd8 0 (wds 36 gU) = wd11 at *
               refine wpAnyH_done (by kernel_rfl) ?_ _
               go_wp2_with fail
               go_meet
               exact ⟨_, gU, rfl, ypd11.bl, hU, ed11.b⟩
            case rest =>
              obtain ⟨bu, gU, rfl, hp, hU, hb⟩ := hcut
              have HPU := hid hp
              have HUZ := hid hU
              clear hp hU
              have HY0' := hid (HY0.out.up hb)
              clear HY0
              have HY0 := HY0'
              clear HY0'
              have HY1' := hid (HY1.out.up hb)
              clear HY1
              have HY1 := HY1'
              clear HY1'
              have HPX' := hid (HPX.out.up hb)
              clear HPX
              have HPX := HPX'
              clear HPX'
              have HQY' := hid (HQY.out.up hb)
              clear HQY
              have HQY := HQY'
              clear HQY'
              have HPV' := hid (HPV.out.up hb)
              clear HPV
              have HPV := HPV'
              clear HPV'
              have HQV' := hid (HQV.out.up hb)
              clear HQV
              have HQV := HQV'
              clear HQV'
              have HB' := hid (bchain HB.out hb)
              clear HB
              have HB := HB'
              clear HB' hb
              clear HY2 HYv HV
              obtain ⟨wA, hwA⟩ : ∃ v, v = wc := ⟨_, rfl⟩
              rw [← hwA] at HPX HQY HPV HQV HPU HY0 HY1 HB ⊢
              clear hwA
              have hlf0 := wds_len 36 f0
              have hlf1 := wds_len 36 f1
              clear hz hlz hzv hlv HM2 HN0 HN1 HN2
              go_wp2_with fail
              go_loopw [79] (fun i wr => ∃ k : Nat, k ≤ 3 ∧ i = .int .i64 k ∧ Below wA.heap.size wA wr) (fun i _ => 3 - (intOf i).toNat)
              case atStart => exact ⟨0, by omega, rfl, Below.refl _ _⟩
              case round =>
                obtain ⟨k, hk, rfl, hb0⟩ := hrel
                by_cases hlt : k < 3
                · have i0 : (0 : Int) ≤ (k : Int) := by omega
                  have i2 : (k : Int) < 3 := by omega
                  have EA := hid (HFZ.out.el hlt)
                  have EB := hid (HHZ.out.el hlt)
                  have OA : Hid (∀ v, BlkV v bp 38 (wds 12 gF) → v.rangeAt bp (k * 4) (wds 4 fun j => gF (k * 4 + j))) := fun v hv => hv.sub _ 4 (by omega)
                  have OB : Hid (∀ v, BlkV v bq 38 (wds 12 gH) → v.rangeAt bq (k * 4) (wds 4 fun j => gH (k * 4 + j))) := fun v hv => hv.sub _ 4 (by omega)
                  obtain ⟨ga, hga⟩ : ∃ a : Nat → Int, a = fun j => gF (k * 4 + j) := ⟨_, rfl⟩
                  obtain ⟨gb, hgb⟩ : ∃ a : Nat → Int, a = fun j => gH (k * 4 + j) := ⟨_, rfl⟩
                  rw [← hga] at EA OA
                  rw [← hgb] at EB OB
                  have P1 := hid (HPV.out.up hb0)
                  have Q1 := hid (HQV.out.up hb0)
                  have HB0 := hid hb0
                  clear hga hgb hb0
                  go_wp2_with fail
                  have p0' := P1.out.up (Below.refl _ _).drew
                  have q0' := Q1.out.up (Below.refl _ _).drew
                  have b0 := bchain HB0.out (Below.refl _ _).drew
                  refine wp_region_held_drew (S := fun v => BlkV v bp 38 (wds 12 gF) ∧ BlkV v bq 38 (wds 12 gH)) (by kernel_rfl) ⟨p0', q0'⟩ (fun hHeld => ?_)
                  refine wpAnyH_take (i := 0) (v := ?_) rfl (by kernel_rfl) (by kernel_rfl) (by kernel_rfl) (fun _ _ _ h => h) (Or.inl ⟨by rfl, fun v hv => ?_⟩) (by with_reducible assumption) ?_
                  rotate_left
                  · go_simp
                    try with_reducible rfl
                  simp only [Act.put, List.setIfInBounds_toArray, List.set_cons_zero, List.set_cons_succ, List.getElem_toArray, List.getElem_cons_zero, List.getElem_cons_succ]
                  refine wpAnyH_take (i := 1) (v := ?_) rfl (by kernel_rfl) (by kernel_rfl) (by kernel_rfl) (fun _ _ _ h => h) (Or.inl ⟨by rfl, fun v hv => ?_⟩) (by with_reducible assumption) ?_
                  rotate_left
                  · go_simp
                    try with_reducible rfl
                  simp only [Act.put, List.setIfInBounds_toArray, List.set_cons_zero, List.set_cons_succ, List.getElem_toArray, List.getElem_cons_zero, List.getElem_cons_succ]
                  refine wpAnyH_take (i := 2) (v := .agg (wds 4 ga).toArray) rfl (by kernel_rfl) (by kernel_rfl) (by kernel_rfl) (fun _ _ _ h => h) (yieldsIf_load_mid (by rfl) 27 (.tmp 83) rfl (bp) (k * 4) rfl (wds 4 ga) _ (fun v hv => OA.out v hv.1) Tryd.underlying27 rfl (sizeE _)) (by with_reducible assumption) ?_
                  simp only [Act.put, List.setIfInBounds_toArray, List.set_cons_zero, List.set_cons_succ, List.getElem_toArray, List.getElem_cons_zero, List.getElem_cons_succ]
                  refine wpAnyH_take (i := 3) (v := ?_) rfl (by kernel_rfl) (by kernel_rfl) (by kernel_rfl) (fun _ _ _ h => h) (Or.inl ⟨by rfl, fun v hv => ?_⟩) (by with_reducible assumption) ?_
                  rotate_left
                  · go_simp
                    try with_reducible rfl
                  simp only [Act.put, List.setIfInBounds_toArray, List.set_cons_zero, List.set_cons_succ, List.getElem_toArray, List.getElem_cons_zero, List.getElem_cons_succ]
                  refine wpAnyH_take (i := 4) (v := ?_) rfl (by kernel_rfl) (by kernel_rfl) (by kernel_rfl) (fun _ _ _ h => h) (Or.inl ⟨by rfl, fun v hv => ?_⟩) (by with_reducible assumption) ?_
                  rotate_left
                  · go_simp
                    try with_reducible rfl
                  simp only [Act.put, List.setIfInBounds_toArray, List.set_cons_zero, List.set_cons_succ, List.getElem_toArray, List.getElem_cons_zero, List.getElem_cons_succ]
                  refine wpAnyH_take (i := 5) (v := .agg (wds 4 gb).toArray) rfl (by kernel_rfl) (by kernel_rfl) (by kernel_rfl) (fun _ _ _ h => h) (yieldsIf_load_mid (by rfl) 27 (.tmp 86) rfl (bq) (k * 4) rfl (wds 4 gb) _ (fun v hv => OB.out v hv.2) Tryd.underlying27 rfl (sizeE _)) (by with_reducible assumption) ?_
                  simp only [Act.put, List.setIfInBounds_toArray, List.set_cons_zero, List.set_cons_succ, List.getElem_toArray, List.getElem_cons_zero, List.getElem_cons_succ]
                  refine wpAnyH_ready (rs := [6]) (by kernel_rfl) (by simp) ?_
                  refine (AllReadyH.cons rfl (fun K hK => ?_) AllReadyH.nil)
                  go_simp
                  go_at_call 8
                  with_reducible refine (equal_t _ _ _ _ wr.drew EA.out EB.out (by rw [mzApply_mul])).mono ?_
                  rintro e we1 ⟨rfl, hbe1⟩
                  have p_e1 := (p0').up hbe1
                  have q_e1 := (q0').up hbe1
                  have b_e1 := bchain b0 hbe1
                  try dsimp only
                  refine hK.out _ _ (⟨p_e1, q_e1⟩) (fun hHeld => ?_)
                  clear hK K
                  try simp only [Act.put, List.setIfInBounds_toArray, List.set_cons_zero, List.set_cons_succ, List.getElem_toArray, List.getElem_cons_zero, List.getElem_cons_succ]
                  refine wpAnyH_take (i := 7) (v := ?_) rfl (by kernel_rfl) (by kernel_rfl) (by kernel_rfl) (fun _ _ _ h => h) (Or.inl ⟨by rfl, fun v hv => ?_⟩) (by with_reducible assumption) ?_
                  rotate_left
                  · go_simp
                    try with_reducible rfl
                  simp only [Act.put, List.setIfInBounds_toArray, List.set_cons_zero, List.set_cons_succ, List.getElem_toArray, List.getElem_cons_zero, List.getElem_cons_succ]
                  refine wpAnyH_done (by kernel_rfl) ?_ _
                  have HBN := hid (b_e1)
                  clear p0' q0' b0
                  obtain ⟨wB, hwB⟩ : ∃ x, x = we1 := ⟨_, rfl⟩
                  rw [← hwB] at HBN ⊢
                  clear hwB EA EB OA OB P1 Q1 HB0
                  go_wp2_with fail
                  go_loopw [90] (fun i wr => ∃ m : Nat, m ≤ 3 ∧ i = .int .i64 m ∧ Below wA.heap.size wA wr) (fun i _ => 3 - (intOf i).toNat)
                  case atStart => exact ⟨0, by omega, rfl, HBN.out⟩
                  case round =>
                    clear HBN
                    obtain ⟨m, hm, rfl, hb0⟩ := hrel
                    by_cases hltm : m < 3
                    · have j0 : (0 : Int) ≤ (m : Int) := by omega
                      have j2 : (m : Int) < 3 := by omega
                      have EA := hid (HBZ.out.el hlt hltm)
                      have OA : Hid (∀ v, BlkV v bx 40 (wds 36 gB) → v.rangeAt bx (k * 12 + m * 4) (wds 4 fun j => gB (k * 12 + m * 4 + j))) := fun v hv => hv.sub _ 4 (by omega)
                      obtain ⟨gAa, hgA⟩ : ∃ a : Nat → Int, a = fun j => gB (k * 12 + m * 4 + j) := ⟨_, rfl⟩
                      rw [← hgA] at EA OA
                      have EB := hid (HDZ.out.el hlt hltm)
                      have OB : Hid (∀ v, BlkV v b_y 40 (wds 36 gD) → v.rangeAt b_y (k * 12 + m * 4) (wds 4 fun j => gD (k * 12 + m * 4 + j))) := fun v hv => hv.sub _ 4 (by omega)
                      obtain ⟨gBb, hgB⟩ : ∃ a : Nat → Int, a = fun j => gD (k * 12 + m * 4 + j) := ⟨_, rfl⟩
                      rw [← hgB] at EB OB
                      have EC := hid (HUZ.out.el hlt hltm)
                      have OC : Hid (∀ v, BlkV v bu 40 (wds 36 gU) → v.rangeAt bu (k * 12 + m * 4) (wds 4 fun j => gU (k * 12 + m * 4 + j))) := fun v hv => hv.sub _ 4 (by omega)
                      obtain ⟨gCc, hgC⟩ : ∃ a : Nat → Int, a = fun j => gU (k * 12 + m * 4 + j) := ⟨_, rfl⟩
                      rw [← hgC] at EC OC
                      have ED := hid (HM0.out.el hlt hltm)
                      have OD : Hid (∀ v, BlkV v p0 40 (wds 36 f0) → v.rangeAt p0 (k * 12 + m * 4) (wds 4 fun j => f0 (k * 12 + m * 4 + j))) := fun v hv => hv.sub _ 4 (by omega)
                      obtain ⟨gDd, hgD⟩ : ∃ a : Nat → Int, a = fun j => f0 (k * 12 + m * 4 + j) := ⟨_, rfl⟩
                      rw [← hgD] at ED OD
                      have X1 := hid (HPX.out.up hb0)
                      have Y1 := hid (HQY.out.up hb0)
                      have U1 := hid (HPU.out.up hb0)
                      have M1 := hid (HY0.out.up hb0)
                      have HB0 := hid hb0
                      clear hgA hgB hgC hgD hb0
                      go_wp2_with fail
                      have x0 := X1.out.up (Below.refl _ _).drew
                      have y0 := Y1.out.up (Below.refl _ _).drew
                      have u0 := U1.out.up (Below.refl _ _).drew
                      have m0 := M1.out.up (Below.refl _ _).drew
                      have b0 := bchain HB0.out (Below.refl _ _).drew
                      refine wp_region_held_drew (S := fun v => BlkV v bx 40 (wds 36 gB) ∧ BlkV v b_y 40 (wds 36 gD) ∧ BlkV v bu 40 (wds 36 gU) ∧ BlkV v p0 40 (wds 36 f0)) (by kernel_rfl) ⟨x0, y0, u0, m0⟩ (fun hHeld => ?_)
                      refine wpAnyH_take (i := 0) (v := ?_) rfl (by kernel_rfl) (by kernel_rfl) (by kernel_rfl) (fun _ _ _ h => h) (Or.inl ⟨by rfl, fun v hv => ?_⟩) (by with_reducible assumption) ?_
                      rotate_left
                      · go_simp
                        try with_reducible rfl
                      simp only [Act.put, List.setIfInBounds_toArray, List.set_cons_zero, List.set_cons_succ, List.getElem_toArray, List.getElem_cons_zero, List.getElem_cons_succ]
                      refine wpAnyH_take (i := 1) (v := ?_) rfl (by kernel_rfl) (by kernel_rfl) (by kernel_rfl) (fun _ _ _ h => h) (Or.inl ⟨by rfl, fun v hv => ?_⟩) (by with_reducible assumption) ?_
                      rotate_left
                      · go_simp
                        try with_reducible rfl
                      simp only [Act.put, List.setIfInBounds_toArray, List.set_cons_zero, List.set_cons_succ, List.getElem_toArray, List.getElem_cons_zero, List.getElem_cons_succ]
                      refine wpAnyH_take (i := 2) (v := ?_) rfl (by kernel_rfl) (by kernel_rfl) (by kernel_rfl) (fun _ _ _ h => h) (Or.inl ⟨by rfl, fun v hv => ?_⟩) (by with_reducible assumption) ?_
                      rotate_left
                      · go_simp
                        try with_reducible rfl
                      simp only [Act.put, List.setIfInBounds_toArray, List.set_cons_zero, List.set_cons_succ, List.getElem_toArray, List.getElem_cons_zero, List.getElem_cons_succ]
                      refine wpAnyH_take (i := 3) (v := ?_) rfl (by kernel_rfl) (by kernel_rfl) (by kernel_rfl) (fun _ _ _ h => h) (Or.inl ⟨by rfl, fun v hv => ?_⟩) (by with_reducible assumption) ?_
                      rotate_left
                      · go_simp
                        try with_reducible rfl
                      simp only [Act.put, List.setIfInBounds_toArray, List.set_cons_zero, List.set_cons_succ, List.getElem_toArray, List.getElem_cons_zero, List.getElem_cons_succ]
                      refine wpAnyH_take (i := 4) (v := .agg (wds 4 gAa).toArray) rfl (by kernel_rfl) (by kernel_rfl) (by kernel_rfl) (fun _ _ _ h => h) (yieldsIf_load_mid (by rfl) 27 (.tmp 96) rfl (bx) (k * 12 + m * 4) rfl (wds 4 gAa) _ (fun v hv => OA.out v hv.1) Tryd.underlying27 rfl (sizeE _)) (by with_reducible assumption) ?_
                      simp only [Act.put, List.setIfInBounds_toArray, List.set_cons_zero, List.set_cons_succ, List.getElem_toArray, List.getElem_cons_zero, List.getElem_cons_succ]
                      refine wpAnyH_take (i := 5) (v := ?_) rfl (by kernel_rfl) (by kernel_rfl) (by kernel_rfl) (fun _ _ _ h => h) (Or.inl ⟨by rfl, fun v hv => ?_⟩) (by with_reducible assumption) ?_
                      rotate_left
                      · go_simp
                        try with_reducible rfl
                      simp only [Act.put, List.setIfInBounds_toArray, List.set_cons_zero, List.set_cons_succ, List.getElem_toArray, List.getElem_cons_zero, List.getElem_cons_succ]
                      refine wpAnyH_take (i := 6) (v := ?_) rfl (by kernel_rfl) (by kernel_rfl) (by kernel_rfl) (fun _ _ _ h => h) (Or.inl ⟨by rfl, fun v hv => ?_⟩) (by with_reducible assumption) ?_
                      rotate_left
                      · go_simp
                        try with_reducible rfl
                      simp only [Act.put, List.setIfInBounds_toArray, List.set_cons_zero, List.set_cons_succ, List.getElem_toArray, List.getElem_cons_zero, List.getElem_cons_succ]
                      refine wpAnyH_take (i := 7) (v := ?_) rfl (by kernel_rfl) (by kernel_rfl) (by kernel_rfl) (fun _ _ _ h => h) (Or.inl ⟨by rfl, fun v hv => ?_⟩) (by with_reducible assumption) ?_
                      rotate_left
                      · go_simp
                        try with_reducible rfl
                      simp only [Act.put, List.setIfInBounds_toArray, List.set_cons_zero, List.set_cons_succ, List.getElem_toArray, List.getElem_cons_zero, List.getElem_cons_succ]
                      refine wpAnyH_take (i := 8) (v := ?_) rfl (by kernel_rfl) (by kernel_rfl) (by kernel_rfl) (fun _ _ _ h => h) (Or.inl ⟨by rfl, fun v hv => ?_⟩) (by with_reducible assumption) ?_
                      rotate_left
                      · go_simp
                        try with_reducible rfl
                      simp only [Act.put, List.setIfInBounds_toArray, List.set_cons_zero, List.set_cons_succ, List.getElem_toArray, List.getElem_cons_zero, List.getElem_cons_succ]
                      refine wpAnyH_take (i := 9) (v := .agg (wds 4 gBb).toArray) rfl (by kernel_rfl) (by kernel_rfl) (by kernel_rfl) (fun _ _ _ h => h) (yieldsIf_load_mid (by rfl) 27 (.tmp 101) rfl (b_y) (k * 12 + m * 4) rfl (wds 4 gBb) _ (fun v hv => OB.out v hv.2.1) Tryd.underlying27 rfl (sizeE _)) (by with_reducible assumption) ?_
                      simp only [Act.put, List.setIfInBounds_toArray, List.set_cons_zero, List.set_cons_succ, List.getElem_toArray, List.getElem_cons_zero, List.getElem_cons_succ]
                      refine wpAnyH_ready (rs := [10]) (by kernel_rfl) (by simp) ?_
                      refine (AllReadyH.cons rfl (fun K hK => ?_) AllReadyH.nil)
                      go_simp
                      go_at_call 8
                      with_reducible refine (equal_t _ _ _ _ wr.drew EA.out EB.out (by rw [mzMul_assoc])).mono ?_
                      rintro e wf1 ⟨rfl, hbf1⟩
                      have x_f1 := (x0).up hbf1
                      have y_f1 := (y0).up hbf1
                      have u_f1 := (u0).up hbf1
                      have m_f1 := (m0).up hbf1
                      have b_f1 := bchain b0 hbf1
                      try dsimp only
                      refine hK.out _ _ (⟨x_f1, y_f1, u_f1, m_f1⟩) (fun hHeld => ?_)
                      clear hK K
                      try simp only [Act.put, List.setIfInBounds_toArray, List.set_cons_zero, List.set_cons_succ, List.getElem_toArray, List.getElem_cons_zero, List.getElem_cons_succ]
                      refine wpAnyH_take (i := 11) (v := ?_) rfl (by kernel_rfl) (by kernel_rfl) (by kernel_rfl) (fun _ _ _ h => h) (Or.inl ⟨by rfl, fun v hv => ?_⟩) (by with_reducible assumption) ?_
                      rotate_left
                      · go_simp
                        try with_reducible rfl
                      simp only [Act.put, List.setIfInBounds_toArray, List.set_cons_zero, List.set_cons_succ, List.getElem_toArray, List.getElem_cons_zero, List.getElem_cons_succ]
                      refine wpAnyH_take (i := 12) (v := ?_) rfl (by kernel_rfl) (by kernel_rfl) (by kernel_rfl) (fun _ _ _ h => h) (Or.inl ⟨by rfl, fun v hv => ?_⟩) (by with_reducible assumption) ?_
                      rotate_left
                      · go_simp
                        try with_reducible rfl
                      simp only [Act.put, List.setIfInBounds_toArray, List.set_cons_zero, List.set_cons_succ, List.getElem_toArray, List.getElem_cons_zero, List.getElem_cons_succ]
                      refine wpAnyH_take (i := 13) (v := ?_) rfl (by kernel_rfl) (by kernel_rfl) (by kernel_rfl) (fun _ _ _ h => h) (Or.inl ⟨by rfl, fun v hv => ?_⟩) (by with_reducible assumption) ?_
                      rotate_left
                      · go_simp
                        try with_reducible rfl
                      simp only [Act.put, List.setIfInBounds_toArray, List.set_cons_zero, List.set_cons_succ, List.getElem_toArray, List.getElem_cons_zero, List.getElem_cons_succ]
                      refine wpAnyH_take (i := 14) (v := ?_) rfl (by kernel_rfl) (by kernel_rfl) (by kernel_rfl) (fun _ _ _ h => h) (Or.inl ⟨by rfl, fun v hv => ?_⟩) (by with_reducible assumption) ?_
                      rotate_left
                      · go_simp
                        try with_reducible rfl
                      simp only [Act.put, List.setIfInBounds_toArray, List.set_cons_zero, List.set_cons_succ, List.getElem_toArray, List.getElem_cons_zero, List.getElem_cons_succ]
                      refine wpAnyH_take (i := 15) (v := ?_) rfl (by kernel_rfl) (by kernel_rfl) (by kernel_rfl) (fun _ _ _ h => h) (Or.inl ⟨by rfl, fun v hv => ?_⟩) (by with_reducible assumption) ?_
                      rotate_left
                      · go_simp
                        try with_reducible rfl
                      simp only [Act.put, List.setIfInBounds_toArray, List.set_cons_zero, List.set_cons_succ, List.getElem_toArray, List.getElem_cons_zero, List.getElem_cons_succ]
                      refine wpAnyH_take (i := 16) (v := ?_) rfl (by kernel_rfl) (by kernel_rfl) (by kernel_rfl) (fun _ _ _ h => h) (Or.inl ⟨by rfl, fun v hv => ?_⟩) (by with_reducible assumption) ?_
                      rotate_left
                      · go_simp
                        try with_reducible rfl
                      simp only [Act.put, List.setIfInBounds_toArray, List.set_cons_zero, List.set_cons_succ, List.getElem_toArray, List.getElem_cons_zero, List.getElem_cons_succ]
                      refine wpAnyH_take (i := 17) (v := .agg (wds 4 gCc).toArray) rfl (by kernel_rfl) (by kernel_rfl) (by kernel_rfl) (fun _ _ _ h => h) (yieldsIf_load_mid (by rfl) 27 (.tmp 109) rfl (bu) (k * 12 + m * 4) rfl (wds 4 gCc) _ (fun v hv => OC.out v hv.2.2.1) Tryd.underlying27 rfl (sizeE _)) (by with_reducible assumption) ?_
                      simp only [Act.put, List.setIfInBounds_toArray, List.set_cons_zero, List.set_cons_succ, List.getElem_toArray, List.getElem_cons_zero, List.getElem_cons_succ]
                      refine wpAnyH_take (i := 18) (v := ?_) rfl (by kernel_rfl) (by kernel_rfl) (by kernel_rfl) (fun _ _ _ h => h) (Or.inl ⟨by rfl, fun v hv => ?_⟩) (by with_reducible assumption) ?_
                      rotate_left
                      · go_simp
                        try with_reducible rfl
                      simp only [Act.put, List.setIfInBounds_toArray, List.set_cons_zero, List.set_cons_succ, List.getElem_toArray, List.getElem_cons_zero, List.getElem_cons_succ]
                      refine wpAnyH_take (i := 19) (v := ?_) rfl (by kernel_rfl) (by kernel_rfl) (by kernel_rfl) (fun _ _ _ h => h) (Or.inl ⟨by rfl, fun v hv => ?_⟩) (by with_reducible assumption) ?_
                      rotate_left
                      · go_simp
                        try with_reducible rfl
                      simp only [Act.put, List.setIfInBounds_toArray, List.set_cons_zero, List.set_cons_succ, List.getElem_toArray, List.getElem_cons_zero, List.getElem_cons_succ]
                      refine wpAnyH_take (i := 20) (v := ?_) rfl (by kernel_rfl) (by kernel_rfl) (by kernel_rfl) (fun _ _ _ h => h) (Or.inl ⟨by rfl, fun v hv => ?_⟩) (by with_reducible assumption) ?_
                      rotate_left
                      · go_simp
                        try with_reducible rfl
                      simp only [Act.put, List.setIfInBounds_toArray, List.set_cons_zero, List.set_cons_succ, List.getElem_toArray, List.getElem_cons_zero, List.getElem_cons_succ]
                      refine wpAnyH_take (i := 21) (v := ?_) rfl (by kernel_rfl) (by kernel_rfl) (by kernel_rfl) (fun _ _ _ h => h) (Or.inl ⟨by rfl, fun v hv => ?_⟩) (by with_reducible assumption) ?_
                      rotate_left
                      · go_simp
                        try with_reducible rfl
                      simp only [Act.put, List.setIfInBounds_toArray, List.set_cons_zero, List.set_cons_succ, List.getElem_toArray, List.getElem_cons_zero, List.getElem_cons_succ]
                      refine wpAnyH_take (i := 22) (v := .agg (wds 4 gDd).toArray) rfl (by kernel_rfl) (by kernel_rfl) (by kernel_rfl) (fun _ _ _ h => h) (yieldsIf_load_mid (by rfl) 27 (.tmp 114) rfl (p0) (k * 12 + m * 4) rfl (wds 4 gDd) _ (fun v hv => OD.out v hv.2.2.2) Tryd.underlying27 rfl (sizeE _)) (by with_reducible assumption) ?_
                      simp only [Act.put, List.setIfInBounds_toArray, List.set_cons_zero, List.set_cons_succ, List.getElem_toArray, List.getElem_cons_zero, List.getElem_cons_succ]
                      refine wpAnyH_ready (rs := [23]) (by kernel_rfl) (by simp) ?_
                      refine (AllReadyH.cons rfl (fun K hK => ?_) AllReadyH.nil)
                      go_simp
                      go_at_call 8
                      with_reducible refine (equal_t _ _ _ _ wf1 EC.out ED.out (unit_cong _ hltm)).mono ?_
                      rintro e wf2 ⟨rfl, hbf2⟩
                      have x_f2 := (x_f1).up hbf2
                      have y_f2 := (y_f1).up hbf2
                      have u_f2 := (u_f1).up hbf2
                      have m_f2 := (m_f1).up hbf2
                      have b_f2 := bchain b_f1 hbf2
                      try dsimp only
                      refine hK.out _ _ (⟨x_f2, y_f2, u_f2, m_f2⟩) (fun hHeld => ?_)
                      clear hK K
                      try simp only [Act.put, List.setIfInBounds_toArray, List.set_cons_zero, List.set_cons_succ, List.getElem_toArray, List.getElem_cons_zero, List.getElem_cons_succ]
                      refine wpAnyH_take (i := 24) (v := ?_) rfl (by kernel_rfl) (by kernel_rfl) (by kernel_rfl) (fun _ _ _ h => h) (Or.inl ⟨by rfl, fun v hv => ?_⟩) (by with_reducible assumption) ?_
                      rotate_left
                      · go_simp
                        try with_reducible rfl
                      simp only [Act.put, List.setIfInBounds_toArray, List.set_cons_zero, List.set_cons_succ, List.getElem_toArray, List.getElem_cons_zero, List.getElem_cons_succ]
                      refine wpAnyH_take (i := 25) (v := ?_) rfl (by kernel_rfl) (by kernel_rfl) (by kernel_rfl) (fun _ _ _ h => h) (Or.inl ⟨by rfl, fun v hv => ?_⟩) (by with_reducible assumption) ?_
                      rotate_left
                      · go_simp
                        try with_reducible rfl
                      simp only [Act.put, List.setIfInBounds_toArray, List.set_cons_zero, List.set_cons_succ, List.getElem_toArray, List.getElem_cons_zero, List.getElem_cons_succ]
                      refine wpAnyH_done (by kernel_rfl) ?_ _
                      go_wp2_with fail
                      go_roundw
                      case rel => exact ⟨m + 1, by omega, by go_num, b_f2⟩
                      case measure => simp [intOf]; omega
                    · obtain rfl : m = 3 := by omega
                      have HB0 := hid hb0
                      clear hb0
                      go_wp2_with fail
                      go_roundw
                      case rel => exact ⟨k + 1, by omega, by go_num, HB0.out⟩
                      case measure => simp [intOf]; omega
                · obtain rfl : k = 3 := by omega
                  have M1 := hid (HY0.out.up hb0)
                  have N1 := hid (HY1.out.up hb0)
                  have HB0 := hid (bchain HB.out hb0)
                  clear hb0 HPX HQY HBZ HDZ HPV HQV HFZ HHZ HPU HUZ HY0 HY1 HB
                  go_wp2_with fail
                  have m0 := M1.out.up (Below.refl _ _).drew
                  have n0' := N1.out.up (Below.refl _ _).drew
                  have b0 := bchain HB0.out (Below.refl _ _).drew
                  refine wp_region_held_drew (S := fun v => BlkV v p0 40 (wds 36 f0) ∧ BlkV v p1 40 (wds 36 f1)) (by kernel_rfl) ⟨m0, n0'⟩ (fun hHeld => ?_)
                  refine wpAnyH_take (i := 0) (v := .agg (wds 36 f0).toArray) rfl (by kernel_rfl) (by kernel_rfl) (by kernel_rfl) (fun _ _ _ h => h) (yieldsIf_load_mid (by rfl) 40 (.tmp 7) rfl (p0) (0) rfl (wds 36 f0) _ (fun v hv => hv.1.range) Tryd.underlying40 rfl (sizeM _)) (by with_reducible assumption) ?_
                  simp only [Act.put, List.setIfInBounds_toArray, List.set_cons_zero, List.set_cons_succ, List.getElem_toArray, List.getElem_cons_zero, List.getElem_cons_succ]
                  refine wpAnyH_take (i := 1) (v := .agg (wds 36 f1).toArray) rfl (by kernel_rfl) (by kernel_rfl) (by kernel_rfl) (fun _ _ _ h => h) (yieldsIf_load_mid (by rfl) 40 (.tmp 9) rfl (p1) (0) rfl (wds 36 f1) _ (fun v hv => hv.2.range) Tryd.underlying40 rfl (sizeM _)) (by with_reducible assumption) ?_
                  simp only [Act.put, List.setIfInBounds_toArray, List.set_cons_zero, List.set_cons_succ, List.getElem_toArray, List.getElem_cons_zero, List.getElem_cons_succ]
                  refine wpAnyH_take (i := 4) (v := .agg (wds 36 f0).toArray) rfl (by kernel_rfl) (by kernel_rfl) (by kernel_rfl) (fun _ _ _ h => h) (yieldsIf_load_mid (by rfl) 40 (.tmp 7) rfl (p0) (0) rfl (wds 36 f0) _ (fun v hv => hv.1.range) Tryd.underlying40 rfl (sizeM _)) (by with_reducible assumption) ?_
                  simp only [Act.put, List.setIfInBounds_toArray, List.set_cons_zero, List.set_cons_succ, List.getElem_toArray, List.getElem_cons_zero, List.getElem_cons_succ]
                  refine wpAnyH_take (i := 6) (v := .agg (wds 36 f1).toArray) rfl (by kernel_rfl) (by kernel_rfl) (by kernel_rfl) (fun _ _ _ h => h) (yieldsIf_load_mid (by rfl) 40 (.tmp 9) rfl (p1) (0) rfl (wds 36 f1) _ (fun v hv => hv.2.range) Tryd.underlying40 rfl (sizeM _)) (by with_reducible assumption) ?_
                  simp only [Act.put, List.setIfInBounds_toArray, List.set_cons_zero, List.set_cons_succ, List.getElem_toArray, List.getElem_cons_zero, List.getElem_cons_succ]
                  refine wpAnyH_ready (rs := [2]) (by kernel_rfl) (by simp) ?_
                  refine (AllReadyH.cons rfl (fun K hK => ?_) AllReadyH.nil)
                  go_simp
                  go_at_call 13
                  with_reducible refine (mxMul_c f0 f1 _ _ wr.drew HM0.out HM1.out (HG.out.up (b0))).mono ?_
                  rintro e wg1 ⟨gm, rfl, hm1, hbg1⟩
                  have m_g1 := (m0).up hbg1
                  have n_g1 := (n0').up hbg1
                  have b_g1 := bchain b0 hbg1
                  try dsimp only
                  refine hK.out _ _ (⟨m_g1, n_g1⟩) (fun hHeld => ?_)
                  clear hK K
                  try simp only [Act.put, List.setIfInBounds_toArray, List.set_cons_zero, List.set_cons_succ, List.getElem_toArray, List.getElem_cons_zero, List.getElem_cons_succ]
                  refine wpAnyH_ready (rs := [3]) (by kernel_rfl) (by simp) ?_
                  refine (AllReadyH.cons rfl (fun K hK => ?_) AllReadyH.nil)
                  go_simp
                  go_at_call 16
                  with_reducible refine (det_c gm _ wg1 hm1 (HG.out.up (b_g1))).mono ?_
                  rintro e wg2 ⟨_, rfl, d1, hbg2⟩
                  have m_g2 := (m_g1).up hbg2
                  have n_g2 := (n_g1).up hbg2
                  have b_g2 := bchain b_g1 hbg2
                  try dsimp only
                  refine hK.out _ _ (⟨m_g2, n_g2⟩) (fun hHeld => ?_)
                  clear hK K
                  try simp only [Act.put, List.setIfInBounds_toArray, List.set_cons_zero, List.set_cons_succ, List.getElem_toArray, List.getElem_cons_zero, List.getElem_cons_succ]
                  refine wpAnyH_ready (rs := [5]) (by kernel_rfl) (by simp) ?_
                  refine (AllReadyH.cons rfl (fun K hK => ?_) AllReadyH.nil)
                  go_simp
                  go_at_call 16
                  with_reducible refine (det_c f0 _ wg2 HM0.out (HG.out.up (b_g2))).mono ?_
                  rintro e wg3 ⟨_, rfl, d2, hbg3⟩
                  have m_g3 := (m_g2).up hbg3
                  have n_g3 := (n_g2).up hbg3
                  have b_g3 := bchain b_g2 hbg3
                  try dsimp only
                  refine hK.out _ _ (⟨m_g3, n_g3⟩) (fun hHeld => ?_)
                  clear hK K
                  try simp only [Act.put, List.setIfInBounds_toArray, List.set_cons_zero, List.set_cons_succ, List.getElem_toArray, List.getElem_cons_zero, List.getElem_cons_succ]
                  refine wpAnyH_ready (rs := [7]) (by kernel_rfl) (by simp) ?_
                  refine (AllReadyH.cons rfl (fun K hK => ?_) AllReadyH.nil)
                  go_simp
                  go_at_call 16
                  with_reducible refine (det_c f1 _ wg3 HM1.out (HG.out.up (b_g3))).mono ?_
                  rintro e wg4 ⟨_, rfl, d3, hbg4⟩
                  have m_g4 := (m_g3).up hbg4
                  have n_g4 := (n_g3).up hbg4
                  have b_g4 := bchain b_g3 hbg4
                  try dsimp only
                  refine hK.out _ _ (⟨m_g4, n_g4⟩) (fun hHeld => ?_)
                  clear hK K
                  try simp only [Act.put, List.setIfInBounds_toArray, List.set_cons_zero, List.set_cons_succ, List.getElem_toArray, List.getElem_cons_zero, List.getElem_cons_succ]
                  refine wpAnyH_ready (rs := [8]) (by kernel_rfl) (by simp) ?_
                  refine (AllReadyH.cons rfl (fun K hK => ?_) AllReadyH.nil)
                  go_simp
                  go_at_call 17
                  with_reducible refine (emulZ_c _ _ _ _ wg4 d2 d3 (HG.out.up (b_g4))).mono ?_
                  rintro e wg5 ⟨_, rfl, d4, hbg5⟩
                  have m_g5 := (m_g4).up hbg5
                  have n_g5 := (n_g4).up hbg5
                  have b_g5 := bchain b_g4 hbg5
                  try dsimp only
                  refine hK.out _ _ (⟨m_g5, n_g5⟩) (fun hHeld => ?_)
                  clear hK K
                  try simp only [Act.put, List.setIfInBounds_toArray, List.set_cons_zero, List.set_cons_succ, List.getElem_toArray, List.getElem_cons_zero, List.getElem_cons_succ]
                  refine wpAnyH_ready (rs := [9]) (by kernel_rfl) (by simp) ?_
                  refine (AllReadyH.cons rfl (fun K hK => ?_) AllReadyH.nil)
                  go_simp
                  go_at_call 8
                  with_reducible refine (equal_t _ _ _ _ wg5 d1 d4 (by rw [mzDet_mul])).mono ?_
                  rintro e wg6 ⟨rfl, hbg6⟩
                  have m_g6 := (m_g5).up hbg6
                  have n_g6 := (n_g5).up hbg6
                  have b_g6 := bchain b_g5 hbg6
                  try dsimp only
                  refine hK.out _ _ (⟨m_g6, n_g6⟩) (fun hHeld => ?_)
                  clear hK K
                  try simp only [Act.put, List.setIfInBounds_toArray, List.set_cons_zero, List.set_cons_succ, List.getElem_toArray, List.getElem_cons_zero, List.getElem_cons_succ]
                  refine wpAnyH_take (i := 10) (v := ?_) rfl (by kernel_rfl) (by kernel_rfl) (by kernel_rfl) (fun _ _ _ h => h) (Or.inl ⟨by rfl, fun v hv => ?_⟩) (by with_reducible assumption) ?_
                  rotate_left
                  · go_simp
                    try with_reducible rfl
                  simp only [Act.put, List.setIfInBounds_toArray, List.set_cons_zero, List.set_cons_succ, List.getElem_toArray, List.getElem_cons_zero, List.getElem_cons_succ]
                  refine wpAnyH_ready (rs := [11]) (by kernel_rfl) (by simp) ?_
                  refine (AllReadyH.cons rfl (fun K hK => ?_) AllReadyH.nil)
                  go_simp
                  go_at_call 15
                  with_reducible refine (unit_c wg6 (HG.out.up (b_g6))).mono ?_
                  rintro e wg7 ⟨g1, rfl, h1, hbg7⟩
                  have m_g7 := (m_g6).up hbg7
                  have n_g7 := (n_g6).up hbg7
                  have b_g7 := bchain b_g6 hbg7
                  try dsimp only
                  refine hK.out _ _ (⟨m_g7, n_g7⟩) (fun hHeld => ?_)
                  clear hK K
                  try simp only [Act.put, List.setIfInBounds_toArray, List.set_cons_zero, List.set_cons_succ, List.getElem_toArray, List.getElem_cons_zero, List.getElem_cons_succ]
                  refine wpAnyH_ready (rs := [12]) (by kernel_rfl) (by simp) ?_
                  refine (AllReadyH.cons rfl (fun K hK => ?_) AllReadyH.nil)
                  go_simp
                  go_at_call 16
                  with_reducible refine (det_c g1 _ wg7 h1 (HG.out.up (b_g7))).mono ?_
                  rintro e wg8 ⟨_, rfl, d5, hbg8⟩
                  have m_g8 := (m_g7).up hbg8
                  have n_g8 := (n_g7).up hbg8
                  have b_g8 := bchain b_g7 hbg8
                  try dsimp only
                  refine hK.out _ _ (⟨m_g8, n_g8⟩) (fun hHeld => ?_)
                  clear hK K
                  try simp only [Act.put, List.setIfInBounds_toArray, List.set_cons_zero, List.set_cons_succ, List.getElem_toArray, List.getElem_cons_zero, List.getElem_cons_succ]
                  refine wpAnyH_ready (rs := [13]) (by kernel_rfl) (by simp) ?_
                  refine (AllReadyH.cons rfl (fun K hK => ?_) AllReadyH.nil)
                  go_simp
                  go_at_call 18
                  with_reducible refine (from1_c wg8 (HG.out.up (b_g8))).mono ?_
                  rintro e wg9 ⟨_, rfl, d6, hbg9⟩
                  have m_g9 := (m_g8).up hbg9
                  have n_g9 := (n_g8).up hbg9
                  have b_g9 := bchain b_g8 hbg9
                  try dsimp only
                  refine hK.out _ _ (⟨m_g9, n_g9⟩) (fun hHeld => ?_)
                  clear hK K
                  try simp only [Act.put, List.setIfInBounds_toArray, List.set_cons_zero, List.set_cons_succ, List.getElem_toArray, List.getElem_cons_zero, List.getElem_cons_succ]
                  refine wpAnyH_ready (rs := [14]) (by kernel_rfl) (by simp) ?_
                  refine (AllReadyH.cons rfl (fun K hK => ?_) AllReadyH.nil)
                  go_simp
                  go_at_call 8
                  with_reducible refine (equal_t _ _ _ _ wg9 d5 d6 (by rw [mzDet_unit])).mono ?_
                  rintro e wg10 ⟨rfl, hbg10⟩
                  have m_g10 := (m_g9).up hbg10
                  have n_g10 := (n_g9).up hbg10
                  have b_g10 := bchain b_g9 hbg10
                  try dsimp only
                  refine hK.out _ _ (⟨m_g10, n_g10⟩) (fun hHeld => ?_)
                  clear hK K
                  try simp only [Act.put, List.setIfInBounds_toArray, List.set_cons_zero, List.set_cons_succ, List.getElem_toArray, List.getElem_cons_zero, List.getElem_cons_succ]
                  refine wpAnyH_take (i := 15) (v := ?_) rfl (by kernel_rfl) (by kernel_rfl) (by kernel_rfl) (fun _ _ _ h => h) (Or.inl ⟨by rfl, fun v hv => ?_⟩) (by with_reducible assumption) ?_
                  rotate_left
                  · go_simp
                    try with_reducible rfl
                  simp only [Act.put, List.setIfInBounds_toArray, List.set_cons_zero, List.set_cons_succ, List.getElem_toArray, List.getElem_cons_zero, List.getElem_cons_succ]
                  refine wpAnyH_take (i := 16) (v := ?_) rfl (by kernel_rfl) (by kernel_rfl) (by kernel_rfl) (fun _ _ _ h => h) (Or.inl ⟨by rfl, fun v hv => ?_⟩) (by with_reducible assumption) ?_
                  rotate_left
                  · go_simp
                    try with_reducible rfl
                  simp only [Act.put, List.setIfInBounds_toArray, List.set_cons_zero, List.set_cons_succ, List.getElem_toArray, List.getElem_cons_zero, List.getElem_cons_succ]
                  refine wpAnyH_done (by kernel_rfl) ?_ _
                  go_wp2_with fail
                  go_ret
                  exact ⟨rfl, b_g10⟩
      · go_enter Tryd.func4, Tryd.ntmps4
        go_wp2_with fail
        generalize (((w.alloc _).alloc _).alloc _) = w0 at *
        refine (speaks9_c w0 (HG.out.up HB.out)).mono ?_
        rintro e w1 ⟨rfl, b1⟩
        have HX0' := hid (HX0.out.up b1)
        clear HX0
        have HX0 := HX0'
        clear HX0'
        have HX1' := hid (HX1.out.up b1)
        clear HX1
        have HX1 := HX1'
        clear HX1'
        have HX2' := hid (HX2.out.up b1)
        clear HX2
        have HX2 := HX2'
        clear HX2'
        have HB' := hid (bchain HB.out b1)
        clear HB
        have HB := HB'
        clear HB' b1
        go_wp2_with (first
    | refine wpList_load_midG (by rfl) 35 (.tmp 3) rfl (w.heap.size) 0 rfl (sls A0 n0 c0) _ (by with_reducible exact HX0.out.range) Tryd.underlying35 rfl (sizeNA _ _ _) ?_
    | fail)
        refine (few_t A0 n0 c0 w1 hF0).mono ?_
        rintro e w1f0 ⟨rfl, bf0⟩
        have HX0' := hid (HX0.out.up bf0)
        clear HX0
        have HX0 := HX0'
        clear HX0'
        have HX1' := hid (HX1.out.up bf0)
        clear HX1
        have HX1 := HX1'
        clear HX1'
        have HX2' := hid (HX2.out.up bf0)
        clear HX2
        have HX2 := HX2'
        clear HX2'
        have HB' := hid (bchain HB.out bf0)
        clear HB
        have HB := HB'
        clear HB' bf0
        go_wp2_with (first
    | refine wpList_load_midG (by rfl) 35 (.tmp 4) rfl (w.heap.size + 1) 0 rfl (sls A1 n1 c1) _ (by with_reducible exact HX1.out.range) Tryd.underlying35 rfl (sizeNA _ _ _) ?_
    | fail)
        refine (few_t A1 n1 c1 w1f0 hF1).mono ?_
        rintro e w1f0f1 ⟨rfl, bf1⟩
        have HX0' := hid (HX0.out.up bf1)
        clear HX0
        have HX0 := HX0'
        clear HX0'
        have HX1' := hid (HX1.out.up bf1)
        clear HX1
        have HX1 := HX1'
        clear HX1'
        have HX2' := hid (HX2.out.up bf1)
        clear HX2
        have HX2 := HX2'
        clear HX2'
        have HB' := hid (bchain HB.out bf1)
        clear HB
        have HB := HB'
        clear HB' bf1
        go_wp2_with (first
    | refine wpList_load_midG (by rfl) 35 (.tmp 5) rfl (w.heap.size + 1 + 1) 0 rfl (sls A2 n2 c2) _ (by with_reducible exact HX2.out.range) Tryd.underlying35 rfl (sizeNA _ _ _) ?_
    | fail)
        refine (few_f A2 n2 c2 w1f0f1 hF2).mono ?_
        rintro e w1f0f1f2 ⟨rfl, bf2⟩
        have HX0' := hid (HX0.out.up bf2)
        clear HX0
        have HX0 := HX0'
        clear HX0'
        have HX1' := hid (HX1.out.up bf2)
        clear HX1
        have HX1 := HX1'
        clear HX1'
        have HX2' := hid (HX2.out.up bf2)
        clear HX2
        have HX2 := HX2'
        clear HX2'
        have HB' := hid (bchain HB.out bf2)
        clear HB
        have HB := HB'
        clear HB' bf2
        go_wp2_with fail
        refine (speaks9_c w1f0f1f2 (HG.out.up HB.out)).mono ?_
        rintro e wz ⟨rfl, bz⟩
        have HBZ := hid (bchain HB.out bz)
        clear bz
        go_wp2
        go_ret
        exact ⟨rfl, HBZ.out⟩
    · go_enter Tryd.func4, Tryd.ntmps4
      go_wp2_with fail
      generalize (((w.alloc _).alloc _).alloc _) = w0 at *
      refine (speaks9_c w0 (HG.out.up HB.out)).mono ?_
      rintro e w1 ⟨rfl, b1⟩
      have HX0' := hid (HX0.out.up b1)
      clear HX0
      have HX0 := HX0'
      clear HX0'
      have HX1' := hid (HX1.out.up b1)
      clear HX1
      have HX1 := HX1'
      clear HX1'
      have HX2' := hid (HX2.out.up b1)
      clear HX2
      have HX2 := HX2'
      clear HX2'
      have HB' := hid (bchain HB.out b1)
      clear HB
      have HB := HB'
      clear HB' b1
      go_wp2_with (first
    | refine wpList_load_midG (by rfl) 35 (.tmp 3) rfl (w.heap.size) 0 rfl (sls A0 n0 c0) _ (by with_reducible exact HX0.out.range) Tryd.underlying35 rfl (sizeNA _ _ _) ?_
    | fail)
      refine (few_t A0 n0 c0 w1 hF0).mono ?_
      rintro e w1f0 ⟨rfl, bf0⟩
      have HX0' := hid (HX0.out.up bf0)
      clear HX0
      have HX0 := HX0'
      clear HX0'
      have HX1' := hid (HX1.out.up bf0)
      clear HX1
      have HX1 := HX1'
      clear HX1'
      have HX2' := hid (HX2.out.up bf0)
      clear HX2
      have HX2 := HX2'
      clear HX2'
      have HB' := hid (bchain HB.out bf0)
      clear HB
      have HB := HB'
      clear HB' bf0
      go_wp2_with (first
    | refine wpList_load_midG (by rfl) 35 (.tmp 4) rfl (w.heap.size + 1) 0 rfl (sls A1 n1 c1) _ (by with_reducible exact HX1.out.range) Tryd.underlying35 rfl (sizeNA _ _ _) ?_
    | fail)
      refine (few_f A1 n1 c1 w1f0 hF1).mono ?_
      rintro e w1f0f1 ⟨rfl, bf1⟩
      have HX0' := hid (HX0.out.up bf1)
      clear HX0
      have HX0 := HX0'
      clear HX0'
      have HX1' := hid (HX1.out.up bf1)
      clear HX1
      have HX1 := HX1'
      clear HX1'
      have HX2' := hid (HX2.out.up bf1)
      clear HX2
      have HX2 := HX2'
      clear HX2'
      have HB' := hid (bchain HB.out bf1)
      clear HB
      have HB := HB'
      clear HB' bf1
      go_wp2_with fail
      refine (speaks9_c w1f0f1 (HG.out.up HB.out)).mono ?_
      rintro e wz ⟨rfl, bz⟩
      have HBZ := hid (bchain HB.out bz)
      clear bz
      go_wp2
      go_ret
      exact ⟨rfl, HBZ.out⟩
  · go_enter Tryd.func4, Tryd.ntmps4
    go_wp2_with fail
    generalize (((w.alloc _).alloc _).alloc _) = w0 at *
    refine (speaks9_c w0 (HG.out.up HB.out)).mono ?_
    rintro e w1 ⟨rfl, b1⟩
    have HX0' := hid (HX0.out.up b1)
    clear HX0
    have HX0 := HX0'
    clear HX0'
    have HX1' := hid (HX1.out.up b1)
    clear HX1
    have HX1 := HX1'
    clear HX1'
    have HX2' := hid (HX2.out.up b1)
    clear HX2
    have HX2 := HX2'
    clear HX2'
    have HB' := hid (bchain HB.out b1)
    clear HB
    have HB := HB'
    clear HB' b1
    go_wp2_with (first
    | refine wpList_load_midG (by rfl) 35 (.tmp 3) rfl (w.heap.size) 0 rfl (sls A0 n0 c0) _ (by with_reducible exact HX0.out.range) Tryd.underlying35 rfl (sizeNA _ _ _) ?_
    | fail)
    refine (few_f A0 n0 c0 w1 hF0).mono ?_
    rintro e w1f0 ⟨rfl, bf0⟩
    have HX0' := hid (HX0.out.up bf0)
    clear HX0
    have HX0 := HX0'
    clear HX0'
    have HX1' := hid (HX1.out.up bf0)
    clear HX1
    have HX1 := HX1'
    clear HX1'
    have HX2' := hid (HX2.out.up bf0)
    clear HX2
    have HX2 := HX2'
    clear HX2'
    have HB' := hid (bchain HB.out bf0)
    clear HB
    have HB := HB'
    clear HB' bf0
    go_wp2_with fail
    refine (speaks9_c w1f0 (HG.out.up HB.out)).mono ?_
    rintro e wz ⟨rfl, bz⟩
    have HBZ := hid (bchain HB.out bz)
    clear bz
    go_wp2
    go_ret
    exact ⟨rfl, HBZ.out⟩
end Go.Proofs.YtdepkfdceidikaaDoor
