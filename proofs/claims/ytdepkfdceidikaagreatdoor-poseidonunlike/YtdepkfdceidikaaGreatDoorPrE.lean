import Derived.Test.YtdepkfdceidikaaGreatDoorPrC
/-
  What the document's values do when a permutation is found; what the laws of Poseidon keep.
-/
namespace Go.Proofs.YtdepkfdceidikaaGreatDoor
open Go.RowKit
set_option linter.unusedVariables false
set_option linter.unusedSimpArgs false

theorem only_same {w w' : World} {p : Nat} {t : TypeId} {vs : List Value} (ho : Only p w w') (h : BlkV w p t vs) (h' : BlkV w' p t vs) : Below w.heap.size w w' :=
  ⟨ho.os, ho.tape, ho.output, ho.size, fun k hk => by
    by_cases e : k = p
    · subst e
      exact h'.heap.trans h.heap.symm
    · exact ho.block k hk e⟩
theorem pi_case {w w' : World} {p : Nat} (hB : PI w p) (ho : Only p w w') (hk : Kp p w w') : Far w p ∨ Below w.heap.size w w' := by
  obtain ⟨d, f, h1, h2⟩ := hB
  rcases h2 with ⟨rfl, rfl⟩ | ⟨rfl, h3, h4⟩
  · refine Or.inl ⟨⟨_, _, h1, ?_, by decide, by decide⟩⟩
    intro u hu k z e
    subst e
    rw [pcl_eq, List.mem_append] at hu
    rcases hu with hu | hu
    · simp at hu
      rcases hu with ⟨_, h⟩ | ⟨_, h⟩ | ⟨_, h⟩ <;> exact h
    · rw [wds_eq] at hu
      obtain ⟨j, _, hj⟩ := List.mem_map.1 hu
      injection hj with _ hj
      exact hj.symm
  · exact Or.inr (only_same ho h1 (hk f h1))
theorem TabZ.far {w w' : World} {v vM : Value} {p : Nat} (h : TabZ w v vM) (hp : Far w p) (ho : Only p w w') : TabZ w' v vM := ⟨h.c.far hp ho, h.m.far hp ho⟩
theorem TabZ.pi {w w' : World} {v vM : Value} {p : Nat} (h : TabZ w v vM) (hB : PI w p) (ho : Only p w w') (hk : Kp p w w') : TabZ w' v vM := by
  rcases pi_case hB ho hk with q | q
  · exact h.far q ho
  · exact h.up q
theorem DV.pi {w w' : World} {v : Value} {n : Nat} {Y : Nat → Int} {p : Nat} (h : DV w v n Y) (hB : PI w p) (ho : Only p w w') (hk : Kp p w w') : DV w' v n Y := by
  rcases pi_case hB ho hk with q | q
  · exact h.far q ho
  · exact h.up q
/-- What PoseidonPermutes keeps. -/
structure PmS (w : World) (p p6 p7 : Nat) (f : Nat → Int) (tv tM r : Value) (X : Nat → Int) (v : World) : Prop where
  x : BlkV v p7 39 (wds 12 f)
  t : BlkV v p6 32 [tv, tM]
  pi : PI v p
  tz : TabZ v tv tM
  dv : DV v r 3 X
  b : Below w.heap.size w v
theorem PmS.up {w : World} {p p6 p7 : Nat} {f : Nat → Int} {tv tM r : Value} {X : Nat → Int} {v v' : World} (h : PmS w p p6 p7 f tv tM r X v) (hb : Below v.heap.size v v') : PmS w p p6 p7 f tv tM r X v' :=
  ⟨h.x.up hb, h.t.up hb, h.pi.up hb, h.tz.up hb, h.dv.up hb, bchain h.b hb⟩
theorem PmS.onl {w : World} {p p6 p7 : Nat} {f : Nat → Int} {tv tM r : Value} {X : Nat → Int} {v v' : World} (h : PmS w p p6 p7 f tv tM r X v) (h6 : p6 ≠ p) (h7 : p7 ≠ p) (hp : w.heap.size ≤ p) (hq : PI v' p) (ho : Only p v v') (hk : Kp p v v') : PmS w p p6 p7 f tv tM r X v' :=
  ⟨ho.blk h.x h7, ho.blk h.t h6, hq, h.tz.pi h.pi ho hk, h.dv.pi h.pi ho hk, h.b.trans (ho.below hp h.b.size)⟩
/-- What PoseidonConstants keeps. -/
structure CoS (w : World) (p p4 : Nat) (tv tM : Value) (v : World) : Prop where
  t : BlkV v p4 32 [tv, tM]
  pi : PI v p
  tz : TabZ v tv tM
  b : Below w.heap.size w v
theorem CoS.up {w : World} {p p4 : Nat} {tv tM : Value} {v v' : World} (h : CoS w p p4 tv tM v) (hb : Below v.heap.size v v') : CoS w p p4 tv tM v' :=
  ⟨h.t.up hb, h.pi.up hb, h.tz.up hb, bchain h.b hb⟩
theorem CoS.onl {w : World} {p p4 : Nat} {tv tM : Value} {v v' : World} (h : CoS w p p4 tv tM v) (h4 : p4 ≠ p) (hp : w.heap.size ≤ p) (hq : PI v' p) (ho : Only p v v') (hk : Kp p v v') : CoS w p p4 tv tM v' :=
  ⟨ho.blk h.t h4, hq, h.tz.pi h.pi ho hk, h.b.trans (ho.below hp h.b.size)⟩
/-- The same, and the constants that are looked at. -/
structure CoT (w : World) (p p4 p6 : Nat) (c : Nat → Int) (tv tM : Value) (v : World) : Prop where
  s : CoS w p p4 tv tM v
  x : BlkV v p6 39 (wds 12 c)
theorem CoT.up {w : World} {p p4 p6 : Nat} {c : Nat → Int} {tv tM : Value} {v v' : World} (h : CoT w p p4 p6 c tv tM v) (hb : Below v.heap.size v v') : CoT w p p4 p6 c tv tM v' := ⟨h.s.up hb, h.x.up hb⟩
end Go.Proofs.YtdepkfdceidikaaGreatDoor
/-
  What PoseidonUnlike and PoseidonSteps keep; unlike elements by Equal.
-/
namespace Go.Proofs.YtdepkfdceidikaaGreatDoor
open Go.RowKit
set_option linter.unusedVariables false
set_option linter.unusedSimpArgs false

theorem wpAnyH_relist {P : Program} {md : Region.Mode} {ops : Array Oper} {Q : Exit → Act → World → Prop} {S : World → Prop} {fuel : Nat} {l : Array Bool} (l2 : Array Bool) {a : Act} {w : World} (h : l = l2) (H : wpAnyH P md ops Q S fuel l2 a w) : wpAnyH P md ops Q S fuel l a w := h ▸ H
theorem join1 {A0 : Type} {F P : A0 → Prop} {G : Prop} (main : (∀ x0, F x0 → P x0) → G) (rest : ∀ x0, F x0 → P x0) : G := main rest
theorem join2 {A0 A1 : Type} {F P : A0 → A1 → Prop} {G : Prop} (main : (∀ x0 x1, F x0 x1 → P x0 x1) → G) (rest : ∀ x0 x1, F x0 x1 → P x0 x1) : G := main rest
theorem join3 {A0 A1 A2 : Type} {F P : A0 → A1 → A2 → Prop} {G : Prop} (main : (∀ x0 x1 x2, F x0 x1 x2 → P x0 x1 x2) → G) (rest : ∀ x0 x1 x2, F x0 x1 x2 → P x0 x1 x2) : G := main rest
theorem join4 {A0 A1 A2 A3 : Type} {F P : A0 → A1 → A2 → A3 → Prop} {G : Prop} (main : (∀ x0 x1 x2 x3, F x0 x1 x2 x3 → P x0 x1 x2 x3) → G) (rest : ∀ x0 x1 x2 x3, F x0 x1 x2 x3 → P x0 x1 x2 x3) : G := main rest
theorem join5 {A0 A1 A2 A3 A4 : Type} {F P : A0 → A1 → A2 → A3 → A4 → Prop} {G : Prop} (main : (∀ x0 x1 x2 x3 x4, F x0 x1 x2 x3 x4 → P x0 x1 x2 x3 x4) → G) (rest : ∀ x0 x1 x2 x3 x4, F x0 x1 x2 x3 x4 → P x0 x1 x2 x3 x4) : G := main rest
theorem join6 {A0 A1 A2 A3 A4 A5 : Type} {F P : A0 → A1 → A2 → A3 → A4 → A5 → Prop} {G : Prop} (main : (∀ x0 x1 x2 x3 x4 x5, F x0 x1 x2 x3 x4 x5 → P x0 x1 x2 x3 x4 x5) → G) (rest : ∀ x0 x1 x2 x3 x4 x5, F x0 x1 x2 x3 x4 x5 → P x0 x1 x2 x3 x4 x5) : G := main rest
theorem join7 {A0 A1 A2 A3 A4 A5 A6 : Type} {F P : A0 → A1 → A2 → A3 → A4 → A5 → A6 → Prop} {G : Prop} (main : (∀ x0 x1 x2 x3 x4 x5 x6, F x0 x1 x2 x3 x4 x5 x6 → P x0 x1 x2 x3 x4 x5 x6) → G) (rest : ∀ x0 x1 x2 x3 x4 x5 x6, F x0 x1 x2 x3 x4 x5 x6 → P x0 x1 x2 x3 x4 x5 x6) : G := main rest
theorem join8 {A0 A1 A2 A3 A4 A5 A6 A7 : Type} {F P : A0 → A1 → A2 → A3 → A4 → A5 → A6 → A7 → Prop} {G : Prop} (main : (∀ x0 x1 x2 x3 x4 x5 x6 x7, F x0 x1 x2 x3 x4 x5 x6 x7 → P x0 x1 x2 x3 x4 x5 x6 x7) → G) (rest : ∀ x0 x1 x2 x3 x4 x5 x6 x7, F x0 x1 x2 x3 x4 x5 x6 x7 → P x0 x1 x2 x3 x4 x5 x6 x7) : G := main rest
theorem join9 {A0 A1 A2 A3 A4 A5 A6 A7 A8 : Type} {F P : A0 → A1 → A2 → A3 → A4 → A5 → A6 → A7 → A8 → Prop} {G : Prop} (main : (∀ x0 x1 x2 x3 x4 x5 x6 x7 x8, F x0 x1 x2 x3 x4 x5 x6 x7 x8 → P x0 x1 x2 x3 x4 x5 x6 x7 x8) → G) (rest : ∀ x0 x1 x2 x3 x4 x5 x6 x7 x8, F x0 x1 x2 x3 x4 x5 x6 x7 x8 → P x0 x1 x2 x3 x4 x5 x6 x7 x8) : G := main rest
theorem equal_f (u v : Value) (X Y : Int) (w : World) (hu : Ez u X) (hv : Ez v Y) (h : ¬ X % pZ = Y % pZ) : Calls Tryz.prog 20 #[u, v] w fun e w' => e = .returned (.bool false) ∧ Below w.heap.size w w' := by
  refine (eequalZ_c u v X Y w hu hv).mono ?_
  rintro e w1 ⟨rfl, b1⟩
  rw [decide_eq_false h]
  exact ⟨rfl, b1⟩
/-- Two vectors are the same modulo the prime. -/
def Eq3 (X Y : Nat → Int) : Prop := ∀ i, i < 3 → X i % pZ = Y i % pZ
theorem Eq3.of {X Y : Nat → Int} (h0 : X 0 % pZ = Y 0 % pZ) (h1 : X 1 % pZ = Y 1 % pZ) (h2 : X 2 % pZ = Y 2 % pZ) : Eq3 X Y := fun i hi => by
  match i, hi with
  | 0, _ => exact h0
  | 1, _ => exact h1
  | 2, _ => exact h2
noncomputable def eq3B (X Y : Nat → Int) : Bool := @decide (Eq3 X Y) (Classical.propDecidable _)
theorem eq3B_t {X Y : Nat → Int} (h : Eq3 X Y) : eq3B X Y = true := @decide_eq_true _ (Classical.propDecidable _) h
theorem eq3B_f {X Y : Nat → Int} (h : ¬ Eq3 X Y) : eq3B X Y = false := @decide_eq_false _ (Classical.propDecidable _) h
theorem pm_eq3 (X Y : Nat → Int) : ∀ k, Eq3 (pmZ k X) (pmZ k Y) ↔ Eq3 X Y
  | 0 => Iff.rfl
  | k + 1 => by
    rw [← pm_eq3 X Y k]
    exact ⟨fun h => rdZ_inj h, fun h => rdZ_cong h⟩
theorem eq3B_pm (X Y : Nat → Int) (k : Nat) : eq3B (pmZ k X) (pmZ k Y) = eq3B X Y := by
  by_cases h : Eq3 X Y
  · rw [eq3B_t h, eq3B_t ((pm_eq3 X Y k).2 h)]
  · rw [eq3B_f h, eq3B_f (fun q => h ((pm_eq3 X Y k).1 q))]
theorem rd_pm {k : Nat} (hk : k < 65) (X : Nat → Int) : rdZ (pcI (k : Int)) (fulI (k : Int)) (pmZ k X) = pmZ (k + 1) X := by
  rw [pcI_nat hk, fulI_nat]
  rfl
theorem balloc (v : World) (o : Obj) : Below v.heap.size v (v.alloc o) := (Below.refl _ _).alloc (Nat.le_refl _) o
/-- A new variable, behind u. -/
structure NW (u v : World) (p : Nat) (t : TypeId) (n : Nat) (f : Nat → Int) : Prop where
  le : u.heap.size ≤ p
  bl : BlkV v p t (wds n f)
theorem NW.up {u v v' : World} {p : Nat} {t : TypeId} {n : Nat} {f : Nat → Int} (h : NW u v p t n f) (hb : Below v.heap.size v v') : NW u v' p t n f := ⟨h.le, h.bl.up hb⟩
theorem NW.put {u v : World} {p c : Nat} {t : TypeId} {n : Nat} {f : Nat → Int} (h : NW u v p t n f) (hc : u.heap.size ≤ c) (hne : p ≠ c) (vs : List Value) : NW u (v.setCells c 0 vs) p t n f := ⟨h.le, BlkV.put hne _ _ _ h.bl⟩
theorem NW.there {u v : World} {p : Nat} {t : TypeId} {n : Nat} {f : Nat → Int} (h : NW u v p t n f) {g : Nat → Int} : v.there p 0 (wds n g).toArray.size := h.bl.thereW 0 n g (by omega)
theorem NW.lay {u v : World} {p : Nat} {t : TypeId} {n : Nat} {f : Nat → Int} (h : NW u v p t n f) (g : Nat → Int) : NW u (v.setCells p 0 (wds n g)) p t n g := ⟨h.le, h.bl.lay0 g⟩
/-- Two vectors and a permutation, behind u. -/
structure UnE (p p6 p8 : Nat) (f0 f1 : Nat → Int) (u v : World) : Prop where
  x6 : BlkV v p6 39 (wds 12 f0)
  x8 : BlkV v p8 39 (wds 12 f1)
  pi : PI v p
  b : Below u.heap.size u v
  lt : p < u.heap.size ∧ p6 < u.heap.size ∧ p8 < u.heap.size
theorem UnE.up {p p6 p8 : Nat} {f0 f1 : Nat → Int} {u v v' : World} (h : UnE p p6 p8 f0 f1 u v) (hb : Below v.heap.size v v') : UnE p p6 p8 f0 f1 u v' := ⟨h.x6.up hb, h.x8.up hb, h.pi.up hb, bchain h.b hb, h.lt⟩
theorem PI.put {v : World} {p c : Nat} (h : PI v p) (hne : p ≠ c) (vs : List Value) (o : Nat) : PI (v.setCells c o vs) p := by
  obtain ⟨d, g, q1, q2⟩ := h
  exact ⟨d, g, BlkV.put hne _ _ _ q1, q2⟩
theorem UnE.put {p p6 p8 : Nat} {f0 f1 : Nat → Int} {u v : World} (h : UnE p p6 p8 f0 f1 u v) {c : Nat} (hc : u.heap.size ≤ c) (vs : List Value) : UnE p p6 p8 f0 f1 u (v.setCells c 0 vs) := by
  obtain ⟨l1, l2, l3⟩ := h.lt
  exact ⟨BlkV.put (by omega) _ _ _ h.x6, BlkV.put (by omega) _ _ _ h.x8, h.pi.put (by omega) _ _, below_cells hc _ _ _ h.b, h.lt⟩
theorem UnE.new {p p6 p8 : Nat} {f0 f1 : Nat → Int} {u v : World} (h : UnE p p6 p8 f0 f1 u v) (t : TypeId) (n : Nat) : NW u (v.alloc (.cells (wds n z0).toArray t)) v.heap.size t n z0 := ⟨h.b.size, BlkV.new v t (wds n z0)⟩
/-- What the rounds keep. -/
structure UnT (w : World) (p p6 p11 p12 : Nat) (f0 g h : Nat → Int) (v : World) : Prop where
  x6 : BlkV v p6 39 (wds 12 f0)
  x11 : BlkV v p11 39 (wds 12 g)
  x12 : BlkV v p12 39 (wds 12 h)
  pi : PI v p
  b : Below w.heap.size w v
theorem UnT.up {w : World} {p p6 p11 p12 : Nat} {f0 g h : Nat → Int} {v v' : World} (k : UnT w p p6 p11 p12 f0 g h v) (hb : Below v.heap.size v v') : UnT w p p6 p11 p12 f0 g h v' := ⟨k.x6.up hb, k.x11.up hb, k.x12.up hb, k.pi.up hb, bchain k.b hb⟩
theorem UnT.onl {w : World} {p p6 p11 p12 : Nat} {f0 g h : Nat → Int} {v v' : World} (k : UnT w p p6 p11 p12 f0 g h v) (h6 : p6 ≠ p) (h11 : p11 ≠ p) (h12 : p12 ≠ p) (hp : w.heap.size ≤ p) (hq : PI v' p) (ho : Only p v v') : UnT w p p6 p11 p12 f0 g h v' :=
  ⟨ho.blk k.x6 h6, ho.blk k.x11 h11, ho.blk k.x12 h12, hq, k.b.trans (ho.below hp k.b.size)⟩
theorem UnT.s11 {w : World} {p p6 p11 p12 : Nat} {f0 g h : Nat → Int} {v : World} (k : UnT w p p6 p11 p12 f0 g h v) (h6 : p6 ≠ p11) (h12 : p12 ≠ p11) (hp : p ≠ p11) (hw : w.heap.size ≤ p11) (c : Nat → Int) : UnT w p p6 p11 p12 f0 c h (v.setCells p11 0 (wds 12 c)) :=
  ⟨BlkV.put h6 _ _ _ k.x6, k.x11.lay0 c, BlkV.put h12 _ _ _ k.x12, k.pi.put hp _ _, below_cells hw _ _ _ k.b⟩
theorem UnT.s12 {w : World} {p p6 p11 p12 : Nat} {f0 g h : Nat → Int} {v : World} (k : UnT w p p6 p11 p12 f0 g h v) (h6 : p6 ≠ p12) (h11 : p11 ≠ p12) (hp : p ≠ p12) (hw : w.heap.size ≤ p12) (c : Nat → Int) : UnT w p p6 p11 p12 f0 g c (v.setCells p12 0 (wds 12 c)) :=
  ⟨BlkV.put h6 _ _ _ k.x6, BlkV.put h11 _ _ _ k.x11, k.x12.lay0 c, k.pi.put hp _ _, below_cells hw _ _ _ k.b⟩
/-- Two vectors that are looked at. -/
structure UnZ (w : World) (pa pb : Nat) (g h : Nat → Int) (v : World) : Prop where
  x : BlkV v pa 39 (wds 12 g)
  z : BlkV v pb 39 (wds 12 h)
  b : Below w.heap.size w v
theorem UnZ.up {w : World} {pa pb : Nat} {g h : Nat → Int} {v v' : World} (k : UnZ w pa pb g h v) (hb : Below v.heap.size v v') : UnZ w pa pb g h v' := ⟨k.x.up hb, k.z.up hb, bchain k.b hb⟩
/-- What PoseidonSteps keeps: the vector, the constants, the copy on the way. -/
structure StT (w : World) (p p7 p9 p10 : Nat) (f c g : Nat → Int) (v : World) : Prop where
  x7 : BlkV v p7 39 (wds 12 f)
  x9 : BlkV v p9 39 (wds 12 c)
  x10 : BlkV v p10 39 (wds 12 g)
  pi : PI v p
  b : Below w.heap.size w v
theorem StT.up {w : World} {p p7 p9 p10 : Nat} {f c g : Nat → Int} {v v' : World} (k : StT w p p7 p9 p10 f c g v) (hb : Below v.heap.size v v') : StT w p p7 p9 p10 f c g v' := ⟨k.x7.up hb, k.x9.up hb, k.x10.up hb, k.pi.up hb, bchain k.b hb⟩
theorem StT.lay4 {w : World} {p p7 p9 p10 : Nat} {f c g : Nat → Int} {v : World} (k : StT w p p7 p9 p10 f c g v) (h7 : p7 ≠ p10) (h9 : p9 ≠ p10) (hp : p ≠ p10) (hw : w.heap.size ≤ p10) (o : Nat) (ho : o + 4 ≤ 12) (a : Nat → Int) : StT w p p7 p9 p10 f c (fput g o 4 a) (v.setCells p10 o (wds 4 a)) :=
  ⟨BlkV.put h7 _ _ _ k.x7, BlkV.put h9 _ _ _ k.x9, k.x10.lay o 4 a ho, k.pi.put hp _ _, below_cells hw _ _ _ k.b⟩
theorem StT.lay {w : World} {p p7 p9 p10 : Nat} {f c g : Nat → Int} {v : World} (k : StT w p p7 p9 p10 f c g v) (h7 : p7 ≠ p10) (h9 : p9 ≠ p10) (hp : p ≠ p10) (hw : w.heap.size ≤ p10) (a : Nat → Int) : StT w p p7 p9 p10 f c a (v.setCells p10 0 (wds 12 a)) :=
  ⟨BlkV.put h7 _ _ _ k.x7, BlkV.put h9 _ _ _ k.x9, k.x10.lay0 a, k.pi.put hp _ _, below_cells hw _ _ _ k.b⟩
/-- The first m elements are those of R, the others those of X. -/
def SP (R X : Nat → Int) (m : Nat) (g : Nat → Int) : Prop := ∀ j, j < 3 → Ef g (j * 4) (if j < m then R j else X j)
theorem SP.start {R X g : Nat → Int} (h : VecZ g X) : SP R X 0 g := fun j hj => by
  rw [if_neg (Nat.not_lt_zero j)]
  exact h.at_ j hj
theorem SP.here {R X g : Nat → Int} {m : Nat} (h : SP R X m g) (hm : m < 3) : Ez (.agg (wds 4 fun k => g (m * 4 + k)).toArray) (X m) := by
  have := h m hm
  rw [if_neg (Nat.lt_irrefl m)] at this
  exact this.out
theorem SP.put {R X g a : Nat → Int} {m : Nat} (h : SP R X m g) (ha : Ez (.agg (wds 4 a).toArray) (R m)) : SP R X (m + 1) (fput g (m * 4) 4 a) := fun j hj => by
  rcases Nat.lt_trichotomy j m with h1 | h1 | h1
  · have := h j hj
    rw [if_pos h1] at this
    rw [if_pos (by omega)]
    exact this.putO (by omega)
  · subst h1
    rw [if_pos (by omega)]
    exact Ef.put _ ha
  · have := h j hj
    rw [if_neg (by omega)] at this
    rw [if_neg (by omega)]
    exact this.putO (by omega)
theorem fput_twice (g a b : Nat → Int) (o : Nat) : fput (fput g o 4 a) o 4 b = fput g o 4 b := by
  funext k
  unfold fput
  split <;> rfl
theorem SP.end_ {R X g : Nat → Int} (h : SP R X 3 g) : VecZ g R := ⟨fun j hj => by
  have := h j hj
  rw [if_pos hj] at this
  exact this⟩
end Go.Proofs.YtdepkfdceidikaaGreatDoor
