/-
  avouchlaw09.of: what the call does.
-/
import Derived.Test.YtdepkfdceidikaaDoorMnB
namespace Go.Proofs.YtdepkfdceidikaaDoor
open Go.RowKit
set_option linter.unusedVariables false
set_option linter.unusedSimpArgs false

theorem RowT.only {te : TypeId} {w w' : World} {base bm : Nat} {v : Value} {ds : List Value} (h : RowT te w base v ds) (ho : Only bm w w') (hb : bm < base) : RowT te w' base v ds := by
  obtain ⟨g, cap, cur, e, h1, h2, h3⟩ := h.ex
  exact ⟨g, cap, cur, e, h1, (ho.block g (Array.getElem?_eq_some_iff.1 h2).1 (by omega)).trans h2, h3⟩
theorem RowT.ne {te te' : TypeId} (hte : te ≠ te') {w : World} {b b' : Nat} {v v' : Value} {ds ds' : List Value} (h : RowT te w b v ds) (h' : RowT te' w b' v' ds') : v.ownBlock ≠ v'.ownBlock := by
  obtain ⟨g, cap, cur, rfl, h1, h2, _⟩ := h.ex
  obtain ⟨g', cap', cur', rfl, h1', h2', _⟩ := h'.ex
  intro e
  simp only [Value.ownBlock, Option.some.injEq] at e
  subst e
  rw [h2] at h2'
  simp only [Option.some.injEq, Obj.cells.injEq] at h2'
  exact hte h2'.2.1
theorem te_ne : (60 : TypeId) ≠ 32 := by decide
theorem DzF.mono {B B' : Nat} {w : World} {v : Value} {X : Int} (h : DzF B' w v X) (hb : B ≤ B') : DzF B w v X := ⟨h.dz, fun A n c e a ha => Nat.le_trans hb (h.fr A n c e a ha)⟩
theorem DzF.only {B bm : Nat} {w w' : World} {v : Value} {X : Int} (h : DzF B w v X) (ho : Only bm w w') (hb : bm < B) : DzF B w' v X := by
  refine ⟨?_, h.fr⟩
  obtain ⟨x, hx, hl, e⟩ := h.dz.ex
  refine ⟨⟨x, ?_, hl, e⟩⟩
  obtain ⟨A, c, l, rfl, h1, h2, h3, h4⟩ := hx.ex
  refine ⟨A, c, l, rfl, h1, h2, ⟨h3.len, h3.lt, fun h0 => ?_⟩, h4⟩
  obtain ⟨b, off, eA, hbl, hc⟩ := h3.cells h0
  have hB := h.fr A _ c rfl ⟨b, off, none⟩ eA
  refine ⟨b, off, eA, Nat.lt_of_lt_of_le hbl ho.size, fun i hi => ?_⟩
  exact (World.cell?_of_block (a := ⟨b, off + i, none⟩) (ho.block b hbl (by have : B ≤ b := hB; omega))).trans (hc i hi)
theorem DzF.kept {te : TypeId} {B : Nat} {w w' : World} {d : Value} {X : Int} {base : Nat} {v : Value} {ds : List Value} (h : DzF B w d X) (hr : RowT te w base v ds) (hg : w.grownBy w' v.ownBlock) : DzF B w' d X := ⟨h.dz.kept hr hg, h.fr⟩
/-- As DV; the row's block lies from B on, below U; the digits from B on. -/
structure DVF (B U : Nat) (w : World) (v : Value) (n : Nat) (Y : Nat → Int) : Prop where
  ex : ∃ b cap cur, v = .slice (some ⟨b, 0, none⟩) n cap ∧ B ≤ b ∧ b < U ∧ w.heap[b]? = some (.cells cur 32 (0, 0)) ∧ ∀ j, j < n → ∃ d, w.cell? ⟨b, j, none⟩ = some d ∧ DzF B w d (Y j)
theorem DVF.dv {B U : Nat} {w : World} {v : Value} {n : Nat} {Y : Nat → Int} (h : DVF B U w v n Y) : DV w v n Y := by
  obtain ⟨b, cap, cur, e, h1, h2, h3, h4⟩ := h.ex
  exact ⟨b, cap, cur, e, h3, fun j hj => by obtain ⟨d, q1, q2⟩ := h4 j hj; exact ⟨d, q1, q2.dz⟩⟩
theorem DVF.mono {B U U' : Nat} {w : World} {v : Value} {n : Nat} {Y : Nat → Int} (h : DVF B U w v n Y) (hU : U ≤ U') : DVF B U' w v n Y := by
  obtain ⟨b, cap, cur, e, h1, h2, h3⟩ := h.ex
  exact ⟨b, cap, cur, e, h1, Nat.lt_of_lt_of_le h2 hU, h3⟩
theorem DVF.up {B U : Nat} {w w' : World} {v : Value} {n : Nat} {Y : Nat → Int} (h : DVF B U w v n Y) (hb : Below w.heap.size w w') : DVF B U w' v n Y := by
  obtain ⟨b, cap, cur, e, h1, h2, h3, h4⟩ := h.ex
  have hlt := (Array.getElem?_eq_some_iff.1 h3).1
  refine ⟨b, cap, cur, e, h1, h2, (hb.block b hlt).trans h3, fun j hj => ?_⟩
  obtain ⟨d, q1, q2⟩ := h4 j hj
  exact ⟨d, (hb.cell (p := ⟨b, j, none⟩) hlt).trans q1, q2.up hb⟩
theorem DVF.only {B U bm : Nat} {w w' : World} {v : Value} {n : Nat} {Y : Nat → Int} (h : DVF B U w v n Y) (ho : Only bm w w') (hb : bm < B) : DVF B U w' v n Y := by
  obtain ⟨b, cap, cur, e, h1, h2, h3, h4⟩ := h.ex
  have hlt := (Array.getElem?_eq_some_iff.1 h3).1
  have hbl := ho.block b hlt (by omega)
  refine ⟨b, cap, cur, e, h1, h2, hbl.trans h3, fun j hj => ?_⟩
  obtain ⟨d, q1, q2⟩ := h4 j hj
  exact ⟨d, (World.cell?_of_block (a := ⟨b, j, none⟩) hbl).trans q1, q2.only ho hb⟩
theorem DVF.keptB {te : TypeId} {B U : Nat} {w w' : World} {d : Value} {n : Nat} {Y : Nat → Int} {base : Nat} {v : Value} {ds : List Value} (h : DVF B U w d n Y) (hr : RowT te w base v ds) (hg : w.grownBy w' v.ownBlock)
    (hne : ∀ b cur, b < U → w.heap[b]? = some (.cells cur 32 (0, 0)) → some b ≠ v.ownBlock) : DVF B U w' d n Y := by
  obtain ⟨b, cap, cur, e, h1, h2, h3, h4⟩ := h.ex
  have hlt := (Array.getElem?_eq_some_iff.1 h3).1
  have hbl := hg.block b hlt (hne b cur h2 h3)
  refine ⟨b, cap, cur, e, h1, h2, hbl.trans h3, fun j hj => ?_⟩
  obtain ⟨x, q1, q2⟩ := h4 j hj
  exact ⟨x, (World.cell?_of_block (a := ⟨b, j, none⟩) hbl).trans q1, q2.kept hr hg⟩
theorem ne_outer {w : World} {base : Nat} {v : Value} {ds : List Value} (hr : RowT 60 w base v ds) (U : Nat) : ∀ b cur, b < U → w.heap[b]? = some (.cells cur 32 (0, 0)) → some b ≠ v.ownBlock := by
  intro b cur _ h1
  obtain ⟨g, c', cur', rfl, g1, g2, _⟩ := hr.ex
  intro e
  simp only [Value.ownBlock, Option.some.injEq] at e
  subst e
  rw [h1] at g2
  simp at g2
theorem ne_inner {w : World} {U : Nat} {v : Value} {ds : List Value} (hr : RowT 32 w U v ds) : ∀ b cur, b < U → w.heap[b]? = some (.cells cur 32 (0, 0)) → some b ≠ v.ownBlock := by
  intro b cur hb h1
  obtain ⟨g, c', cur', rfl, g1, g2, _⟩ := hr.ex
  intro e
  simp only [Value.ownBlock, Option.some.injEq] at e
  omega
def AllZF (B : Nat) (w : World) (ds : List Value) (Y : Nat → Int) : Prop := ∀ i, i < ds.length → DzF B w (ds.getD i undef) (Y i)
def AllVF (B U : Nat) (w : World) (es : List Value) (n : Nat) (Y : MZ) : Prop := ∀ i, i < es.length → DVF B U w (es.getD i undef) n (Y i)
theorem AllZF.snoc {B : Nat} {w w' : World} {ds : List Value} {d v v' : Value} {base : Nat} {Y : Nat → Int} (h : AllZF B w ds Y) (hd : DzF B w d (Y ds.length)) (hr : RowT 32 w base v ds) (hm : Moved w w' v v') : AllZF B w' (ds ++ [d]) Y := fun i hi => by
  rw [snoc_getD]
  by_cases hlt : i < ds.length
  · rw [if_pos hlt]
    exact (h i hlt).kept hr hm.gb
  · simp only [List.length_append, List.length_singleton] at hi
    rw [if_neg hlt, if_pos (by omega), show i = ds.length by omega]
    exact hd.kept hr hm.gb
theorem AllVF.snoc {B U : Nat} {w w' : World} {es : List Value} {d v v' : Value} {base n : Nat} {Y : MZ} (h : AllVF B U w es n Y) (hd : DVF B U w d n (Y es.length)) (hr : RowT 60 w base v es) (hm : Moved w w' v v') : AllVF B U w' (es ++ [d]) n Y := fun i hi => by
  rw [snoc_getD]
  by_cases hlt : i < es.length
  · rw [if_pos hlt]
    exact (h i hlt).keptB hr hm.gb (ne_outer hr U)
  · simp only [List.length_append, List.length_singleton] at hi
    rw [if_neg hlt, if_pos (by omega), show i = es.length by omega]
    exact hd.keptB hr hm.gb (ne_outer hr U)
theorem RowT.dvF {B base : Nat} {w : World} {v : Value} {ds : List Value} {Y : Nat → Int} (h : RowT 32 w base v ds) (hd : AllZF B w ds Y) (hB : B ≤ base) : DVF B w.heap.size w v ds.length Y := by
  obtain ⟨g, cap, cur, e, h1, h2, h3, h4, h5, h6, h7⟩ := id h.ex
  subst e
  exact ⟨g, cap, cur, rfl, Nat.le_trans hB h1, (Array.getElem?_eq_some_iff.1 h2).1, h2, fun j hj => ⟨ds.getD j undef, (h.cell j hj).1, hd j hj⟩⟩
theorem FRel.low {w : World} {b : Nat} {t : TypeId} {n : Nat} {P : (Nat → Int) → Prop} {r : Nat} {tr : TypeId} {nr x : Nat} {tx : TypeId} {cx : List Value} {v v' : World} (h : FRel w b t n P r tr nr x tx cx v) {U : Nat} (hb : Below U v v') (h1 : b < U) (h2 : r < U) (h3 : x < U) (h4 : w.heap.size ≤ U) : FRel w b t n P r tr nr x tx cx v' := by
  obtain ⟨s, q1, q2⟩ := h.o
  exact ⟨⟨s, q1.below hb h1, q2⟩, h.z.below hb h2, h.x.below hb h3, h.b.trans (hb.mono h4)⟩
/-- What the inner loop keeps; U: what there was when the row began. -/
structure OfR (w : World) (U : Nat) (ss : List Value) (X : MZ) (k m : Nat) (es ds : List Value) (v5 v7 : Value) (wr : World) : Prop where
  el : es.length = k
  dl : ds.length = m
  ro : RowT 60 wr (w.heap.size + 3) v5 es
  ao : AllVF (w.heap.size + 3) U wr es 3 X
  ri : RowT 32 wr U v7 ds
  ai : AllZF (w.heap.size + 3) wr ds (X k)
  fr : FRel w (w.heap.size + 1 + 1) 40 36 (MP X k m) (w.heap.size + 1) 40 36 w.heap.size 35 ss wr
  us : U ≤ wr.heap.size
  bu : w.heap.size + 3 ≤ U
theorem OfR.up {w : World} {U : Nat} {ss : List Value} {X : MZ} {k m : Nat} {es ds : List Value} {v5 v7 : Value} {wr w' : World} (h : OfR w U ss X k m es ds v5 v7 wr) (hb : Below wr.heap.size wr w') : OfR w U ss X k m es ds v5 v7 w' :=
  ⟨h.el, h.dl, h.ro.below hb, fun i hi => (h.ao i hi).up hb, h.ri.below hb, fun i hi => (h.ai i hi).up hb, h.fr.up hb, Nat.le_trans h.us hb.size, h.bu⟩
/-- The next element of the program's matrix is stored: its row is not yet. -/
structure OfS (w : World) (U : Nat) (ss : List Value) (X : MZ) (k m : Nat) (es ds : List Value) (v5 v7 : Value) (wr : World) : Prop where
  el : es.length = k
  dl : ds.length = m
  ro : RowT 60 wr (w.heap.size + 3) v5 es
  ao : AllVF (w.heap.size + 3) U wr es 3 X
  ri : RowT 32 wr U v7 ds
  ai : AllZF (w.heap.size + 3) wr ds (X k)
  fr : FRel w (w.heap.size + 1 + 1) 40 36 (MP X k (m + 1)) (w.heap.size + 1) 40 36 w.heap.size 35 ss wr
  us : U ≤ wr.heap.size
  bu : w.heap.size + 3 ≤ U
theorem OfR.store {w : World} {U : Nat} {ss : List Value} {X : MZ} {k m : Nat} {es ds : List Value} {v5 v7 : Value} {wr : World} (h : OfR w U ss X k m es ds v5 v7 wr) (hk : k < 3) (hm : m < 3) {g : Nat → Int} (hg : Ez (.agg (wds 4 g).toArray) (X k m)) :
    OfS w U ss X k m es ds v5 v7 (wr.setCells (w.heap.size + 1 + 1) (k * 12 + m * 4) (wds 4 g)) := by
  have ho : Only (w.heap.size + 1 + 1) wr (wr.setCells (w.heap.size + 1 + 1) (k * 12 + m * 4) (wds 4 g)) := Only.sets _ _ _ (Only.refl _ _)
  have hbu := h.bu
  exact ⟨h.el, h.dl, h.ro.only ho (by omega), fun i hi => (h.ao i hi).only ho (by omega), h.ri.only ho (by omega), fun i hi => (h.ai i hi).only ho (by omega),
    h.fr.set (P' := MP X k (m + 1)) _ 4 g (by omega) (by omega) (by omega) (by omega) (fun s hs => MP.put hs hk hm hg), Nat.le_trans h.us ho.size, h.bu⟩
theorem OfS.up {w : World} {U : Nat} {ss : List Value} {X : MZ} {k m : Nat} {es ds : List Value} {v5 v7 : Value} {wr w' : World} (h : OfS w U ss X k m es ds v5 v7 wr) (hb : Below wr.heap.size wr w') : OfS w U ss X k m es ds v5 v7 w' :=
  ⟨h.el, h.dl, h.ro.below hb, fun i hi => (h.ao i hi).up hb, h.ri.below hb, fun i hi => (h.ai i hi).up hb, h.fr.up hb, Nat.le_trans h.us hb.size, h.bu⟩
theorem OfS.app {w : World} {U : Nat} {ss : List Value} {X : MZ} {k m : Nat} {es ds : List Value} {v5 v7 v' d : Value} {wr w' : World} (h : OfS w U ss X k m es ds v5 v7 wr) (hd : DzF (w.heap.size + 3) wr d (X k m)) (hr : RowT 32 w' U v' (ds ++ [d])) (hmv : Moved wr w' v7 v') :
    OfR w U ss X k (m + 1) es (ds ++ [d]) v5 v' w' := by
  have hbl := h.ri.moved hmv h.us
  have hbu := h.bu
  refine ⟨h.el, by rw [List.length_append, h.dl]; rfl, h.ro.kept hmv.gb (RowT.ne te_ne h.ro h.ri), fun i hi => (h.ao i hi).keptB h.ri hmv.gb (ne_inner h.ri), hr, AllZF.snoc h.ai (by rw [h.dl]; exact hd) h.ri hmv, h.fr.low hbl (by omega) (by omega) (by omega) (by omega), Nat.le_trans h.us hbl.size, h.bu⟩
/-- What the outer loop keeps. -/
structure OfO (w : World) (ss : List Value) (X : MZ) (k : Nat) (es : List Value) (v5 : Value) (wr : World) : Prop where
  el : es.length = k
  ro : RowT 60 wr (w.heap.size + 3) v5 es
  ao : AllVF (w.heap.size + 3) wr.heap.size wr es 3 X
  fr : FRel w (w.heap.size + 1 + 1) 40 36 (MP X k 0) (w.heap.size + 1) 40 36 w.heap.size 35 ss wr
  bu : w.heap.size + 3 ≤ wr.heap.size
theorem OfO.begin {w : World} {ss : List Value} {X : MZ} {k : Nat} {es : List Value} {v5 : Value} {wr : World} (h : OfO w ss X k es v5 wr) : OfR w wr.heap.size ss X k 0 es [] v5 (.slice (some ⟨wr.heap.size, 0, none⟩) 0 0) (wr.alloc (.cells #[] 32)) := by
  have hb := (Below.refl wr.heap.size wr).alloc (Nat.le_refl _) (.cells #[] 32)
  exact ⟨h.el, rfl, h.ro.below hb, fun i hi => (h.ao i hi).up hb, RowT.new 32 wr _ (Nat.le_refl _), fun i hi => absurd hi (Nat.not_lt_zero i), h.fr.up hb, hb.size, h.bu⟩
theorem OfR.next {w : World} {U : Nat} {ss : List Value} {X : MZ} {k : Nat} {es ds : List Value} {v5 v7 v' : Value} {wr w' : World} (h : OfR w U ss X k 3 es ds v5 v7 wr) (hr : RowT 60 w' (w.heap.size + 3) v' (es ++ [v7])) (hmv : Moved wr w' v5 v') :
    OfO w ss X (k + 1) (es ++ [v7]) v' w' := by
  have hbu := h.bu
  have hus := h.us
  have hbl := h.ro.moved hmv (Nat.le_trans h.bu h.us)
  have hdv := h.ri.dvF h.ai h.bu
  rw [h.dl] at hdv
  have hs := AllVF.snoc (fun i hi => (h.ao i hi).mono h.us) (by rw [h.el]; exact hdv) h.ro hmv
  exact ⟨by rw [List.length_append, h.el]; rfl, hr, fun i hi => (hs i hi).mono hbl.size, (h.fr.weak (P' := MP X (k + 1) 0) (fun s hs => hs.turn)).low hbl (by omega) (by omega) (by omega) (by omega), Nat.le_trans (Nat.le_trans h.bu h.us) hbl.size⟩
theorem OfR.dvl {w : World} {U : Nat} {ss : List Value} {X : MZ} {k : Nat} {es ds : List Value} {v5 v7 : Value} {wr : World} (h : OfR w U ss X k 3 es ds v5 v7 wr) : ∃ b c, v7 = .slice (some ⟨b, 0, none⟩) 3 c := by
  obtain ⟨g, cap, cur, e, _⟩ := h.ri.ex
  rw [h.dl] at e
  exact ⟨g, cap, e⟩
/-- The nine numbers, by rows. -/
def nums (l : Nat → List Nat) : MZ := fun i j => ((val 256 (l (3 * i + j)) : Nat) : Int)
theorem val40 {l : List Nat} (h : allLt8 l) (hn : l.length ≤ 40) : val 256 l < 4294967296 ^ 30 := by
  refine Nat.lt_of_lt_of_le (val_lt 256 (by decide) l h) ?_
  refine Nat.le_trans (Nat.pow_le_pow_right (by decide) hn) ?_
  exact (by decide : 256 ^ 40 ≤ 4294967296 ^ 30)
end Go.Proofs.YtdepkfdceidikaaDoor
