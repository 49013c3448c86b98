import Derived.Test.YtlpccdbcaffmmaaDoorMnB
/-
  avouchlaw09.of: what the call does.
-/
namespace Go.Proofs.YtlpccdbcaffmmaaDoor
open Go.RowKit
set_option linter.unusedVariables false
set_option linter.unusedSimpArgs false

theorem RowT.only {te : TypeId} {w w' : World} {base bm : Nat} {v : Value} {ds : List Value} (h : RowT te w base v ds) (ho : Only bm w w') (hb : bm < base) : RowT te w' base v ds := by
  obtain ⟨g, cap, cur, e, h1, h2, h3⟩ := h.ex
  exact ⟨g, cap, cur, e, h1, (ho.block g (Array.getElem?_eq_some_iff.1 h2).1 (by omega)).trans h2, h3⟩
theorem RowT.ne {te te' : TypeId} (hte : te ≠ te') {w : World} {b b' : Nat} {v v' : Value} {ds ds' : List Value} (h : RowT te w b v ds) (h' : RowT te' w b' v' ds') : v.ownBlock ≠ v'.ownBlock := by
  obtain ⟨g, cap, cur, rfl, h1, h2, _⟩ := h.ex
  obtain ⟨g', cap', cur', rfl, h1', h2', _⟩ := h'.ex
  intro e
  simp only [Value.ownBlock, Option.some.injEq] at e
  subst e
  rw [h2] at h2'
  simp only [Option.some.injEq, Obj.cells.injEq] at h2'
  exact hte h2'.2.1
theorem te_ne : (40 : TypeId) ≠ 43 := by decide
theorem DzF.mono {B B' : Nat} {w : World} {v : Value} {X : Int} (h : DzF B' w v X) (hb : B ≤ B') : DzF B w v X := ⟨h.dz, fun A n c e a ha => Nat.le_trans hb (h.fr A n c e a ha)⟩
theorem DzF.only {B bm : Nat} {w w' : World} {v : Value} {X : Int} (h : DzF B w v X) (ho : Only bm w w') (hb : bm < B) : DzF B w' v X := by
  refine ⟨?_, h.fr⟩
  obtain ⟨x, hx, hl, e⟩ := h.dz.ex
  refine ⟨⟨x, ?_, hl, e⟩⟩
  obtain ⟨A, c, l, rfl, h1, h2, h3, h4⟩ := hx.ex
  refine ⟨A, c, l, rfl, h1, h2, ⟨h3.len, h3.lt, fun h0 => ?_⟩, h4⟩
  obtain ⟨b, off, eA, hbl, hc⟩ := h3.cells h0
  have hB := h.fr A _ c rfl ⟨b, off, none⟩ eA
  refine ⟨b, off, eA, Nat.lt_of_lt_of_le hbl ho.size, fun i hi => ?_⟩
  exact (World.cell?_of_block (a := ⟨b, off + i, none⟩) (ho.block b hbl (by have : B ≤ b := hB; omega))).trans (hc i hi)
theorem DzF.kept {te : TypeId} {B : Nat} {w w' : World} {d : Value} {X : Int} {base : Nat} {v : Value} {ds : List Value} (h : DzF B w d X) (hr : RowT te w base v ds) (hg : w.grownBy w' v.ownBlock) : DzF B w' d X := ⟨h.dz.kept hr hg, h.fr⟩
/-- As DV; the row's block lies from B on, below U; the digits from B on. -/
structure DVF (B U : Nat) (w : World) (v : Value) (n : Nat) (Y : Nat → Int) : Prop where
  ex : ∃ b cap cur, v = .slice (some ⟨b, 0, none⟩) n cap ∧ B ≤ b ∧ b < U ∧ w.heap[b]? = some (.cells cur 43 (0, 0)) ∧ ∀ j, j < n → ∃ d, w.cell? ⟨b, j, none⟩ = some d ∧ DzF B w d (Y j)
theorem DVF.dv {B U : Nat} {w : World} {v : Value} {n : Nat} {Y : Nat → Int} (h : DVF B U w v n Y) : DV w v n Y := by
  obtain ⟨b, cap, cur, e, h1, h2, h3, h4⟩ := h.ex
  exact ⟨b, cap, cur, e, h3, fun j hj => by obtain ⟨d, q1, q2⟩ := h4 j hj; exact ⟨d, q1, q2.dz⟩⟩
theorem DVF.mono {B U U' : Nat} {w : World} {v : Value} {n : Nat} {Y : Nat → Int} (h : DVF B U w v n Y) (hU : U ≤ U') : DVF B U' w v n Y := by
  obtain ⟨b, cap, cur, e, h1, h2, h3⟩ := h.ex
  exact ⟨b, cap, cur, e, h1, Nat.lt_of_lt_of_le h2 hU, h3⟩
theorem DVF.up {B U : Nat} {w w' : World} {v : Value} {n : Nat} {Y : Nat → Int} (h : DVF B U w v n Y) (hb : Below w.heap.size w w') : DVF B U w' v n Y := by
  obtain ⟨b, cap, cur, e, h1, h2, h3, h4⟩ := h.ex
  have hlt := (Array.getElem?_eq_some_iff.1 h3).1
  refine ⟨b, cap, cur, e, h1, h2, (hb.block b hlt).trans h3, fun j hj => ?_⟩
  obtain ⟨d, q1, q2⟩ := h4 j hj
  exact ⟨d, (hb.cell (p := ⟨b, j, none⟩) hlt).trans q1, q2.up hb⟩
theorem DVF.only {B U bm : Nat} {w w' : World} {v : Value} {n : Nat} {Y : Nat → Int} (h : DVF B U w v n Y) (ho : Only bm w w') (hb : bm < B) : DVF B U w' v n Y := by
  obtain ⟨b, cap, cur, e, h1, h2, h3, h4⟩ := h.ex
  have hlt := (Array.getElem?_eq_some_iff.1 h3).1
  have hbl := ho.block b hlt (by omega)
  refine ⟨b, cap, cur, e, h1, h2, hbl.trans h3, fun j hj => ?_⟩
  obtain ⟨d, q1, q2⟩ := h4 j hj
  exact ⟨d, (World.cell?_of_block (a := ⟨b, j, none⟩) hbl).trans q1, q2.only ho hb⟩
theorem DVF.keptB {te : TypeId} {B U : Nat} {w w' : World} {d : Value} {n : Nat} {Y : Nat → Int} {base : Nat} {v : Value} {ds : List Value} (h : DVF B U w d n Y) (hr : RowT te w base v ds) (hg : w.grownBy w' v.ownBlock)
    (hne : ∀ b cur, b < U → w.heap[b]? = some (.cells cur 43 (0, 0)) → some b ≠ v.ownBlock) : DVF B U w' d n Y := by
  obtain ⟨b, cap, cur, e, h1, h2, h3, h4⟩ := h.ex
  have hlt := (Array.getElem?_eq_some_iff.1 h3).1
  have hbl := hg.block b hlt (hne b cur h2 h3)
  refine ⟨b, cap, cur, e, h1, h2, hbl.trans h3, fun j hj => ?_⟩
  obtain ⟨x, q1, q2⟩ := h4 j hj
  exact ⟨x, (World.cell?_of_block (a := ⟨b, j, none⟩) hbl).trans q1, q2.kept hr hg⟩
theorem ne_outer {w : World} {base : Nat} {v : Value} {ds : List Value} (hr : RowT 40 w base v ds) (U : Nat) : ∀ b cur, b < U → w.heap[b]? = some (.cells cur 43 (0, 0)) → some b ≠ v.ownBlock := by
  intro b cur _ h1
  obtain ⟨g, c', cur', rfl, g1, g2, _⟩ := hr.ex
  intro e
  simp only [Value.ownBlock, Option.some.injEq] at e
  subst e
  rw [h1] at g2
  simp at g2
theorem ne_inner {w : World} {U : Nat} {v : Value} {ds : List Value} (hr : RowT 43 w U v ds) : ∀ b cur, b < U → w.heap[b]? = some (.cells cur 43 (0, 0)) → some b ≠ v.ownBlock := by
  intro b cur hb h1
  obtain ⟨g, c', cur', rfl, g1, g2, _⟩ := hr.ex
  intro e
  simp only [Value.ownBlock, Option.some.injEq] at e
  omega
def AllZF (B : Nat) (w : World) (ds : List Value) (Y : Nat → Int) : Prop := ∀ i, i < ds.length → DzF B w (ds.getD i undef) (Y i)
def AllVF (B U : Nat) (w : World) (es : List Value) (n : Nat) (Y : MZ) : Prop := ∀ i, i < es.length → DVF B U w (es.getD i undef) n (Y i)
theorem AllZF.snoc {B : Nat} {w w' : World} {ds : List Value} {d v v' : Value} {base : Nat} {Y : Nat → Int} (h : AllZF B w ds Y) (hd : DzF B w d (Y ds.length)) (hr : RowT 43 w base v ds) (hm : Moved w w' v v') : AllZF B w' (ds ++ [d]) Y := fun i hi => by
  rw [snoc_getD]
  by_cases hlt : i < ds.length
  · rw [if_pos hlt]
    exact (h i hlt).kept hr hm.gb
  · simp only [List.length_append, List.length_singleton] at hi
    rw [if_neg hlt, if_pos (by omega), show i = ds.length by omega]
    exact hd.kept hr hm.gb
theorem AllVF.snoc {B U : Nat} {w w' : World} {es : List Value} {d v v' : Value} {base n : Nat} {Y : MZ} (h : AllVF B U w es n Y) (hd : DVF B U w d n (Y es.length)) (hr : RowT 40 w base v es) (hm : Moved w w' v v') : AllVF B U w' (es ++ [d]) n Y := fun i hi => by
  rw [snoc_getD]
  by_cases hlt : i < es.length
  · rw [if_pos hlt]
    exact (h i hlt).keptB hr hm.gb (ne_outer hr U)
  · simp only [List.length_append, List.length_singleton] at hi
    rw [if_neg hlt, if_pos (by omega), show i = es.length by omega]
    exact hd.keptB hr hm.gb (ne_outer hr U)
theorem RowT.dvF {B base : Nat} {w : World} {v : Value} {ds : List Value} {Y : Nat → Int} (h : RowT 43 w base v ds) (hd : AllZF B w ds Y) (hB : B ≤ base) : DVF B w.heap.size w v ds.length Y := by
  obtain ⟨g, cap, cur, e, h1, h2, h3, h4, h5, h6, h7⟩ := id h.ex
  subst e
  exact ⟨g, cap, cur, rfl, Nat.le_trans hB h1, (Array.getElem?_eq_some_iff.1 h2).1, h2, fun j hj => ⟨ds.getD j undef, (h.cell j hj).1, hd j hj⟩⟩
theorem FRel.low {w : World} {b : Nat} {t : TypeId} {n : Nat} {P : (Nat → Int) → Prop} {r : Nat} {tr : TypeId} {nr x : Nat} {tx : TypeId} {cx : List Value} {v v' : World} (h : FRel w b t n P r tr nr x tx cx v) {U : Nat} (hb : Below U v v') (h1 : b < U) (h2 : r < U) (h3 : x < U) (h4 : w.heap.size ≤ U) : FRel w b t n P r tr nr x tx cx v' := by
  obtain ⟨s, q1, q2⟩ := h.o
  exact ⟨⟨s, q1.below hb h1, q2⟩, h.z.below hb h2, h.x.below hb h3, h.b.trans (hb.mono h4)⟩
/-- What the inner loop keeps; U: what there was when the row began. -/
structure OfR (w : World) (U : Nat) (ss : List Value) (X : MZ) (k m : Nat) (es ds : List Value) (v5 v7 : Value) (wr : World) : Prop where
  el : es.length = k
  dl : ds.length = m
  ro : RowT 40 wr (w.heap.size + 3) v5 es
  ao : AllVF (w.heap.size + 3) U wr es 3 X
  ri : RowT 43 wr U v7 ds
  ai : AllZF (w.heap.size + 3) wr ds (X k)
  fr : FRel w (w.heap.size + 1 + 1) 34 36 (MP X k m) (w.heap.size + 1) 34 36 w.heap.size 24 ss wr
  us : U ≤ wr.heap.size
  bu : w.heap.size + 3 ≤ U
theorem OfR.up {w : World} {U : Nat} {ss : List Value} {X : MZ} {k m : Nat} {es ds : List Value} {v5 v7 : Value} {wr w' : World} (h : OfR w U ss X k m es ds v5 v7 wr) (hb : Below wr.heap.size wr w') : OfR w U ss X k m es ds v5 v7 w' :=
  ⟨h.el, h.dl, h.ro.below hb, fun i hi => (h.ao i hi).up hb, h.ri.below hb, fun i hi => (h.ai i hi).up hb, h.fr.up hb, Nat.le_trans h.us hb.size, h.bu⟩
/-- The next element of the program's matrix is stored: its row is not yet. -/
structure OfS (w : World) (U : Nat) (ss : List Value) (X : MZ) (k m : Nat) (es ds : List Value) (v5 v7 : Value) (wr : World) : Prop where
  el : es.length = k
  dl : ds.length = m
  ro : RowT 40 wr (w.heap.size + 3) v5 es
  ao : AllVF (w.heap.size + 3) U wr es 3 X
  ri : RowT 43 wr U v7 ds
  ai : AllZF (w.heap.size + 3) wr ds (X k)
  fr : FRel w (w.heap.size + 1 + 1) 34 36 (MP X k (m + 1)) (w.heap.size + 1) 34 36 w.heap.size 24 ss wr
  us : U ≤ wr.heap.size
  bu : w.heap.size + 3 ≤ U
theorem OfR.store {w : World} {U : Nat} {ss : List Value} {X : MZ} {k m : Nat} {es ds : List Value} {v5 v7 : Value} {wr : World} (h : OfR w U ss X k m es ds v5 v7 wr) (hk : k < 3) (hm : m < 3) {g : Nat → Int} (hg : Ez (.agg (wds 4 g).toArray) (X k m)) :
    OfS w U ss X k m es ds v5 v7 (wr.setCells (w.heap.size + 1 + 1) (k * 12 + m * 4) (wds 4 g)) := by
  have ho : Only (w.heap.size + 1 + 1) wr (wr.setCells (w.heap.size + 1 + 1) (k * 12 + m * 4) (wds 4 g)) := Only.sets _ _ _ (Only.refl _ _)
  have hbu := h.bu
  exact ⟨h.el, h.dl, h.ro.only ho (by omega), fun i hi => (h.ao i hi).only ho (by omega), h.ri.only ho (by omega), fun i hi => (h.ai i hi).only ho (by omega),
    h.fr.set (P' := MP X k (m + 1)) _ 4 g (by omega) (by omega) (by omega) (by omega) (fun s hs => MP.put hs hk hm hg), Nat.le_trans h.us ho.size, h.bu⟩
theorem OfS.up {w : World} {U : Nat} {ss : List Value} {X : MZ} {k m : Nat} {es ds : List Value} {v5 v7 : Value} {wr w' : World} (h : OfS w U ss X k m es ds v5 v7 wr) (hb : Below wr.heap.size wr w') : OfS w U ss X k m es ds v5 v7 w' :=
  ⟨h.el, h.dl, h.ro.below hb, fun i hi => (h.ao i hi).up hb, h.ri.below hb, fun i hi => (h.ai i hi).up hb, h.fr.up hb, Nat.le_trans h.us hb.size, h.bu⟩
theorem OfS.app {w : World} {U : Nat} {ss : List Value} {X : MZ} {k m : Nat} {es ds : List Value} {v5 v7 v' d : Value} {wr w' : World} (h : OfS w U ss X k m es ds v5 v7 wr) (hd : DzF (w.heap.size + 3) wr d (X k m)) (hr : RowT 43 w' U v' (ds ++ [d])) (hmv : Moved wr w' v7 v') :
    OfR w U ss X k (m + 1) es (ds ++ [d]) v5 v' w' := by
  have hbl := h.ri.moved hmv h.us
  have hbu := h.bu
  refine ⟨h.el, by rw [List.length_append, h.dl]; rfl, h.ro.kept hmv.gb (RowT.ne te_ne h.ro h.ri), fun i hi => (h.ao i hi).keptB h.ri hmv.gb (ne_inner h.ri), hr, AllZF.snoc h.ai (by rw [h.dl]; exact hd) h.ri hmv, h.fr.low hbl (by omega) (by omega) (by omega) (by omega), Nat.le_trans h.us hbl.size, h.bu⟩
/-- What the outer loop keeps. -/
structure OfO (w : World) (ss : List Value) (X : MZ) (k : Nat) (es : List Value) (v5 : Value) (wr : World) : Prop where
  el : es.length = k
  ro : RowT 40 wr (w.heap.size + 3) v5 es
  ao : AllVF (w.heap.size + 3) wr.heap.size wr es 3 X
  fr : FRel w (w.heap.size + 1 + 1) 34 36 (MP X k 0) (w.heap.size + 1) 34 36 w.heap.size 24 ss wr
  bu : w.heap.size + 3 ≤ wr.heap.size
theorem OfO.begin {w : World} {ss : List Value} {X : MZ} {k : Nat} {es : List Value} {v5 : Value} {wr : World} (h : OfO w ss X k es v5 wr) : OfR w wr.heap.size ss X k 0 es [] v5 (.slice (some ⟨wr.heap.size, 0, none⟩) 0 0) (wr.alloc (.cells #[] 43)) := by
  have hb := (Below.refl wr.heap.size wr).alloc (Nat.le_refl _) (.cells #[] 43)
  exact ⟨h.el, rfl, h.ro.below hb, fun i hi => (h.ao i hi).up hb, RowT.new 43 wr _ (Nat.le_refl _), fun i hi => absurd hi (Nat.not_lt_zero i), h.fr.up hb, hb.size, h.bu⟩
theorem OfR.next {w : World} {U : Nat} {ss : List Value} {X : MZ} {k : Nat} {es ds : List Value} {v5 v7 v' : Value} {wr w' : World} (h : OfR w U ss X k 3 es ds v5 v7 wr) (hr : RowT 40 w' (w.heap.size + 3) v' (es ++ [v7])) (hmv : Moved wr w' v5 v') :
    OfO w ss X (k + 1) (es ++ [v7]) v' w' := by
  have hbu := h.bu
  have hus := h.us
  have hbl := h.ro.moved hmv (Nat.le_trans h.bu h.us)
  have hdv := h.ri.dvF h.ai h.bu
  rw [h.dl] at hdv
  have hs := AllVF.snoc (fun i hi => (h.ao i hi).mono h.us) (by rw [h.el]; exact hdv) h.ro hmv
  exact ⟨by rw [List.length_append, h.el]; rfl, hr, fun i hi => (hs i hi).mono hbl.size, (h.fr.weak (P' := MP X (k + 1) 0) (fun s hs => hs.turn)).low hbl (by omega) (by omega) (by omega) (by omega), Nat.le_trans (Nat.le_trans h.bu h.us) hbl.size⟩
theorem OfR.dvl {w : World} {U : Nat} {ss : List Value} {X : MZ} {k : Nat} {es ds : List Value} {v5 v7 : Value} {wr : World} (h : OfR w U ss X k 3 es ds v5 v7 wr) : ∃ b c, v7 = .slice (some ⟨b, 0, none⟩) 3 c := by
  obtain ⟨g, cap, cur, e, _⟩ := h.ri.ex
  rw [h.dl] at e
  exact ⟨g, cap, e⟩
/-- The nine numbers, by rows. -/
def nums (l : Nat → List Nat) : MZ := fun i j => ((val 256 (l (3 * i + j)) : Nat) : Int)
theorem val40 {l : List Nat} (h : allLt8 l) (hn : l.length ≤ 40) : val 256 l < 4294967296 ^ 30 := by
  refine Nat.lt_of_lt_of_le (val_lt 256 (by decide) l h) ?_
  refine Nat.le_trans (Nat.pow_le_pow_right (by decide) hn) ?_
  exact (by decide : 256 ^ 40 ≤ 4294967296 ^ 30)
end Go.Proofs.YtlpccdbcaffmmaaDoor
/-
  avouchlaw09.of: the walk.
-/
namespace Go.Proofs.YtlpccdbcaffmmaaDoor
open Go.RowKit
set_option linter.unusedVariables false
set_option linter.unusedSimpArgs false

set_option maxRecDepth 40000 in
set_option maxHeartbeats 2000000 in
theorem of9_c (A : Nat → Option Addr) (n c : Nat → Nat) (l : Nat → List Nat) (w : World) (hN : N9 w w.heap.size A n l) (hF : Few n) (hG : Glob w) :
    Calls Tryd.prog 9 #[.agg (sls A n c).toArray] w fun e w' => ∃ f r, e = .returned (.tuple #[.agg (wds 36 f).toArray, r]) ∧ MatZ f (nums l) ∧ DM w' r 3 (nums l) ∧ Below w.heap.size w w' := by
  have hz := zeroM
  have hlz := wds_len 36 z0
  have hls := sls_len A n c
  have e1 : (w.alloc (.cells (sls A n c).toArray 24)).heap.size = w.heap.size + 1 := by simp
  have e2 : ((w.alloc (.cells (sls A n c).toArray 24)).alloc (oF 34 36 z0)).heap.size = w.heap.size + 1 + 1 := by simp
  have e3 : (((w.alloc (.cells (sls A n c).toArray 24)).alloc (oF 34 36 z0)).alloc (oF 34 36 z0)).heap.size = w.heap.size + 3 := by simp
  have h1 := (((BlkV.new w 24 (sls A n c)).alloc (oF 34 36 z0)).alloc (oF 34 36 z0)).alloc (.cells #[] 40)
  have h2 := ((oF_new (w.alloc (.cells (sls A n c).toArray 24)) 34 36 z0).alloc (oF 34 36 z0)).alloc (.cells #[] 40)
  have h3 := (oF_new ((w.alloc (.cells (sls A n c).toArray 24)).alloc (oF 34 36 z0)) 34 36 z0).alloc (.cells #[] 40)
  have h4 := RowT.new 40 (((w.alloc (.cells (sls A n c).toArray 24)).alloc (oF 34 36 z0)).alloc (oF 34 36 z0)) (w.heap.size + 3) (by omega)
  rw [e1] at h2
  rw [e2] at h3
  rw [e3] at h4
  have hb := ((((Below.refl w.heap.size w).alloc (Nat.le_refl _) (.cells (sls A n c).toArray 24)).alloc (by omega) (oF 34 36 z0)).alloc (by omega) (oF 34 36 z0)).alloc (by omega) (.cells #[] 40)
  have R0 := hid (show OfO w (sls A n c) (nums l) 0 [] (.slice (some ⟨w.heap.size + 1 + 1 + 1, 0, none⟩) 0 0) _ from ⟨rfl, h4, fun i hi => absurd hi (Nat.not_lt_zero i), ⟨⟨z0, h3, MP.zero _ _⟩, h2, h1, hb⟩, by simp⟩)
  have HN := hid hN
  have HF := hid hF
  have HG0 := hid hG
  clear h1 h2 h3 h4 e1 e2 e3 hb hN hF hG
  unfold oF at R0
  go_enter Tryd.func9, Tryd.ntmps9
  go_wp2_with fail
  generalize ((((w.alloc _).alloc _).alloc _).alloc _) = w0 at *
  go_loopw [5, 10] (fun v i wr => ∃ k : Nat, ∃ es : List Value, k ≤ 3 ∧ i = .int .i64 k ∧ OfO w (sls A n c) (nums l) k es v wr) (fun _ i _ => 3 - (intOf i).toNat)
  case atStart => exact ⟨0, [], by omega, rfl, R0.out⟩
  case round =>
    clear R0
    obtain ⟨k, es, hk, rfl, hO⟩ := hrel
    by_cases hlt : k < 3
    · have i0 : (0 : Int) ≤ (k : Int) := by omega
      have i2 : (k : Int) < 3 := by omega
      have R1 := hid hO.begin
      obtain ⟨U, hU⟩ : ∃ U, U = wr.heap.size := ⟨_, rfl⟩
      rw [← hU] at R1
      clear hO
      go_wp2_with fail
      rw [← hU]
      clear hU
      generalize (wr.alloc _) = w2 at *
      go_loopw [7, 14] (fun v i wr => ∃ m : Nat, ∃ ds : List Value, m ≤ 3 ∧ i = .int .i64 m ∧ OfR w U (sls A n c) (nums l) k m es ds u5 v wr) (fun _ i _ => 3 - (intOf i).toNat)
      case atStart => exact ⟨0, [], by omega, rfl, R1.out⟩
      case round =>
        clear R1
        obtain ⟨m, ds, hm, rfl, hO⟩ := hrel
        by_cases hltm : m < 3
        · have j0 : (0 : Int) ≤ (m : Int) := by omega
          have j2 : (m : Int) < 3 := by omega
          obtain ⟨p, hpe⟩ : ∃ p, p = 3 * k + m := ⟨_, rfl⟩
          have hp : p < 9 := by omega
          have hn40 := HF.out p hp
          have hn1000 : n p ≤ 1000 := by omega
          have hw1 : IntKind.i64.wrap (3 * (k : Int)) = 3 * (k : Int) := by rw [IntKind.wrap_i64]; omega
          have hw2 : IntKind.i64.wrap (3 * (k : Int) + (m : Int)) = (p : Int) := by rw [IntKind.wrap_i64]; omega
          have hw3 : 3 * (k : Int) + (m : Int) = (p : Int) := by omega
          have hw4 : IntKind.i64.wrap (p : Int) = (p : Int) := by rw [IntKind.wrap_i64]; omega
          have p0 : (0 : Int) ≤ (p : Int) := by omega
          have p9 : (p : Int) < 9 := by omega
          have hvl : val 256 (l p) < 4294967296 ^ 30 := by
            have h := HN.out.at_ p hp
            exact val40 h.lt (by rw [h.len]; exact hn40)
          have HXE : Hid (((val 256 (l p) : Nat) : Int) = nums l k m) := by show _ = _; unfold nums; rw [hpe]
          have HC9 : Hid (∀ v, BlkV v w.heap.size 24 (sls A n c) → v.cell? ⟨w.heap.size, p, none⟩ = some (.slice (A p) (n p) (c p))) := fun v hv => by
            have h := hv.cell (i := p) (by rw [hls]; exact hp)
            have g := sls_get (A := A) (n := n) (c := c) hp
            rw [List.getElem?_eq_getElem (by rw [hls]; exact hp)] at g
            rw [h]
            exact g
          have HO := hid hO
          clear hO hpe
          go_wp2_with fail
          have hr0 := HO.out.up (Below.refl _ _).drew
          refine wp_region_held_drew (S := fun v => BlkV v w.heap.size 24 (sls A n c)) (by kernel_rfl) (hr0).fr.x (fun hHeld => ?_)
          refine wpAnyH_take (i := 0) (v := ?_) rfl (by kernel_rfl) (by kernel_rfl) (by kernel_rfl) (fun _ _ _ h => h) (Or.inl ⟨by rfl, fun v hv => ?_⟩) (by with_reducible assumption) ?_
          rotate_left
          · go_simp
            try with_reducible rfl
          simp only [Act.put, List.setIfInBounds_toArray, List.set_cons_zero, List.set_cons_succ, List.getElem_toArray, List.getElem_cons_zero, List.getElem_cons_succ]
          refine wpAnyH_take (i := 1) (v := ?_) rfl (by kernel_rfl) (by kernel_rfl) (by kernel_rfl) (fun _ _ _ h => h) (Or.inl ⟨by rfl, fun v hv => ?_⟩) (by with_reducible assumption) ?_
          rotate_left
          · go_simp
            try with_reducible rfl
          simp only [Act.put, List.setIfInBounds_toArray, List.set_cons_zero, List.set_cons_succ, List.getElem_toArray, List.getElem_cons_zero, List.getElem_cons_succ]
          refine wpAnyH_take (i := 2) (v := ?_) rfl (by kernel_rfl) (by kernel_rfl) (by kernel_rfl) (fun _ _ _ h => h) (Or.inl ⟨by rfl, fun v hv => ?_⟩) (by with_reducible assumption) ?_
          rotate_left
          · go_simp
            try with_reducible rfl
          simp only [Act.put, List.setIfInBounds_toArray, List.set_cons_zero, List.set_cons_succ, List.getElem_toArray, List.getElem_cons_zero, List.getElem_cons_succ]
          refine wpAnyH_take (i := 3) (v := ?_) rfl (by kernel_rfl) (by kernel_rfl) (by kernel_rfl) (fun _ _ _ h => h) (Or.inl ⟨by rfl, fun v hv => ?_⟩) (by with_reducible assumption) ?_
          rotate_left
          · go_simp
            try with_reducible rfl
          simp only [Act.put, List.setIfInBounds_toArray, List.set_cons_zero, List.set_cons_succ, List.getElem_toArray, List.getElem_cons_zero, List.getElem_cons_succ]
          refine wpAnyH_take (i := 4) (v := ?_) rfl (by kernel_rfl) (by kernel_rfl) (by kernel_rfl) (fun _ _ _ h => h) (Or.inl ⟨by rfl, fun v hv => ?_⟩) (by with_reducible assumption) ?_
          rotate_left
          · go_simp
            try with_reducible rfl
          simp only [Act.put, List.setIfInBounds_toArray, List.set_cons_zero, List.set_cons_succ, List.getElem_toArray, List.getElem_cons_zero, List.getElem_cons_succ]
          refine wpAnyH_take (i := 5) (v := ?_) rfl (by kernel_rfl) (by kernel_rfl) (by kernel_rfl) (fun _ _ _ h => h) (Or.inl ⟨by rfl, fun v hv => ?_⟩) (by with_reducible assumption) ?_
          rotate_left
          · go_simp
            try with_reducible rfl
          simp only [Act.put, List.setIfInBounds_toArray, List.set_cons_zero, List.set_cons_succ, List.getElem_toArray, List.getElem_cons_zero, List.getElem_cons_succ]
          refine wpAnyH_take (i := 6) (v := ?_) rfl (by kernel_rfl) (by kernel_rfl) (by kernel_rfl) (fun _ _ _ h => h) (Or.inl ⟨by rfl, fun v hv => ?_⟩) (by with_reducible assumption) ?_
          rotate_left
          · go_simp
            try with_reducible rfl
          simp only [Act.put, List.setIfInBounds_toArray, List.set_cons_zero, List.set_cons_succ, List.getElem_toArray, List.getElem_cons_zero, List.getElem_cons_succ]
          refine wpAnyH_take (i := 7) (v := ?_) rfl (by kernel_rfl) (by kernel_rfl) (by kernel_rfl) (fun _ _ _ h => h) (Or.inl ⟨by rfl, fun v hv => ?_⟩) (by with_reducible assumption) ?_
          rotate_left
          · have hcc := HC9.out v hv
            go_simp
            try with_reducible rfl
          simp only [Act.put, List.setIfInBounds_toArray, List.set_cons_zero, List.set_cons_succ, List.getElem_toArray, List.getElem_cons_zero, List.getElem_cons_succ]
          refine wpAnyH_take (i := 9) (v := ?_) rfl (by kernel_rfl) (by kernel_rfl) (by kernel_rfl) (fun _ _ _ h => h) (Or.inl ⟨by rfl, fun v hv => ?_⟩) (by with_reducible assumption) ?_
          rotate_left
          · go_simp
            try with_reducible rfl
          simp only [Act.put, List.setIfInBounds_toArray, List.set_cons_zero, List.set_cons_succ, List.getElem_toArray, List.getElem_cons_zero, List.getElem_cons_succ]
          refine wpAnyH_ready (rs := [8]) (by kernel_rfl) (by simp) ?_
          refine (AllReadyH.cons rfl (fun K hK => ?_) AllReadyH.nil)
          go_simp
          go_at_call 27
          with_reducible refine (fromWideZ_c (A p) (n p) (c p) (l p) wr.drew (((HN.out.at_ p hp).below (hr0).fr.b (Nat.le_refl _)).more (hr0).fr.b.size) hn1000 (HG0.out.up (hr0).fr.b)).mono ?_
          rintro e wq1 ⟨_, rfl, he0, hbq1⟩
          have hr_q1 := (hr0).up hbq1
          have he1 := he0.eq HXE.out
          obtain ⟨gr, rfl⟩ := he1.fn
          try dsimp only
          refine hK.out _ _ ((hr_q1).fr.x) (fun hHeld => ?_)
          clear hK K
          try simp only [Act.put, List.setIfInBounds_toArray, List.set_cons_zero, List.set_cons_succ, List.getElem_toArray, List.getElem_cons_zero, List.getElem_cons_succ]
          refine wpAnyH_take (i := 10) (v := ?_) rfl (by kernel_rfl) (by kernel_rfl) (by kernel_rfl) (fun _ _ _ h => h) (Or.inl ⟨by rfl, fun v hv => ?_⟩) (by with_reducible assumption) ?_
          rotate_left
          · go_simp
            try with_reducible rfl
          simp only [Act.put, List.setIfInBounds_toArray, List.set_cons_zero, List.set_cons_succ, List.getElem_toArray, List.getElem_cons_zero, List.getElem_cons_succ]
          refine wpAnyH_ready (rs := [11]) (by kernel_rfl) (by simp) ?_
          refine (AllReadyH.cons rfl (fun K hK => ?_) AllReadyH.nil)
          refine ready_go (by rfl) ?_
          refine wp_store_mid 30 (.tmp 27) (.tmp 25) rfl (w.heap.size + 1 + 1) (k * 12 + m * 4) (wds 4 gr).toArray rfl rfl ((hr_q1).fr.there (k * 12 + m * 4) 4 gr (by omega)) (sizeEA _) (wds_all _ _) ?_
          have hstq2 := (hr_q1).store hlt hltm (X := nums l) he1
          have hst2q2 : OfS w U (sls A n c) (nums l) k m es ds u5 u7 _ := hstq2
          refine hK.out _ _ ((hst2q2).fr.x) (fun hHeld => ?_)
          clear hK K
          try simp only [Act.put, List.setIfInBounds_toArray, List.set_cons_zero, List.set_cons_succ, List.getElem_toArray, List.getElem_cons_zero, List.getElem_cons_succ]
          refine wpAnyH_done (by kernel_rfl) ?_ _
          have hcc := HC9.out _ (hst2q2).fr.x
          go_wp2_with fail
          clear hcc
          refine (dOfBytes_c (A p) (n p) (c p) (l p) _ (((HN.out.at_ p hp).below (hst2q2).fr.b (Nat.le_refl _)).more (hst2q2).fr.b.size) hn1000).mono ?_
          rintro e wx ⟨rx, rfl, hx, bx⟩
          have hox := OfS.up hst2q2 bx
          have HOX := hid hox
          have HX := hid hx
          clear hx bx hox
          go_wp2_with fail
          refine (dModF_c rx _ wx HX.out hvl).mono ?_
          rintro e wy ⟨d, rfl, hd, bd⟩
          have hoy := HOX.out.up bd
          have hd2 := (hd.mono (B := w.heap.size + 3) (Nat.le_trans HOX.out.bu HOX.out.us)).eq HXE.out
          have HOY := hid hoy
          have HDD := hid hd2
          have hds := hd.dz.sl
          obtain ⟨dA, dn, dc, rfl⟩ := hd.dz.form
          have hl : ds.length ≤ 1000 := by rw [hoy.dl]; omega
          clear hoy hd hd2 bd HOX HX
          go_wp2_with (at_builtin; refine app_rowT 43 40 Tryd.underlying40 sl_info rfl (.tmp 28) (.tmp 37) rfl u7 U ds (.slice dA dn dc) rfl rfl HOY.out.ri hl HOY.out.us hds ?_)
          intro v5 w5 hR5 hM5
          have HG := hid (HOY.out.app HDD.out hR5 hM5)
          clear hR5 hM5 HOY HDD hl
          go_wp2_with fail
          go_roundw
          case rel => exact ⟨m + 1, _, by omega, by go_num, HG.out⟩
          case measure => simp [intOf]; omega
        · obtain rfl : m = 3 := by omega
          obtain ⟨bb, cb, rfl⟩ := hO.dvl
          have HO := hid hO
          have hl : es.length ≤ 1000 := by rw [hO.el]; omega
          clear hO
          go_wp2_with (at_builtin; refine app_rowT 40 36 Tryd.underlying36 rr_info rfl (.tmp 40) (.tmp 42) rfl u5 (w.heap.size + 3) es (.slice (some ⟨bb, 0, none⟩) 3 cb) rfl rfl HO.out.ro hl (Nat.le_trans HO.out.bu HO.out.us) rfl ?_)
          intro v5 w5 hR5 hM5
          have HG := hid (HO.out.next hR5 hM5)
          clear hR5 hM5 HO hl
          go_wp2_with fail
          go_roundw
          case rel => exact ⟨k + 1, _, by omega, by go_num, HG.out⟩
          case measure => simp [intOf]; omega
    · obtain rfl : k = 3 := by omega
      obtain ⟨⟨f, h1, h2⟩, h3, h4, h5⟩ := hO.fr
      have HV := hid (MP.end_ h2)
      have HO := hid h1.range
      have HT := hid (h3.thereW 0 36 f (by decide))
      have HR := hid (h3.lay0 f).range
      have ho : Only (w.heap.size + 1) wr (wr.setCells (w.heap.size + 1) 0 (wds 36 f)) := Only.sets _ _ _ (Only.refl _ _)
      have hro := hO.ro.only ho (by omega)
      have hdm := hro.dm (Y := nums l) (by rw [hO.el]; exact fun i hi => ((hO.ao i hi).only ho (by omega)).dv)
      rw [hO.el] at hdm
      have HDM := hid hdm
      have HB := hid (below_cells (show w.heap.size ≤ w.heap.size + 1 by omega) (wds 36 f) 0 _ h5)
      clear h1 h2 h3 h4 h5 hO ho hro hdm
      go_wp2_with (first
    | with_reducible refine wpList_load_mid rfl 34 (.tmp 4) rfl (w.heap.size + 1 + 1) (0) rfl (wds 36 f) _ (by with_reducible exact HO.out) Tryd.underlying34 rfl (sizeM _) ?_
    | with_reducible refine wpList_store_mid rfl 34 (.tmp 2) (.tmp 45) rfl (w.heap.size + 1) (0) (wds 36 f).toArray rfl rfl (by with_reducible exact HT.out) (sizeMA _) (wds_all _ _) ?_)
      refine bodyPost_ret (results_cell_tmp0 Tryd.results9 ⟨w.heap.size + 1, 0, none⟩ _ _ rfl (run_loadVar_mid _ (w.heap.size + 1) 0 34 (wds 36 f) _ HR.out Tryd.underlying34 rfl (sizeM _)) rfl) rfl ?_
      exact ⟨_, _, rfl, HV.out, HDM.out, HB.out⟩
end Go.Proofs.YtlpccdbcaffmmaaDoor
