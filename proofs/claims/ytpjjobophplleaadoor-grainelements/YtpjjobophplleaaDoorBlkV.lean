/-
  Blocks of any cells, known whole: read, written, stored and loaded whole. Helpers for the walks; nothing of the program.
-/
import Derived.Test.YtpjjobophplleaaDoorMem
import Derived.Deep.MidRow
namespace Go.Proofs.YtpjjobophplleaaDoor
open Go.RowKit
set_option linter.unusedVariables false

/-- Block b is just the cells vs (of type t), none frozen. -/
structure BlkV (w : World) (b : Nat) (t : TypeId) (vs : List Value) : Prop where
  heap : w.heap[b]? = some (.cells vs.toArray t (0, 0))
theorem BlkV.size {w : World} {b : Nat} {t : TypeId} {vs : List Value} (h : BlkV w b t vs) : b < w.heap.size := by
  rcases Nat.lt_or_ge b w.heap.size with hlt | hge
  · exact hlt
  · have := h.heap; rw [Array.getElem?_eq_none hge] at this; cases this
theorem BlkV.cell {w : World} {b : Nat} {t : TypeId} {vs : List Value} (h : BlkV w b t vs) {i : Nat} (hi : i < vs.length) : w.cell? ⟨b, i, none⟩ = some vs[i] := by
  rw [cell_of_row w b i _ t (0, 0) h.heap]
  simp [List.getElem?_eq_getElem hi]
theorem BlkV.frozen {w : World} {b : Nat} {t : TypeId} {vs : List Value} (h : BlkV w b t vs) (i : Nat) : w.frozen? ⟨b, i, none⟩ = false := by
  simp [World.frozen?, h.heap]
theorem BlkV.below {w w' : World} {b B : Nat} {t : TypeId} {vs : List Value} (h : BlkV w b t vs) (hb : Below B w w') (hB : b < B) : BlkV w' b t vs := ⟨(hb.block b hB).trans h.heap⟩
theorem BlkV.up {w w' : World} {b : Nat} {t : TypeId} {vs : List Value} (h : BlkV w b t vs) (hb : Below w.heap.size w w') : BlkV w' b t vs := h.below hb h.size
theorem BlkV.alloc {w : World} {b : Nat} {t : TypeId} {vs : List Value} (h : BlkV w b t vs) (o : Obj) : BlkV (w.alloc o) b t vs := h.below ((Below.refl _ _).alloc (Nat.le_refl _) o) h.size
theorem BlkV.drewN {w : World} {b : Nat} {t : TypeId} {vs : List Value} (h : BlkV w b t vs) (n : Nat) : BlkV (w.drewN n) b t vs := ⟨h.heap⟩
theorem BlkV.drew {w : World} {b : Nat} {t : TypeId} {vs : List Value} (h : BlkV w b t vs) : BlkV w.drew b t vs := ⟨h.heap⟩
theorem BlkV.new (w : World) (t : TypeId) (vs : List Value) : BlkV (w.alloc (.cells vs.toArray t)) w.heap.size t vs := ⟨heap_alloc_new w _⟩
theorem BlkV.set {w : World} {b : Nat} {t : TypeId} {vs : List Value} (h : BlkV w b t vs) (i : Nat) (v : Value) : BlkV (w.setCell ⟨b, i, none⟩ v) b t (vs.set i v) := by
  refine ⟨?_⟩
  simp [World.setCell, Array.getElem?_modify, h.heap]
theorem BlkV.other {w : World} {b c i : Nat} {t : TypeId} {v : Value} {vs : List Value} (h : BlkV w b t vs) (hne : b ≠ c) : BlkV (w.setCell ⟨c, i, none⟩ v) b t vs := by
  refine ⟨?_⟩
  simp only [World.setCell]
  rw [Array.getElem?_modify, if_neg (by omega)]
  exact h.heap
theorem BlkV.put {b c : Nat} {t : TypeId} {vs : List Value} (hne : b ≠ c) : ∀ (us : List Value) (o : Nat) (w : World), BlkV w b t vs → BlkV (w.setCells c o us) b t vs
  | [], _, _, h => h
  | u :: us, o, w, h => BlkV.put hne us (o + 1) _ (h.other hne)
theorem BlkV.range {w : World} {b : Nat} {t : TypeId} {vs : List Value} (h : BlkV w b t vs) : w.rangeAt b 0 vs := fun j v hv => by
  have hj := (List.getElem?_eq_some_iff.1 hv).1
  rw [show 0 + j = j by omega, h.cell hj, ← hv, List.getElem?_eq_getElem hj]
/-- A piece of it. -/
theorem BlkV.rangeAt {w : World} {b : Nat} {t : TypeId} {vs : List Value} (h : BlkV w b t vs) (o n : Nat) (hn : o + n ≤ vs.length) : w.rangeAt b o ((vs.drop o).take n) := fun j v hv => by
  have hj := (List.getElem?_eq_some_iff.1 hv).1
  have hj2 : j < n ∧ o + j < vs.length := by simp at hj; omega
  rw [h.cell (i := o + j) hj2.2, ← hv, List.getElem?_take_of_lt hj2.1, List.getElem?_drop, List.getElem?_eq_getElem hj2.2]
theorem BlkV.there {w : World} {b : Nat} {t : TypeId} {vs : List Value} (h : BlkV w b t vs) (o n : Nat) (hn : o + n ≤ vs.length) : w.there b o n := fun j hj => by
  rw [h.cell (i := o + j) (by omega)]
  exact ⟨rfl, h.frozen _⟩
/-- Cells stored over a block. -/
theorem BlkV.over {b : Nat} {t : TypeId} : ∀ (us : List Value) (o : Nat) (w : World) (vs : List Value), BlkV w b t vs → o + us.length ≤ vs.length → BlkV (w.setCells b o us) b t (vs.take o ++ us ++ vs.drop (o + us.length))
  | [], o, w, vs, h, hl => by
    have e : vs.take o ++ [] ++ vs.drop (o + ([] : List Value).length) = vs := by simp
    rw [e]; exact h
  | u :: us, o, w, vs, h, hl => by
    have h1 := BlkV.over us (o + 1) _ _ (h.set o u) (by simp at hl ⊢; omega)
    have hl' : o < vs.length := by simp at hl; omega
    have e : (vs.set o u).take (o + 1) ++ us ++ (vs.set o u).drop (o + 1 + us.length) = vs.take o ++ (u :: us) ++ vs.drop (o + (u :: us).length) := by
      rw [List.drop_set_of_lt (by omega), List.take_succ_eq_append_getElem (by simpa using hl')]
      simp [List.take_set_of_le (Nat.le_refl o), show o + 1 + us.length = o + (us.length + 1) by omega]
    rw [e] at h1
    exact h1
theorem BlkV.whole {b : Nat} {t : TypeId} {w : World} {vs : List Value} (us : List Value) (h : BlkV w b t vs) (hl : us.length = vs.length) : BlkV (w.setCells b 0 us) b t us := by
  have h1 := BlkV.over us 0 w vs h (by omega)
  have e : vs.take 0 ++ us ++ vs.drop (0 + us.length) = us := by simp [hl]
  rw [e] at h1
  exact h1
theorem storeV {P : Program} {w : World} {b : Nat} {t : TypeId} {vs : List Value} (us : List Value) (o : Nat) (h : BlkV w b t vs) (hl : o + us.length ≤ vs.length) (h1 : ∀ v ∈ us, v.oneCell' = true) :
    (storeCells ⟨b, o, none⟩ us).run P w = .ok () (w.setCells b o us) :=
  run_storeCells_cells (P := P) b o us 0 w (fun j hj => by have := h.there o us.length hl j hj; simpa using this.1) (fun j hj => by have := h.there o us.length hl j hj; simpa using this.2) h1
theorem loadV {P : Program} {w : World} {b : Nat} {t : TypeId} {vs : List Value} (h : BlkV w b t vs) (n : Nat) (hn : n = vs.length) : (loadCellsFrom ⟨b, 0, none⟩ 0 n #[]).run P w = .ok vs.toArray w := by
  subst hn
  exact run_loadCells_list (P := P) w ⟨b, 0, none⟩ vs (fun j u hu => by rw [Addr.add_mid]; exact h.range j u hu)
theorem results_cell1 {fn : Func} {p : Tmp} {ty : TypeId} {P : Program} {w : World} {tmps : Array Value} (h : fn.results = #[.cell p ty]) (a : Addr) (v : Value) (hp : tmps.getD p undef = .pointer (some a)) (hl : (loadVar ty a).run P w = .ok v w) :
    (results fn tmps).run P w = .ok v w := by
  have e : (results fn tmps).run P w = ((asAddr (tmps.getD p undef)).run P w).andThen fun a w₁ => (loadVar ty a).run P w₁ := by
    simp only [results, h]
    simp [Sem.run_bind, Result.andThen]
  rw [e, hp]
  simp [asAddr, Result.andThen, hl]
theorem below_cells {B b : Nat} {a : World} (hb : B ≤ b) : ∀ (vs : List Value) (o : Nat) (w : World), Below B a w → Below B a (w.setCells b o vs)
  | [], _, _, h => h
  | v :: r, o, w, h => below_cells hb r (o + 1) _ (h.setCell (p := ⟨b, o, none⟩) hb v)
theorem results_none7 {fn : Func} {P : Program} {w : World} {tmps : Array Value} (h : fn.results = #[]) : (results fn tmps).run P w = .ok (.tuple #[]) w := by
  simp [results, h]
theorem results_cell_tmp0 {fn : Func} {p q : Tmp} {ty : TypeId} {P : Program} {w : World} {tmps : Array Value} (h : fn.results = #[.cell p ty, .tmp q]) (a : Addr) (v u : Value) (hp : tmps.getD p undef = .pointer (some a)) (hl : (loadVar ty a).run P w = .ok v w) (hq : tmps.getD q undef = u) :
    (results fn tmps).run P w = .ok (.tuple #[v, u]) w := by
  have hp' : tmps[p]?.getD undef = .pointer (some a) := by simpa using hp
  have hq' : tmps[q]?.getD undef = u := by simpa using hq
  simp only [results, h]
  simp [hp', asAddr, hl, hq', Result.andThen]
end Go.Proofs.YtpjjobophplleaaDoor
