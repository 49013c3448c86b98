/-
  Blocks of any cells, known whole: read, written, stored and loaded whole. Helpers for the walks; nothing of the program.
-/
import Derived.Test.YtokfldecjknamaaMem
import Derived.Deep.MidRow
namespace Go.Proofs.Ytokfldecjknamaa
open Go.RowKit
set_option linter.unusedVariables false

/-- Block b is just the cells vs (of type t), none frozen. -/
structure BlkV (w : World) (b : Nat) (t : TypeId) (vs : List Value) : Prop where
  heap : w.heap[b]? = some (.cells vs.toArray t (0, 0))
theorem BlkV.size {w : World} {b : Nat} {t : TypeId} {vs : List Value} (h : BlkV w b t vs) : b < w.heap.size := by
  rcases Nat.lt_or_ge b w.heap.size with hlt | hge
  · exact hlt
  · have := h.heap; rw [Array.getElem?_eq_none hge] at this; cases this
theorem BlkV.cell {w : World} {b : Nat} {t : TypeId} {vs : List Value} (h : BlkV w b t vs) {i : Nat} (hi : i < vs.length) : w.cell? ⟨b, i, none⟩ = some vs[i] := by
  rw [cell_of_row w b i _ t (0, 0) h.heap]
  simp [List.getElem?_eq_getElem hi]
theorem BlkV.frozen {w : World} {b : Nat} {t : TypeId} {vs : List Value} (h : BlkV w b t vs) (i : Nat) : w.frozen? ⟨b, i, none⟩ = false := by
  simp [World.frozen?, h.heap]
theorem BlkV.below {w w' : World} {b B : Nat} {t : TypeId} {vs : List Value} (h : BlkV w b t vs) (hb : Below B w w') (hB : b < B) : BlkV w' b t vs := ⟨(hb.block b hB).trans h.heap⟩
theorem BlkV.up {w w' : World} {b : Nat} {t : TypeId} {vs : List Value} (h : BlkV w b t vs) (hb : Below w.heap.size w w') : BlkV w' b t vs := h.below hb h.size
theorem BlkV.alloc {w : World} {b : Nat} {t : TypeId} {vs : List Value} (h : BlkV w b t vs) (o : Obj) : BlkV (w.alloc o) b t vs := h.below ((Below.refl _ _).alloc (Nat.le_refl _) o) h.size
theorem BlkV.drewN {w : World} {b : Nat} {t : TypeId} {vs : List Value} (h : BlkV w b t vs) (n : Nat) : BlkV (w.drewN n) b t vs := ⟨h.heap⟩
theorem BlkV.drew {w : World} {b : Nat} {t : TypeId} {vs : List Value} (h : BlkV w b t vs) : BlkV w.drew b t vs := ⟨h.heap⟩
theorem BlkV.new (w : World) (t : TypeId) (vs : List Value) : BlkV (w.alloc (.cells vs.toArray t)) w.heap.size t vs := ⟨heap_alloc_new w _⟩
theorem BlkV.set {w : World} {b : Nat} {t : TypeId} {vs : List Value} (h : BlkV w b t vs) (i : Nat) (v : Value) : BlkV (w.setCell ⟨b, i, none⟩ v) b t (vs.set i v) := by
  refine ⟨?_⟩
  simp [World.setCell, Array.getElem?_modify, h.heap]
theorem BlkV.other {w : World} {b c i : Nat} {t : TypeId} {v : Value} {vs : List Value} (h : BlkV w b t vs) (hne : b ≠ c) : BlkV (w.setCell ⟨c, i, none⟩ v) b t vs := by
  refine ⟨?_⟩
  simp only [World.setCell]
  rw [Array.getElem?_modify, if_neg (by omega)]
  exact h.heap
theorem BlkV.put {b c : Nat} {t : TypeId} {vs : List Value} (hne : b ≠ c) : ∀ (us : List Value) (o : Nat) (w : World), BlkV w b t vs → BlkV (w.setCells c o us) b t vs
  | [], _, _, h => h
  | u :: us, o, w, h => BlkV.put hne us (o + 1) _ (h.other hne)
theorem BlkV.range {w : World} {b : Nat} {t : TypeId} {vs : List Value} (h : BlkV w b t vs) : w.rangeAt b 0 vs := fun j v hv => by
  have hj := (List.getElem?_eq_some_iff.1 hv).1
  rw [show 0 + j = j by omega, h.cell hj, ← hv, List.getElem?_eq_getElem hj]
/-- A piece of it. -/
theorem BlkV.rangeAt {w : World} {b : Nat} {t : TypeId} {vs : List Value} (h : BlkV w b t vs) (o n : Nat) (hn : o + n ≤ vs.length) : w.rangeAt b o ((vs.drop o).take n) := fun j v hv => by
  have hj := (List.getElem?_eq_some_iff.1 hv).1
  have hj2 : j < n ∧ o + j < vs.length := by simp at hj; omega
  rw [h.cell (i := o + j) hj2.2, ← hv, List.getElem?_take_of_lt hj2.1, List.getElem?_drop, List.getElem?_eq_getElem hj2.2]
theorem BlkV.there {w : World} {b : Nat} {t : TypeId} {vs : List Value} (h : BlkV w b t vs) (o n : Nat) (hn : o + n ≤ vs.length) : w.there b o n := fun j hj => by
  rw [h.cell (i := o + j) (by omega)]
  exact ⟨rfl, h.frozen _⟩
/-- Cells stored over a block. -/
theorem BlkV.over {b : Nat} {t : TypeId} : ∀ (us : List Value) (o : Nat) (w : World) (vs : List Value), BlkV w b t vs → o + us.length ≤ vs.length → BlkV (w.setCells b o us) b t (vs.take o ++ us ++ vs.drop (o + us.length))
  | [], o, w, vs, h, hl => by
    have e : vs.take o ++ [] ++ vs.drop (o + ([] : List Value).length) = vs := by simp
    rw [e]; exact h
  | u :: us, o, w, vs, h, hl => by
    have h1 := BlkV.over us (o + 1) _ _ (h.set o u) (by simp at hl ⊢; omega)
    have hl' : o < vs.length := by simp at hl; omega
    have e : (vs.set o u).take (o + 1) ++ us ++ (vs.set o u).drop (o + 1 + us.length) = vs.take o ++ (u :: us) ++ vs.drop (o + (u :: us).length) := by
      rw [List.drop_set_of_lt (by omega), List.take_succ_eq_append_getElem (by simpa using hl')]
      simp [List.take_set_of_le (Nat.le_refl o), show o + 1 + us.length = o + (us.length + 1) by omega]
    rw [e] at h1
    exact h1
theorem BlkV.whole {b : Nat} {t : TypeId} {w : World} {vs : List Value} (us : List Value) (h : BlkV w b t vs) (hl : us.length = vs.length) : BlkV (w.setCells b 0 us) b t us := by
  have h1 := BlkV.over us 0 w vs h (by omega)
  have e : vs.take 0 ++ us ++ vs.drop (0 + us.length) = us := by simp [hl]
  rw [e] at h1
  exact h1
theorem storeV {P : Program} {w : World} {b : Nat} {t : TypeId} {vs : List Value} (us : List Value) (o : Nat) (h : BlkV w b t vs) (hl : o + us.length ≤ vs.length) (h1 : ∀ v ∈ us, v.oneCell' = true) :
    (storeCells ⟨b, o, none⟩ us).run P w = .ok () (w.setCells b o us) :=
  run_storeCells_cells (P := P) b o us 0 w (fun j hj => by have := h.there o us.length hl j hj; simpa using this.1) (fun j hj => by have := h.there o us.length hl j hj; simpa using this.2) h1
theorem loadV {P : Program} {w : World} {b : Nat} {t : TypeId} {vs : List Value} (h : BlkV w b t vs) (n : Nat) (hn : n = vs.length) : (loadCellsFrom ⟨b, 0, none⟩ 0 n #[]).run P w = .ok vs.toArray w := by
  subst hn
  exact run_loadCells_list (P := P) w ⟨b, 0, none⟩ vs (fun j u hu => by rw [Addr.add_mid]; exact h.range j u hu)
theorem results_cell1 {fn : Func} {p : Tmp} {ty : TypeId} {P : Program} {w : World} {tmps : Array Value} (h : fn.results = #[.cell p ty]) (a : Addr) (v : Value) (hp : tmps.getD p undef = .pointer (some a)) (hl : (loadVar ty a).run P w = .ok v w) :
    (results fn tmps).run P w = .ok v w := by
  have e : (results fn tmps).run P w = ((asAddr (tmps.getD p undef)).run P w).andThen fun a w₁ => (loadVar ty a).run P w₁ := by
    simp only [results, h]
    simp [Sem.run_bind, Result.andThen]
  rw [e, hp]
  simp [asAddr, Result.andThen, hl]
theorem below_cells {B b : Nat} {a : World} (hb : B ≤ b) : ∀ (vs : List Value) (o : Nat) (w : World), Below B a w → Below B a (w.setCells b o vs)
  | [], _, _, h => h
  | v :: r, o, w, h => below_cells hb r (o + 1) _ (h.setCell (p := ⟨b, o, none⟩) hb v)
theorem results_none7 {fn : Func} {P : Program} {w : World} {tmps : Array Value} (h : fn.results = #[]) : (results fn tmps).run P w = .ok (.tuple #[]) w := by
  simp [results, h]
theorem results_cell_tmp0 {fn : Func} {p q : Tmp} {ty : TypeId} {P : Program} {w : World} {tmps : Array Value} (h : fn.results = #[.cell p ty, .tmp q]) (a : Addr) (v u : Value) (hp : tmps.getD p undef = .pointer (some a)) (hl : (loadVar ty a).run P w = .ok v w) (hq : tmps.getD q undef = u) :
    (results fn tmps).run P w = .ok (.tuple #[v, u]) w := by
  have hp' : tmps[p]?.getD undef = .pointer (some a) := by simpa using hp
  have hq' : tmps[q]?.getD undef = u := by simpa using hq
  simp only [results, h]
  simp [hp', asAddr, hl, hq', Result.andThen]
/-- A row stored whole; the world behind it is a letter. -/
theorem wpList_store_to {P : Program} {ops : Array Oper} {rest : List Oper} {op : Oper} {a : Act} {w : World} {Q : Exit → Act → World → Prop} (hgd : op.guard = none) (ty : TypeId) (x y : Operand) (ho : op.op = .store ty x y)
    (b o : Nat) (vs : List Value) (ws : World) (hws : ws = w.setCells b o vs) (hx : a.eval x = .pointer (some ⟨b, o, none⟩)) (hy : a.eval y = .agg vs.toArray)
    (ht : w.there b o vs.toArray.size) (hi : (P.info? ty).map (·.size) = some vs.toArray.size) (h1 : vs.toArray.all (·.oneCell') = true)
    (h : wpList P ops Q rest (a.put op.dst undef) ws) : wpList P ops Q (op :: rest) a w := by
  subst hws
  exact wpList_store_mid hgd ty x y ho b o vs.toArray hx hy ht hi h1 h
theorem results_cell_tmps {fn : Func} {p q r : Tmp} {ty : TypeId} {P : Program} {w : World} {tmps : Array Value} (h : fn.results = #[.cell p ty, .tmp q, .tmp r]) (a : Addr) (v u x : Value) (hp : tmps.getD p undef = .pointer (some a)) (hl : (loadVar ty a).run P w = .ok v w) (hq : tmps.getD q undef = u) (hr : tmps.getD r undef = x) :
    (results fn tmps).run P w = .ok (.tuple #[v, u, x]) w := by
  have hp' : tmps[p]?.getD undef = .pointer (some a) := by simpa using hp
  have hq' : tmps[q]?.getD undef = u := by simpa using hq
  have hr' : tmps[r]?.getD undef = x := by simpa using hr
  simp only [results, h]
  simp [hp', asAddr, hl, hq', hr', Result.andThen]
/-- A block of the call's own, stored whole. -/
theorem own_whole {w w2 : World} {b : Nat} {t : TypeId} {vs : List Value} (us : List Value) (h : BlkV w2 b t vs) (hl : us.length = vs.length) (hb : Below w.heap.size w w2) (hw : w.heap.size ≤ b) :
    BlkV (w2.setCells b 0 us) b t us ∧ Below w.heap.size w (w2.setCells b 0 us) ∧ w2.heap.size ≤ (w2.setCells b 0 us).heap.size ∧ ∀ k, k ≠ b → (w2.setCells b 0 us).heap[k]? = w2.heap[k]? := by
  refine ⟨h.whole us hl, ?_⟩
  have H : ∀ (us : List Value) (o : Nat) (x : World), Below w.heap.size w x → Below w.heap.size w (x.setCells b o us) ∧ x.heap.size ≤ (x.setCells b o us).heap.size ∧ ∀ k, k ≠ b → (x.setCells b o us).heap[k]? = x.heap[k]? := by
    intro us
    induction us with
    | nil => intro o x hx; exact ⟨hx, Nat.le_refl _, fun _ _ => rfl⟩
    | cons u us ih =>
      intro o x hx
      obtain ⟨h1, h2, h3⟩ := ih (o + 1) _ (hx.setCell (p := ⟨b, o, none⟩) hw u)
      refine ⟨h1, ?_, fun k hk => (h3 k hk).trans (Below.heap_setCell x ⟨b, o, none⟩ u k hk)⟩
      have : (x.setCell ⟨b, o, none⟩ u).heap.size = x.heap.size := by simp [World.setCell]
      rw [this] at h2
      exact h2
  exact H us 0 w2 hb
/-- A row stored whole, as one operation of a drawn region; the world behind it is a letter. -/
theorem wp_store_to {P : Program} {op : Oper} {a : Act} {w : World} {K : Act → World → Prop} {Q : Exit → Act → World → Prop} (ty : TypeId) (x y : Operand) (ho : op.op = .store ty x y)
    (b o : Nat) (vs : List Value) (ws : World) (hws : ws = w.setCells b o vs) (hx : a.eval x = .pointer (some ⟨b, o, none⟩)) (hy : a.eval y = .agg vs.toArray)
    (ht : w.there b o vs.toArray.size) (hi : (P.info? ty).map (·.size) = some vs.toArray.size) (h1 : vs.toArray.all (·.oneCell') = true)
    (h : K (a.put op.dst undef) ws) : op.wp P a w K Q := by
  subst hws
  exact wp_store_mid ty x y ho b o vs.toArray hx hy ht hi h1 h
end Go.Proofs.Ytokfldecjknamaa
