/-
  Slices of items: one that is read (RdV), one that the call made and appends to (OwnV); for whichever type of items. Helpers for the walks; nothing of the program.
-/
import Derived.Test.YtokfldecjknamaaPtA
namespace Go.Proofs.Ytokfldecjknamaa
open Go.RowKit
set_option linter.unusedVariables false

/-- An item's cells. -/
def ivc (x : IV) : List Value := [.int .i64 x.k, .int .i64 x.t, .int .i64 x.c, .string x.s]
def ivs : List IV → List Value
  | [] => []
  | x :: l => ivc x ++ ivs l
theorem ivs_append : ∀ (l m : List IV), ivs (l ++ m) = ivs l ++ ivs m
  | [], m => rfl
  | x :: l, m => by
    show ivc x ++ ivs (l ++ m) = _
    rw [ivs_append l m]
    exact (List.append_assoc _ _ _).symm
theorem ivs_len : ∀ l : List IV, (ivs l).length = l.length * 4
  | [] => rfl
  | x :: l => by
    show (ivc x ++ ivs l).length = _
    rw [List.length_append, ivs_len l, List.length_cons]
    show 4 + l.length * 4 = _
    omega
theorem ivs_one (x : IV) : ivs [x] = ivc x := by
  show ivc x ++ [] = _
  rw [List.append_nil]
theorem ivc_all (x : IV) : ∀ v ∈ ivc x, v.oneCell' = true := by
  intro v hv
  simp only [ivc, List.mem_cons, List.not_mem_nil, or_false] at hv
  rcases hv with rfl | rfl | rfl | rfl <;> rfl
theorem ivs_all : ∀ (l : List IV), ∀ v ∈ ivs l, v.oneCell' = true
  | [], v, hv => by cases hv
  | x :: l, v, hv => by
    rcases List.mem_append.1 hv with h | h
    · exact ivc_all x v h
    · exact ivs_all l v h
/-- The cells of the i-th item. -/
theorem ivs_at (l : List IV) (i : Nat) (hi : i < l.length) (k : Nat) (hk : k < 4) : (ivs l)[i * 4 + k]? = (ivc l[i])[k]? := by
  have e : l = l.take i ++ (l[i] :: l.drop (i + 1)) := by rw [← List.drop_eq_getElem_cons hi, List.take_append_drop]
  have e2 : ivs l = ivs (l.take i) ++ (ivc l[i] ++ ivs (l.drop (i + 1))) := by
    conv => lhs; rw [e, ivs_append]
    rfl
  have hl : (ivs (l.take i)).length = i * 4 := by rw [ivs_len, List.length_take, Nat.min_eq_left (by omega)]
  rw [e2, List.getElem?_append_right (by omega), hl, Nat.add_sub_cancel_left, List.getElem?_append_left (by show k < 4; exact hk)]
/-- The slice of n items at A reads as xs, and lies below block B. -/
structure RdV (w : World) (B : Nat) (A : Option Addr) (n : Nat) (xs : List IV) : Prop where
  len : xs.length = n
  cells : 0 < n → ∃ b off, A = some ⟨b, off, none⟩ ∧ b < B ∧ w.rangeAt b off (ivs xs)
theorem RdV.keep {w w' : World} {B n : Nat} {A : Option Addr} {l : List IV} (h : RdV w B A n l) (hk : ∀ p : Addr, p.block < B → w'.cell? p = w.cell? p) : RdV w' B A n l :=
  ⟨h.len, fun hn => by
    obtain ⟨b, off, e, hb, hc⟩ := h.cells hn
    exact ⟨b, off, e, hb, fun j v hv => (hk ⟨b, off + j, none⟩ hb).trans (hc j v hv)⟩⟩
theorem RdV.more {w : World} {B B' n : Nat} {A : Option Addr} {l : List IV} (h : RdV w B A n l) (hB : B ≤ B') : RdV w B' A n l :=
  ⟨h.len, fun hn => by
    obtain ⟨b, off, e, hb, hc⟩ := h.cells hn
    exact ⟨b, off, e, by omega, hc⟩⟩
theorem RdV.below {w w' : World} {B B' n : Nat} {A : Option Addr} {l : List IV} (h : RdV w B A n l) (hb : Below B' w w') (hB : B ≤ B') : RdV w' B A n l :=
  h.keep fun _ hp => hb.cell (Nat.lt_of_lt_of_le hp hB)
theorem RdV.up {w w' : World} {B n : Nat} {A : Option Addr} {l : List IV} (h : RdV w B A n l) (hb : Below w.heap.size w w') (hB : B ≤ w.heap.size) : RdV w' w'.heap.size A n l :=
  (h.below hb hB).more (Nat.le_trans hB hb.size)
theorem RdV.nil (w : World) (B : Nat) (A : Option Addr) : RdV w B A 0 [] := ⟨rfl, fun h => absurd h (by omega)⟩
theorem RdV.drewN {w : World} {B n : Nat} {A : Option Addr} {l : List IV} (h : RdV w B A n l) (k : Nat) : RdV (w.drewN k) B A n l := ⟨h.len, h.cells⟩
/-- The i-th item of it. -/
theorem RdV.at_ {w : World} {B n : Nat} {A : Option Addr} {l : List IV} (h : RdV w B A n l) {i : Nat} (hi : i < n) :
    ∃ b off, A = some ⟨b, off, none⟩ ∧ b < B ∧ w.rangeAt b (off + i * 4) (ivc (l[i]'(by rw [h.len]; exact hi))) := by
  obtain ⟨b, off, e, hb, hc⟩ := h.cells (by omega)
  refine ⟨b, off, e, hb, fun j v hv => ?_⟩
  have hj : j < 4 := (List.getElem?_eq_some_iff.1 hv).1
  rw [Nat.add_assoc]
  exact hc (i * 4 + j) v (by rw [ivs_at l i (by rw [h.len]; exact hi) j hj]; exact hv)
/-- Its cells, one by one. -/
theorem ivc_cells {w : World} {b o : Nat} {x : IV} (h : w.rangeAt b o (ivc x)) : w.cell? ⟨b, o, none⟩ = some (.int .i64 x.k) ∧ w.cell? ⟨b, o + 1, none⟩ = some (.int .i64 x.t) ∧ w.cell? ⟨b, o + 2, none⟩ = some (.int .i64 x.c) ∧ w.cell? ⟨b, o + 3, none⟩ = some (.string x.s) :=
  ⟨h 0 _ rfl, h 1 _ rfl, h 2 _ rfl, h 3 _ rfl⟩
/-- What is known of a type of items. -/
structure ItT (t e : TypeId) : Prop where
  sl : Try.prog.underlying t = some (.slice e)
  info : (Try.prog.info? e).map (fun i => (i.zero, i.size, i.bytes)) = some (some (.agg #[.int .i64 0, .int .i64 0, .int .i64 0, .string ⟨#[]⟩]), 4, 40)
/-- The slice value v owns the items xs, among the blocks from base on. -/
structure OwnV (e : TypeId) (w : World) (base : Nat) (v : Value) (l : List IV) : Prop where
  own : w.ownsRow base e 4 v l.length (ivs l)
theorem ownV_nil (e : TypeId) (w : World) (base : Nat) : OwnV e w base (.slice none 0 0) [] := ⟨World.ownsRow_nil w base _ 4⟩
/-- make([]T, 0), or []T{}. -/
theorem ownV_empty (e : TypeId) (w : World) : OwnV e (w.alloc (.cells #[] e)) w.heap.size (.slice (some ⟨w.heap.size, 0, none⟩) 0 0) [] :=
  ⟨World.ownsRow_made w #[] 0 (Nat.le_refl _) (Nat.zero_le _) rfl⟩
theorem OwnV.alloc {e : TypeId} {w : World} {base : Nat} {v : Value} {l : List IV} (h : OwnV e w base v l) (o : Obj) : OwnV e (w.alloc o) base v l := ⟨h.own.alloc o⟩
theorem OwnV.keptG {e : TypeId} {w w' : World} {lo : Nat} {v : Value} {l : List IV} {row : Option Nat} (h : OwnV e w lo v l) (hg : w.grownBy w' row) (hr : ∀ k, row = some k → k < lo) : OwnV e w' lo v l := by
  refine ⟨h.own.kept hg ?_⟩
  rcases hv : v.ownBlock with _ | k
  · exact Or.inl rfl
  · refine Or.inr fun e => ?_
    have h1 := (h.own.lt k hv).1
    have h2 := hr k e.symm
    omega
theorem OwnV.up {e : TypeId} {w w' : World} {lo : Nat} {v : Value} {l : List IV} (h : OwnV e w lo v l) (hb : Below w.heap.size w w') : OwnV e w' lo v l :=
  ⟨h.own.kept (row := none) ⟨hb.os, hb.tape, hb.output, hb.size, fun k hk _ => hb.block k hk⟩ (by rcases v.ownBlock with _ | k <;> simp)⟩
theorem OwnV.more {e : TypeId} {w : World} {base B : Nat} {v : Value} {l : List IV} (h : OwnV e w base v l) (hB : B ≤ base) : OwnV e w B v l := by
  refine ⟨⟨h.own.1, ?_⟩⟩
  rcases h.own.2 with h' | ⟨g, cap, cur, e', hb, r⟩
  · exact Or.inl h'
  · exact Or.inr ⟨g, cap, cur, e', Nat.le_trans hB hb, r⟩
theorem OwnV.blk_lt {e : TypeId} {w : World} {lo : Nat} {v : Value} {l : List IV} (h : OwnV e w lo v l) : ∀ k, v.ownBlock = some k → k < w.heap.size := fun k hk => (h.own.lt k hk).2
/-- Read as a slice. -/
theorem OwnV.rd {e : TypeId} {w : World} {base : Nat} {v : Value} {l : List IV} (h : OwnV e w base v l) : ∃ A c, v = .slice A l.length c ∧ l.length ≤ c ∧ RdV w w.heap.size A l.length l ∧ ∀ x, A = some x → base ≤ x.block := by
  rcases h.own.2 with ⟨rfl, hn⟩ | ⟨g, cap, cur, rfl, hb, hg, hc, _, _, ht⟩
  · have : l = [] := List.eq_nil_of_length_eq_zero hn
    subst this
    exact ⟨none, 0, rfl, Nat.le_refl _, RdV.nil _ _ _, fun x hx => by cases hx⟩
  · refine ⟨some ⟨g, 0, none⟩, cap, rfl, hc, ⟨rfl, fun _ => ⟨g, 0, rfl, (Array.getElem?_eq_some_iff.1 hg).1, fun j v hv => ?_⟩⟩, fun x hx => by cases hx; exact hb⟩
    have h1 := h.own.cells (g := g) rfl j v hv
    rw [Addr.add_mid] at h1
    exact h1
/-- append of one item, in the world behind the building of its one-item slice. -/
theorem append_item {t e : TypeId} (hT : ItT t e) {ops : Array Oper} {rest : List Oper} {o : Oper} {a : Act} {Q : Exit → Act → World → Prop} {w : World} (hgd : o.guard = none) (s x : Operand)
    (ho : o.op = .call { callee := .builtin .append, args := #[s, x], argTypes := #[t, t] })
    (base : Nat) (v : Value) (l : List IV) (hs : a.eval s = v) (hown : OwnV e w base v l) (y : IV) (hx : a.eval x = .slice (some ⟨w.heap.size, 0, none⟩) 1 1)
    (hlen : l.length ≤ 100000) (hbase : base ≤ w.heap.size)
    (h : ∀ v' w', OwnV e w' base v' (l ++ [y]) → w.grownBy w' v.ownBlock → Below base w w' → wpList Try.prog ops Q rest (a.put o.dst v') w') :
    wpList Try.prog ops Q (o :: rest) a (w.alloc (.cells #[.int .i64 y.k, .int .i64 y.t, .int .i64 y.c, .string y.s] e)) := by
  obtain ⟨i0, hi, hz, hs1, hb⟩ := info_parts hT.info
  have hB := BlkV.new w e (ivc y)
  refine wpList_append_own (w.alloc (.cells #[.int .i64 y.k, .int .i64 y.t, .int .i64 y.c, .string y.s] e)) hgd s x t ho base e i0 (.agg #[.int .i64 0, .int .i64 0, .int .i64 0, .string ⟨#[]⟩]) 4 40 hT.sl hi hz hs1 hb rfl (by decide) v l.length (ivs l) hs (hown.alloc _).own ⟨w.heap.size, 0, none⟩ 1 1 (ivc y) hx
    rfl ?_ (ivc_all y) (by unfold maxLen; omega) (by omega) (by simp; omega) ?_
  · intro j u hj
    rw [Addr.add_mid]
    exact hB.range j u hj
  · intro v' w' ho' hg _
    have hg2 : w.grownBy w' v.ownBlock := ⟨hg.os, hg.tape, hg.output, Nat.le_trans (by simp) hg.size, fun k hk hne => (hg.block k (by simp; omega) hne).trans (Below.heap_alloc w _ k hk)⟩
    refine h v' w' ⟨?_⟩ hg2 ((Below.refl _ _).grown hg2 hbase fun k hk => (hown.own.lt k hk).1)
    rw [ivs_append, ivs_one, List.length_append]
    exact ho'
end Go.Proofs.Ytokfldecjknamaa
