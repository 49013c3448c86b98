/-
  A slice of words that the call itself made and appends to (OwnW), and the law of append for it.
-/
import Derived.Test.YtpjjobophplleaaDoorPrims
import Derived.Laws.AppendOwn
import Derived.OwnWalk
namespace Go.Proofs.YtpjjobophplleaaDoor
open Go.RowKit
set_option linter.unusedVariables false

def cellsOf64 (l : List Nat) : List Value := l.map fun (x : Nat) => Value.int .u64 (x : Int)

/-- The slice value v owns the words l, among the blocks from base on. -/
structure OwnW (w : World) (base : Nat) (v : Value) (l : List Nat) : Prop where
  own : w.ownsRow base 36 1 v l.length (cellsOf64 l)
  lt : allLt l

theorem OwnW.alloc {w : World} {base : Nat} {v : Value} {l : List Nat} (h : OwnW w base v l) (o : Obj) : OwnW (w.alloc o) base v l := ⟨h.own.alloc o, h.lt⟩
theorem OwnW.rd {w : World} {base : Nat} {v : Value} {l : List Nat} (h : OwnW w base v l) : ∃ A c, v = .slice A l.length c ∧ l.length ≤ c ∧ Rd w w.heap.size A l.length l := by
  rcases h.own.2 with ⟨rfl, hn⟩ | ⟨g, cap, cur, rfl, hb, hg, hc, _, _, ht⟩
  · have : l = [] := List.eq_nil_of_length_eq_zero hn
    subst this
    exact ⟨none, 0, rfl, Nat.le_refl _, Rd.nil _ _ _⟩
  · refine ⟨some ⟨g, 0, none⟩, cap, rfl, hc, rfl, h.lt, fun _ => ⟨g, 0, rfl, (Array.getElem?_eq_some_iff.1 hg).1, fun i hi => ?_⟩⟩
    have := h.own.cells (g := g) rfl i (.int .u64 (at64 l i)) (by simp [cellsOf64, at64, List.getElem?_eq_getElem hi, List.getD_eq_getElem?_getD])
    have hadd : (⟨g, 0, none⟩ : Addr).add i = ⟨g, 0 + i, none⟩ := by unfold Addr.add; split <;> simp_all
    rw [hadd] at this
    exact this
theorem own_nil (w : World) (base : Nat) : OwnW w base (.slice none 0 0) [] := ⟨World.ownsRow_nil w base _ 1, fun x hx => by simp at hx⟩
/-- make([]uint64, 0, c). -/
theorem own_made (w : World) (c : Nat) (hc : c ≤ 1000000) : OwnW (w.alloc (.cells (zeros c) 36)) w.heap.size (.slice (some ⟨w.heap.size, 0, none⟩) 0 c) [] :=
  ⟨World.ownsRow_made w (zeros c) c (Nat.le_refl _) (by unfold maxLen; omega) (by simp [zeros, size_madeCells]), fun x hx => by simp at hx⟩
/-- A block that is known whole, as a slice of all of it. -/
theorem BlkW.own {w : World} {b : Nat} {ws : List Nat} (h : BlkW w b 36 ws) (hl : ws.length ≤ 1000000) : OwnW w b (.slice (some ⟨b, 0, none⟩) ws.length ws.length) ws :=
  ⟨⟨by simp [cellsOf64], .inr ⟨b, ws.length, _, rfl, Nat.le_refl _, h.heap, Nat.le_refl _, by unfold maxLen; omega, by simp, by simp only [cellsOf64, Nat.mul_one]; exact List.take_of_length_le (by simp)⟩⟩, h.lt⟩

theorem append_words {ops : Array Oper} {rest : List Oper} {o : Oper} {a : Act} {Q : Exit → Act → World → Prop} {w : World} (hgd : o.guard = none) (s x : Operand)
    (ho : o.op = .call { callee := .builtin .append, args := #[s, x], argTypes := #[32, 32] })
    (base : Nat) (v : Value) (l : List Nat) (hs : a.eval s = v) (hown : OwnW w base v l) (b c : Nat) (news : List Nat) (hnl : allLt news) (hx : a.eval x = .slice (some ⟨b, 0, none⟩) news.length c)
    (hcell : ∀ i, i < news.length → w.cell? ⟨b, i, none⟩ = some (.int .u64 (at64 news i))) (hlen : l.length + news.length ≤ 1000000) (hbase : base ≤ w.heap.size)
    (h : ∀ v' w', OwnW w' base v' (l ++ news) → Below base w w' → wpList Tryd.prog ops Q rest (a.put o.dst v') w') : wpList Tryd.prog ops Q (o :: rest) a w := by
  obtain ⟨i0, hi, hz, hs1, hb⟩ := info_parts u64_info
  refine wpList_append_own w hgd s x 32 ho base 36 i0 (.int .u64 0) 1 8 Tryd.underlying32 hi hz hs1 hb rfl (by decide) v l.length (cellsOf64 l) hs hown.own ⟨b, 0, none⟩ news.length c (cellsOf64 news) hx
    (by simp [cellsOf64]) ?_ ?_ (by unfold maxLen; omega) (by omega) hbase ?_
  · intro j u hj
    have hadd : (⟨b, 0, none⟩ : Addr).add j = ⟨b, j, none⟩ := by unfold Addr.add; split <;> simp_all
    rw [hadd]
    have hjl : j < news.length := by
      have := (List.getElem?_eq_some_iff.1 hj).1
      simpa [cellsOf64] using this
    rw [hcell j hjl, ← hj]
    simp [cellsOf64, at64, List.getElem?_eq_getElem hjl, List.getD_eq_getElem?_getD]
  · intro u hu
    simp only [cellsOf64, List.mem_map] at hu
    obtain ⟨y, _, rfl⟩ := hu
    rfl
  · intro v' w' ho' hg _
    refine h v' w' ⟨?_, ?_⟩ ((Below.refl _ _).grown hg hbase fun k hk => (hown.own.lt k hk).1)
    · have e : cellsOf64 (l ++ news) = cellsOf64 l ++ cellsOf64 news := by simp [cellsOf64]
      rw [e, List.length_append]
      exact ho'
    · intro y hy
      rcases List.mem_append.1 hy with h' | h'
      · exact hown.lt y h'
      · exact hnl y h'

/-- append of one word, in the world behind the building of its one-word slice. -/
theorem append_word {ops : Array Oper} {rest : List Oper} {o : Oper} {a : Act} {Q : Exit → Act → World → Prop} {w : World} (hgd : o.guard = none) (s x : Operand)
    (ho : o.op = .call { callee := .builtin .append, args := #[s, x], argTypes := #[32, 32] })
    (base : Nat) (v : Value) (l : List Nat) (hs : a.eval s = v) (hown : OwnW w base v l) (X : Int) (n : Nat) (hX : X = (n : Int)) (hn : n < 18446744073709551616) (hx : a.eval x = .slice (some ⟨w.heap.size, 0, none⟩) 1 1)
    (hlen : l.length ≤ 100000) (hbase : base ≤ w.heap.size)
    (h : ∀ v' w', OwnW w' base v' (l ++ [n]) → Below base w w' → wpList Tryd.prog ops Q rest (a.put o.dst v') w') : wpList Tryd.prog ops Q (o :: rest) a (w.alloc (.cells #[.int .u64 X] 36)) := by
  subst hX
  refine append_words hgd s x ho base v l hs (hown.alloc _) w.heap.size 1 [n] (fun y hy => by simp at hy; omega) hx ?_ (by simp; omega) (by simp; omega) fun v' w' h1 h2 => h v' w' h1 (((Below.refl _ _).alloc hbase _).trans h2)
  intro i hi
  have : i = 0 := by simp at hi; omega
  subst this
  simp [at64]

/-- The same as one step of a region that draws its order. -/
theorem step_append_words {ops : Array Oper} {o : Oper} {a : Act} {K : Act → World → Prop} {Q : Exit → Act → World → Prop} {E : Prop} {w : World} (hgd : o.guard = none) (s x : Operand)
    (ho : o.op = .call { callee := .builtin .append, args := #[s, x], argTypes := #[32, 32] })
    (base : Nat) (v : Value) (l : List Nat) (hs : a.eval s = v) (hown : OwnW w base v l) (b c : Nat) (news : List Nat) (hnl : allLt news) (hx : a.eval x = .slice (some ⟨b, 0, none⟩) news.length c)
    (hcell : ∀ i, i < news.length → w.cell? ⟨b, i, none⟩ = some (.int .u64 (at64 news i))) (hlen : l.length + news.length ≤ 1000000) (hbase : base ≤ w.heap.size)
    (h : ∀ v' w', OwnW w' base v' (l ++ news) → Below base w w' → K (a.put o.dst v') w') : if Region.wanted o (yielded ops a.tmps) = true then Oper.wp Tryd.prog o a w K Q else E := by
  have hw : Region.wanted o (yielded ops a.tmps) = true := by simp [Region.wanted, hgd]
  rw [if_pos hw]
  obtain ⟨i0, hi, hz, hs1, hb⟩ := info_parts u64_info
  refine wp_append_own w s x 32 ho base 36 i0 (.int .u64 0) 1 8 Tryd.underlying32 hi hz hs1 hb rfl (by decide) v l.length (cellsOf64 l) hs hown.own ⟨b, 0, none⟩ news.length c (cellsOf64 news) hx
    (by simp [cellsOf64]) ?_ ?_ (by unfold maxLen; omega) (by omega) hbase ?_
  · intro j u hj
    have hadd : (⟨b, 0, none⟩ : Addr).add j = ⟨b, j, none⟩ := by unfold Addr.add; split <;> simp_all
    rw [hadd]
    have hjl : j < news.length := by
      have := (List.getElem?_eq_some_iff.1 hj).1
      simpa [cellsOf64] using this
    rw [hcell j hjl, ← hj]
    simp [cellsOf64, at64, List.getElem?_eq_getElem hjl, List.getD_eq_getElem?_getD]
  · intro u hu
    simp only [cellsOf64, List.mem_map] at hu
    obtain ⟨y, _, rfl⟩ := hu
    rfl
  · intro v' w' ho' hg _
    refine h v' w' ⟨?_, ?_⟩ ((Below.refl _ _).grown hg hbase fun k hk => (hown.own.lt k hk).1)
    · have e : cellsOf64 (l ++ news) = cellsOf64 l ++ cellsOf64 news := by simp [cellsOf64]
      rw [e, List.length_append]
      exact ho'
    · intro y hy
      rcases List.mem_append.1 hy with h' | h'
      · exact hown.lt y h'
      · exact hnl y h'

theorem OwnW.drew {w : World} {base : Nat} {v : Value} {l : List Nat} (h : OwnW w base v l) : OwnW w.drew base v l := ⟨h.own, h.lt⟩
theorem OwnW.drewN {w : World} {base : Nat} {v : Value} {l : List Nat} (h : OwnW w base v l) (n : Nat) : OwnW (w.drewN n) base v l := ⟨h.own, h.lt⟩
/-- append of two words. -/
theorem append_two {ops : Array Oper} {rest : List Oper} {o : Oper} {a : Act} {Q : Exit → Act → World → Prop} {w : World} (hgd : o.guard = none) (s x : Operand)
    (ho : o.op = .call { callee := .builtin .append, args := #[s, x], argTypes := #[32, 32] })
    (base : Nat) (v : Value) (l : List Nat) (hs : a.eval s = v) (hown : OwnW w base v l) (X Y : Int) (m n : Nat) (hX : X = (m : Int)) (hY : Y = (n : Int)) (hm : m < 18446744073709551616) (hn : n < 18446744073709551616) (hx : a.eval x = .slice (some ⟨w.heap.size, 0, none⟩) 2 2)
    (hlen : l.length ≤ 100000) (hbase : base ≤ w.heap.size)
    (h : ∀ v' w', OwnW w' base v' (l ++ [m, n]) → Below base w w' → wpList Tryd.prog ops Q rest (a.put o.dst v') w') : wpList Tryd.prog ops Q (o :: rest) a (w.alloc (.cells #[.int .u64 X, .int .u64 Y] 36)) := by
  subst hX hY
  refine append_words hgd s x ho base v l hs (hown.alloc _) w.heap.size 2 [m, n] (fun y hy => by simp at hy; omega) hx ?_ (by simp; omega) (by simp; omega) fun v' w' h1 h2 => h v' w' h1 (((Below.refl _ _).alloc hbase _).trans h2)
  intro i hi
  have : i = 0 ∨ i = 1 := by simp at hi; omega
  rcases this with rfl | rfl <;> simp [at64]
end Go.Proofs.YtpjjobophplleaaDoor
