/-
  A slice of words that the call itself made and appends to (OwnW), and the law of append for it.
-/
import Derived.Test.YtpjjobophplleaaPrims
import Derived.Laws.AppendOwn
import Derived.OwnWalk
namespace Go.Proofs.Ytpjjobophplleaa
open Go.RowKit
set_option linter.unusedVariables false

def cellsOf64 (l : List Nat) : List Value := l.map fun (x : Nat) => Value.int .u64 (x : Int)

/-- The slice value v owns the words l, among the blocks from base on. -/
structure OwnW (w : World) (base : Nat) (v : Value) (l : List Nat) : Prop where
  own : w.ownsRow base 33 1 v l.length (cellsOf64 l)
  lt : allLt l

theorem OwnW.alloc {w : World} {base : Nat} {v : Value} {l : List Nat} (h : OwnW w base v l) (o : Obj) : OwnW (w.alloc o) base v l := ⟨h.own.alloc o, h.lt⟩
theorem OwnW.rd {w : World} {base : Nat} {v : Value} {l : List Nat} (h : OwnW w base v l) : ∃ A c, v = .slice A l.length c ∧ l.length ≤ c ∧ Rd w w.heap.size A l.length l := by
  rcases h.own.2 with ⟨rfl, hn⟩ | ⟨g, cap, cur, rfl, hb, hg, hc, _, _, ht⟩
  · have : l = [] := List.eq_nil_of_length_eq_zero hn
    subst this
    exact ⟨none, 0, rfl, Nat.le_refl _, Rd.nil _ _ _⟩
  · refine ⟨some ⟨g, 0, none⟩, cap, rfl, hc, rfl, h.lt, fun _ => ⟨g, 0, rfl, (Array.getElem?_eq_some_iff.1 hg).1, fun i hi => ?_⟩⟩
    have := h.own.cells (g := g) rfl i (.int .u64 (at64 l i)) (by simp [cellsOf64, at64, List.getElem?_eq_getElem hi, List.getD_eq_getElem?_getD])
    have hadd : (⟨g, 0, none⟩ : Addr).add i = ⟨g, 0 + i, none⟩ := by unfold Addr.add; split <;> simp_all
    rw [hadd] at this
    exact this
theorem own_nil (w : World) (base : Nat) : OwnW w base (.slice none 0 0) [] := ⟨World.ownsRow_nil w base _ 1, fun x hx => by simp at hx⟩
/-- make([]uint64, 0, c). -/
theorem own_made (w : World) (c : Nat) (hc : c ≤ 1000000) : OwnW (w.alloc (.cells (zeros c) 33)) w.heap.size (.slice (some ⟨w.heap.size, 0, none⟩) 0 c) [] :=
  ⟨World.ownsRow_made w (zeros c) c (Nat.le_refl _) (by unfold maxLen; omega) (by simp [zeros, size_madeCells]), fun x hx => by simp at hx⟩
/-- A block that is known whole, as a slice of all of it. -/
theorem BlkW.own {w : World} {b : Nat} {ws : List Nat} (h : BlkW w b 33 ws) (hl : ws.length ≤ 1000000) : OwnW w b (.slice (some ⟨b, 0, none⟩) ws.length ws.length) ws :=
  ⟨⟨by simp [cellsOf64], .inr ⟨b, ws.length, _, rfl, Nat.le_refl _, h.heap, Nat.le_refl _, by unfold maxLen; omega, by simp, by simp only [cellsOf64, Nat.mul_one]; exact List.take_of_length_le (by simp)⟩⟩, h.lt⟩

theorem OwnW.drew {w : World} {base : Nat} {v : Value} {l : List Nat} (h : OwnW w base v l) : OwnW w.drew base v l := ⟨h.own, h.lt⟩
theorem OwnW.drewN {w : World} {base : Nat} {v : Value} {l : List Nat} (h : OwnW w base v l) (n : Nat) : OwnW (w.drewN n) base v l := ⟨h.own, h.lt⟩
end Go.Proofs.Ytpjjobophplleaa
