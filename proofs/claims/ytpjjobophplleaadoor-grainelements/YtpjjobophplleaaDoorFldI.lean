/-
  (Element).Exp, Inverse, field.Sum: what each call does.
-/
import Derived.Test.YtpjjobophplleaaDoorFldF
import Derived.Test.YtpjjobophplleaaDoorLOpsC
namespace Go.Proofs.YtpjjobophplleaaDoor
open Go.RowKit
set_option linter.unusedVariables false

/-- All four words of a block, stored anew. -/
theorem B4.all {w : World} {b : Nat} {a0 a1 a2 a3 : Int} (h : B4 w b a0 a1 a2 a3) (x0 x1 x2 x3 : Int) : B4 ((((w.setCell ⟨b, 0, none⟩ (.int .u64 x0)).setCell ⟨b, 1, none⟩ (.int .u64 x1)).setCell ⟨b, 2, none⟩ (.int .u64 x2)).setCell ⟨b, 3, none⟩ (.int .u64 x3)) b x0 x1 x2 x3 :=
  (((h.s0 x0).s1 x1).s2 x2).s3 x3
theorem B4.others {w : World} {b c : Nat} {a0 a1 a2 a3 x0 x1 x2 x3 : Int} (h : B4 w b a0 a1 a2 a3) (hne : b ≠ c) : B4 ((((w.setCell ⟨c, 0, none⟩ (.int .u64 x0)).setCell ⟨c, 1, none⟩ (.int .u64 x1)).setCell ⟨c, 2, none⟩ (.int .u64 x2)).setCell ⟨c, 3, none⟩ (.int .u64 x3)) b a0 a1 a2 a3 :=
  (((h.other hne).other hne).other hne).other hne
theorem below_all {B c : Nat} {a w : World} (h : Below B a w) (hB : B ≤ c) (x0 x1 x2 x3 : Int) : Below B a ((((w.setCell ⟨c, 0, none⟩ (.int .u64 x0)).setCell ⟨c, 1, none⟩ (.int .u64 x1)).setCell ⟨c, 2, none⟩ (.int .u64 x2)).setCell ⟨c, 3, none⟩ (.int .u64 x3)) :=
  (((h.setCell (p := ⟨c, 0, none⟩) hB _).setCell (p := ⟨c, 1, none⟩) hB _).setCell (p := ⟨c, 2, none⟩) hB _).setCell (p := ⟨c, 3, none⟩) hB _
theorem size_all (w : World) (c : Nat) (x0 x1 x2 x3 : Int) : ((((w.setCell ⟨c, 0, none⟩ (.int .u64 x0)).setCell ⟨c, 1, none⟩ (.int .u64 x1)).setCell ⟨c, 2, none⟩ (.int .u64 x2)).setCell ⟨c, 3, none⟩ (.int .u64 x3)).heap.size = w.heap.size := by simp [World.setCell]

/-- The relation of Exp's loop. -/
def ERel (w : World) (bo : Nat) (a0 a1 a2 a3 : Int) (x E : Nat) (wr : World) (k : Nat) : Prop :=
  ∃ o0 o1 o2 o3 : Int, B4 wr w.heap.size a0 a1 a2 a3 ∧ B4 wr (w.heap.size + 1) 0 0 0 0 ∧ B4 wr bo o0 o1 o2 o3 ∧ Below w.heap.size w wr ∧ El (w4 o0 o1 o2 o3) (x ^ (E / 2 ^ k) % pN)

theorem val_two : val 18446744073709551616 [2] = 2 := by decide
end Go.Proofs.YtpjjobophplleaaDoor
