/-
  avouchlaw01.speaks: the document's example holds.
-/
import Derived.Test.YtpilbpkblcmngaaDoorLOpsC
import Derived.Test.YtpilbpkblcmngaaDoorRefB
namespace Go.Proofs.YtpilbpkblcmngaaDoor
open Go.RowKit
set_option linter.unusedVariables false

/-- A slice of one word that is built: it is read; nothing old has turned. -/
theorem built1 (w : World) (X : Int) (n : Nat) (hX : X = (n : Int)) (hn : n < 18446744073709551616) : Rd (w.alloc (.cells #[.int .u64 X] 22)) (w.alloc (.cells #[.int .u64 X] 22)).heap.size (some ⟨w.heap.size, 0, none⟩) 1 [n] ∧ Below w.heap.size w (w.alloc (.cells #[.int .u64 X] 22)) := by
  have h := rd_one w X n hX hn
  refine ⟨?_, (Below.refl _ _).alloc (Nat.le_refl _) _⟩
  have hz : (w.alloc (.cells #[.int .u64 X] 22)).heap.size = w.heap.size + 1 := by simp
  rw [hz]; exact h

theorem rt7 : Rt [7] := by unfold Rt; decide

theorem one_word {r : List Nat} {X : Nat} (h : r.length = 1) (hr : allLt r) (hv : val 18446744073709551616 r = X) : r = [X] := by
  match r, h with
  | [x], _ => rw [val_one] at hv; rw [hv]

theorem built2 (w : World) (X Y : Int) (m n : Nat) (hX : X = (m : Int)) (hY : Y = (n : Int)) (hm : m < 18446744073709551616) (hn : n < 18446744073709551616) (W : World) (hW : W = (w.alloc (.cells #[.int .u64 X] 22)).alloc (.cells #[.int .u64 Y] 22)) :
    Rd W W.heap.size (some ⟨w.heap.size, 0, none⟩) 1 [m] ∧ Rd W W.heap.size (some ⟨w.heap.size + 1, 0, none⟩) 1 [n] ∧ Below w.heap.size w W := by
  obtain ⟨r1, b1⟩ := built1 w X m hX hm
  obtain ⟨r2, b2⟩ := built1 (w.alloc (.cells #[.int .u64 X] 22)) Y n hY hn
  have hz : (w.alloc (.cells #[.int .u64 X] 22)).heap.size = w.heap.size + 1 := by simp
  rw [← hW] at r2 b2
  have r1' := r1.up b2 (Nat.le_refl _)
  rw [hz] at r2
  exact ⟨r1', r2, b1.trans (b2.mono b1.size)⟩

end Go.Proofs.YtpilbpkblcmngaaDoor
