/-
  The walks' closed facts: make of words, the model's own entries for bits.Add64 and bits.Sub64.
-/
import Derived.Test.YtokfldecjknamaaRows
import Derived.Test.YtokfldecjknamaaMem
import Derived.Test.YtokfldecjknamaaNum
import Derived.Shelf.Spec.BitsCarry
import Derived.Deep.OwnRows
import Derived.Lib.MinMax
namespace Go.Proofs.Ytokfldecjknamaa
open Go.RowKit

/-- The borrow, under a name. -/
def bor (x y : Int) : Int := if x < y then 1 else 0
theorem bor_nonneg (x y : Int) : 0 ≤ bor x y := by unfold bor; split <;> decide
theorem bor_le (x y : Int) : bor x y ≤ 1 := by unfold bor; split <;> decide
/-- n words that are 0. -/
def zeros (n : Nat) : Array Value := madeCells (Value.int .u64 0).cells (n * 1)
theorem zeros_eq (n : Nat) : zeros n = ((List.replicate n 0).map fun (x : Nat) => Value.int .u64 (x : Int)).toArray := by
  unfold zeros madeCells
  apply Array.ext
  · simp
  · intro i h1 h2
    simp [Value.cells, Nat.mod_one]
theorem BlkW.setI {w : World} {b : Nat} {t : TypeId} {ws : List Nat} (h : BlkW w b t ws) (i : Nat) (x : Nat) (v : Int) (hx : x < 18446744073709551616) (hv : v = (x : Int)) :
    BlkW (w.setCell ⟨b, i, none⟩ (.int .u64 v)) b t (ws.set i x) := by subst hv; exact h.set i x hx
end Go.Proofs.Ytokfldecjknamaa
