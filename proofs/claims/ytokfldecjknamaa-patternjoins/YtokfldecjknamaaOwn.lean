/-
  A slice of words that the call itself made and appends to (OwnW), and the law of append for it.
-/
import Derived.Test.YtokfldecjknamaaPrims
import Derived.Laws.AppendOwn
import Derived.OwnWalk
namespace Go.Proofs.Ytokfldecjknamaa
open Go.RowKit
set_option linter.unusedVariables false

def cellsOf64 (l : List Nat) : List Value := l.map fun (x : Nat) => Value.int .u64 (x : Int)

end Go.Proofs.Ytokfldecjknamaa
