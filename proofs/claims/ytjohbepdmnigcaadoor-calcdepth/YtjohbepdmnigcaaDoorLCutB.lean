/-
  limb.cutOff: what the call does.
-/
import Derived.Test.YtjohbepdmnigcaaDoorLCut
namespace Go.Proofs.YtjohbepdmnigcaaDoor
open Go.RowKit
set_option linter.unusedVariables false

end Go.Proofs.YtjohbepdmnigcaaDoor
