/-
  limb.cutOff: what the call does.
-/
import Derived.Test.YtpilbpkblcmngaaDoorLCut
namespace Go.Proofs.YtpilbpkblcmngaaDoor
open Go.RowKit
set_option linter.unusedVariables false

end Go.Proofs.YtpilbpkblcmngaaDoor
