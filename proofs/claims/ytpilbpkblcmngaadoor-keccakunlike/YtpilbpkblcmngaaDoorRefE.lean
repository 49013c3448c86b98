/-
  avouchref01.Sub: what the call does.
-/
import Derived.Test.YtpilbpkblcmngaaDoorRefD
namespace Go.Proofs.YtpilbpkblcmngaaDoor
open Go.RowKit
set_option linter.unusedVariables false

theorem rsub_word (x y c : Nat) (hx : x < 4294967296) (hy : y < 4294967296) (hc : c ≤ 1) :
    (4294967296 + x - y - c) % 4294967296 + y + c = x + (1 - (4294967296 + x - y - c) / 4294967296) * 4294967296 ∧ 1 - (4294967296 + x - y - c) / 4294967296 ≤ 1 := by omega

end Go.Proofs.YtpilbpkblcmngaaDoor
