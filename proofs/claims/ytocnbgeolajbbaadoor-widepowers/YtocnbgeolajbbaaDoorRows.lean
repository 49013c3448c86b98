/-
  NARROWER THAN 'FOR EVERY INPUT', by the rows' own cells (each row's printed sentence says how): WideReads: laid · WideReckons: laid · WidePowers: laid · WideFermat: laid · WideHalves: laid.
  DERIVED. THE GIVEN ROWS OF THIS SEAT. 5 by the template 'for every input the law returns true; each argument reads behind the call as it read before'; 0 by the template 'total and deterministic' (their statements: YtocnbgeolajbbaaDoorTotals.lean).
  GIVEN WITH THE SEED: the statements are not yours to turn. If you find one false, say at which input.
  Laid BY PROGRAM, IN A SANDBOX (cutbox-rows.mjs): the forced cells as the released guide's own fill.sh prints them over the translation 7e52dab523a236ec… (all of the seat's roots in one cut). By AI agents, Wed Nov 11 2026. No macro, syntax, notation, axiom, sorry.
-/
import Derived.Test.YtocnbgeolajbbaaDoorChecked
import GoSem.Claim
import GoSem.ClaimJoined
import GoSem.ClaimMapViews
import Derived.JoinedTies
import Derived.KernelRfl
namespace Go.Proofs.YtocnbgeolajbbaaDoor
/- THE CELL 'sum', in the pinned program and in every row, IS THE sha256 OF THE DUMP (.gsa) THAT YtocnbgeolajbbaaDoorProg.lean LOADS. Nothing in Lean hashes anything: it is a label: what it is worth is what the hold of that sum in a sandbox is worth. -/
noncomputable def Tryd.pinned : Pinned := { name := "ytocnbgeolajbbaadoor", sum := "7e52dab523a236ec782c2d86a6079e0207df9f997cc027815e5e08fb37f7bbc2", checked := Tryd.checked }
namespace Rows
def none {H : Type} : Left H := { results := [], args := [] }

/- WHAT THE LISTED PACKAGE-LEVEL VARIABLES READ AS WHEN THE CALL BEGINS. Each datum BY PROGRAM (the guide's laid-datum.mjs) off the statement by which the dump's own 'gosem.cut.vars' lays the variable. In a bare row this is a premise. The card (YtocnbgeolajbbaaDoorCards.lean) ties it to the program's text. -/
def laid_avouch_wide_prime {H : Type} : DataW H := .agg [.lit (.int .u64 18446744073709551615), .lit (.int .u64 17603518614768072224), .lit (.int .u64 16466767132611215046), .lit (.int .u64 5755940542857986629), .lit (.int .u64 3470879405153129527), .lit (.int .u64 17263733006627652379), .lit (.int .u64 5857503583518590173), .lit (.int .u64 147421033984662306), .lit (.int .u64 2955010104097229940), .lit (.int .u64 14179128828124470481), .lit (.int .u64 14488038916154245684), .lit (.int .u64 18446744073709551615)]

/-- 'avouchlaw04.WideReads': WHATEVER THE INPUT: true; the input reads as it did. -/
def wideReadsSpec : ChangeSpec := { name := "wideReads", fn := fun _ => fun
  | [d1, d2] => { results := [.lit (.bool true)], args := [d1, d2] }
  | _ => none }
def wideReadsRow : OpenClaim := { program := "ytocnbgeolajbbaadoor", sum := "7e52dab523a236ec782c2d86a6079e0207df9f997cc027815e5e08fb37f7bbc2", func := "avouch/avouchlaw04.WideReads", spec := "wideReads", inPlace := ["math/bits.Add64", "math/bits.Sub64"], unfollowed := true, recurses := true, named := ["avouch/wide.prime", "math/bits.divideError", "math/bits.overflowError"], apart := false, laid := [("avouch/wide.prime", laid_avouch_wide_prime)] }
def WideReadsSaid : Prop := wideReadsRow.holds Tryd.pinned (OpenSpec.ofChange wideReadsSpec)

/-- ITS FALSE NEIGHBOUR: 'it returns false'. Refute it at one input. -/
def wideReadsWrong : ChangeSpec := { name := "wideReads", fn := fun _ => fun
  | [d1, d2] => { results := [.lit (.bool false)], args := [d1, d2] }
  | _ => none }
def WideReadsWrongFalsely : Prop := wideReadsRow.holds Tryd.pinned (OpenSpec.ofChange wideReadsWrong)

/-- 'avouchlaw04.WideReckons': WHATEVER THE INPUT: true; the input reads as it did. -/
def wideReckonsSpec : ChangeSpec := { name := "wideReckons", fn := fun _ => fun
  | [d1, d2, d3] => { results := [.lit (.bool true)], args := [d1, d2, d3] }
  | _ => none }
def wideReckonsRow : OpenClaim := { program := "ytocnbgeolajbbaadoor", sum := "7e52dab523a236ec782c2d86a6079e0207df9f997cc027815e5e08fb37f7bbc2", func := "avouch/avouchlaw04.WideReckons", spec := "wideReckons", inPlace := ["math/bits.Add64", "math/bits.Sub64"], unfollowed := true, recurses := true, named := ["avouch/wide.prime", "math/bits.divideError", "math/bits.overflowError"], apart := false, laid := [("avouch/wide.prime", laid_avouch_wide_prime)] }
def WideReckonsSaid : Prop := wideReckonsRow.holds Tryd.pinned (OpenSpec.ofChange wideReckonsSpec)

/-- ITS FALSE NEIGHBOUR: 'it returns false'. Refute it at one input. -/
def wideReckonsWrong : ChangeSpec := { name := "wideReckons", fn := fun _ => fun
  | [d1, d2, d3] => { results := [.lit (.bool false)], args := [d1, d2, d3] }
  | _ => none }
def WideReckonsWrongFalsely : Prop := wideReckonsRow.holds Tryd.pinned (OpenSpec.ofChange wideReckonsWrong)

/-- 'avouchlaw04.WidePowers': WHATEVER THE INPUT: true; the input reads as it did. -/
def widePowersSpec : ChangeSpec := { name := "widePowers", fn := fun _ => fun
  | [d1, d2, d3] => { results := [.lit (.bool true)], args := [d1, d2, d3] }
  | _ => none }
def widePowersRow : OpenClaim := { program := "ytocnbgeolajbbaadoor", sum := "7e52dab523a236ec782c2d86a6079e0207df9f997cc027815e5e08fb37f7bbc2", func := "avouch/avouchlaw04.WidePowers", spec := "widePowers", inPlace := ["math/bits.Add64", "math/bits.Sub64"], unfollowed := true, recurses := true, named := ["avouch/wide.prime", "math/bits.divideError", "math/bits.overflowError"], apart := false, laid := [("avouch/wide.prime", laid_avouch_wide_prime)] }
def WidePowersSaid : Prop := widePowersRow.holds Tryd.pinned (OpenSpec.ofChange widePowersSpec)

/-- ITS FALSE NEIGHBOUR: 'it returns false'. Refute it at one input. -/
def widePowersWrong : ChangeSpec := { name := "widePowers", fn := fun _ => fun
  | [d1, d2, d3] => { results := [.lit (.bool false)], args := [d1, d2, d3] }
  | _ => none }
def WidePowersWrongFalsely : Prop := widePowersRow.holds Tryd.pinned (OpenSpec.ofChange widePowersWrong)

/-- 'avouchlaw04.WideFermat': WHATEVER THE INPUT: true; the input reads as it did. -/
def wideFermatSpec : ChangeSpec := { name := "wideFermat", fn := fun _ => fun
  | [d1, d2, d3, d4] => { results := [.lit (.bool true)], args := [d1, d2, d3, d4] }
  | _ => none }
def wideFermatRow : OpenClaim := { program := "ytocnbgeolajbbaadoor", sum := "7e52dab523a236ec782c2d86a6079e0207df9f997cc027815e5e08fb37f7bbc2", func := "avouch/avouchlaw04.WideFermat", spec := "wideFermat", inPlace := ["math/bits.Add64", "math/bits.Sub64"], unfollowed := true, recurses := true, named := ["avouch/wide.prime", "math/bits.divideError", "math/bits.overflowError"], apart := false, laid := [("avouch/wide.prime", laid_avouch_wide_prime)] }
def WideFermatSaid : Prop := wideFermatRow.holds Tryd.pinned (OpenSpec.ofChange wideFermatSpec)

/-- ITS FALSE NEIGHBOUR: 'it returns false'. Refute it at one input. -/
def wideFermatWrong : ChangeSpec := { name := "wideFermat", fn := fun _ => fun
  | [d1, d2, d3, d4] => { results := [.lit (.bool false)], args := [d1, d2, d3, d4] }
  | _ => none }
def WideFermatWrongFalsely : Prop := wideFermatRow.holds Tryd.pinned (OpenSpec.ofChange wideFermatWrong)

/-- 'avouchlaw04.WideHalves': WHATEVER THE INPUT: true; the input reads as it did. -/
def wideHalvesSpec : ChangeSpec := { name := "wideHalves", fn := fun _ => fun
  | [d1, d2, d3, d4] => { results := [.lit (.bool true)], args := [d1, d2, d3, d4] }
  | _ => none }
def wideHalvesRow : OpenClaim := { program := "ytocnbgeolajbbaadoor", sum := "7e52dab523a236ec782c2d86a6079e0207df9f997cc027815e5e08fb37f7bbc2", func := "avouch/avouchlaw04.WideHalves", spec := "wideHalves", inPlace := ["math/bits.Add64", "math/bits.Sub64"], unfollowed := true, recurses := true, named := ["avouch/wide.prime", "math/bits.divideError", "math/bits.overflowError"], apart := false, laid := [("avouch/wide.prime", laid_avouch_wide_prime)] }
def WideHalvesSaid : Prop := wideHalvesRow.holds Tryd.pinned (OpenSpec.ofChange wideHalvesSpec)

/-- ITS FALSE NEIGHBOUR: 'it returns false'. Refute it at one input. -/
def wideHalvesWrong : ChangeSpec := { name := "wideHalves", fn := fun _ => fun
  | [d1, d2, d3, d4] => { results := [.lit (.bool false)], args := [d1, d2, d3, d4] }
  | _ => none }
def WideHalvesWrongFalsely : Prop := wideHalvesRow.holds Tryd.pinned (OpenSpec.ofChange wideHalvesWrong)

/- THE SECOND FORM. 'bulk': how many values and letters a reading holds, each counted each time it is reached (what is shared counts as often as it is met; a slice's spare places count too). A statement '..UptoSaid' is the law's where the arguments, and the package variables that the reading takes, are together of bulk at most 1048576: NARROWER than '..Said'. Prove '..Said' where nothing that the law and all that it calls make is longer than what came in: it says more and counts as full. Else prove '..UptoSaid'. A law counts once. -/
mutual
def uptoBulk {H : Type} : DataW H → Nat
  | .lit (.string bytes) => bytes.length + 1
  | .lit _ => 1
  | .nil => 1
  | .ptr d => uptoBulk d + 1
  | .slice elems spare => uptoBulkAll elems + uptoBulkAll spare + 1
  | .agg parts => uptoBulkAll parts + 1
  | .iface _ d => uptoBulk d + 1
  | .map entries => uptoBulkEntries entries + 1
  | .held _ => 1
def uptoBulkAll {H : Type} : List (DataW H) → Nat
  | [] => 0
  | d :: r => uptoBulk d + uptoBulkAll r
def uptoBulkEntries {H : Type} : List (Lit × DataW H) → Nat
  | [] => 0
  | x :: r => uptoBulkEntry x + uptoBulkEntries r
def uptoBulkEntry {H : Type} : Lit × DataW H → Nat
  | (.string bytes, d) => bytes.length + uptoBulk d + 1
  | (_, d) => uptoBulk d + 1
 end
def uptoSmall : (H : Type) → List (DataW H) → Bool := fun _ ds => decide (uptoBulkAll ds ≤ 1048576)
def OpenSpec.upto (s : _root_.Go.ChangeSpec) : _root_.Go.OpenSpec := { _root_.Go.OpenSpec.ofChange s with cond := some uptoSmall }

/-- 'avouchlaw04.WideReads', WHERE WHAT IT READS IS OF BULK AT MOST 1048576: true; the input reads as it did. -/
def wideReadsUptoRow : OpenClaim := { program := "ytocnbgeolajbbaadoor", sum := "7e52dab523a236ec782c2d86a6079e0207df9f997cc027815e5e08fb37f7bbc2", func := "avouch/avouchlaw04.WideReads", spec := "wideReads", inPlace := ["math/bits.Add64", "math/bits.Sub64"], unfollowed := true, recurses := true, named := ["avouch/wide.prime", "math/bits.divideError", "math/bits.overflowError"], apart := false, laid := [("avouch/wide.prime", laid_avouch_wide_prime)], narrowed := true }
def WideReadsUptoSaid : Prop := wideReadsUptoRow.holds Tryd.pinned (OpenSpec.upto wideReadsSpec)

/-- 'avouchlaw04.WideReckons', WHERE WHAT IT READS IS OF BULK AT MOST 1048576: true; the input reads as it did. -/
def wideReckonsUptoRow : OpenClaim := { program := "ytocnbgeolajbbaadoor", sum := "7e52dab523a236ec782c2d86a6079e0207df9f997cc027815e5e08fb37f7bbc2", func := "avouch/avouchlaw04.WideReckons", spec := "wideReckons", inPlace := ["math/bits.Add64", "math/bits.Sub64"], unfollowed := true, recurses := true, named := ["avouch/wide.prime", "math/bits.divideError", "math/bits.overflowError"], apart := false, laid := [("avouch/wide.prime", laid_avouch_wide_prime)], narrowed := true }
def WideReckonsUptoSaid : Prop := wideReckonsUptoRow.holds Tryd.pinned (OpenSpec.upto wideReckonsSpec)

/-- 'avouchlaw04.WidePowers', WHERE WHAT IT READS IS OF BULK AT MOST 1048576: true; the input reads as it did. -/
def widePowersUptoRow : OpenClaim := { program := "ytocnbgeolajbbaadoor", sum := "7e52dab523a236ec782c2d86a6079e0207df9f997cc027815e5e08fb37f7bbc2", func := "avouch/avouchlaw04.WidePowers", spec := "widePowers", inPlace := ["math/bits.Add64", "math/bits.Sub64"], unfollowed := true, recurses := true, named := ["avouch/wide.prime", "math/bits.divideError", "math/bits.overflowError"], apart := false, laid := [("avouch/wide.prime", laid_avouch_wide_prime)], narrowed := true }
def WidePowersUptoSaid : Prop := widePowersUptoRow.holds Tryd.pinned (OpenSpec.upto widePowersSpec)

/-- 'avouchlaw04.WideFermat', WHERE WHAT IT READS IS OF BULK AT MOST 1048576: true; the input reads as it did. -/
def wideFermatUptoRow : OpenClaim := { program := "ytocnbgeolajbbaadoor", sum := "7e52dab523a236ec782c2d86a6079e0207df9f997cc027815e5e08fb37f7bbc2", func := "avouch/avouchlaw04.WideFermat", spec := "wideFermat", inPlace := ["math/bits.Add64", "math/bits.Sub64"], unfollowed := true, recurses := true, named := ["avouch/wide.prime", "math/bits.divideError", "math/bits.overflowError"], apart := false, laid := [("avouch/wide.prime", laid_avouch_wide_prime)], narrowed := true }
def WideFermatUptoSaid : Prop := wideFermatUptoRow.holds Tryd.pinned (OpenSpec.upto wideFermatSpec)

/-- 'avouchlaw04.WideHalves', WHERE WHAT IT READS IS OF BULK AT MOST 1048576: true; the input reads as it did. -/
def wideHalvesUptoRow : OpenClaim := { program := "ytocnbgeolajbbaadoor", sum := "7e52dab523a236ec782c2d86a6079e0207df9f997cc027815e5e08fb37f7bbc2", func := "avouch/avouchlaw04.WideHalves", spec := "wideHalves", inPlace := ["math/bits.Add64", "math/bits.Sub64"], unfollowed := true, recurses := true, named := ["avouch/wide.prime", "math/bits.divideError", "math/bits.overflowError"], apart := false, laid := [("avouch/wide.prime", laid_avouch_wide_prime)], narrowed := true }
def WideHalvesUptoSaid : Prop := wideHalvesUptoRow.holds Tryd.pinned (OpenSpec.upto wideHalvesSpec)

end Rows
end Go.Proofs.YtocnbgeolajbbaaDoor
