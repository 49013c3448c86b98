/-
  NARROWER THAN 'FOR EVERY INPUT', by the rows' own cells (each row's printed sentence says how): WideFermat: laid · GroupReads: laid · GroupPowers: laid · GroupScalars: laid · GroupLaws: laid · GroupCloses: laid.
  DERIVED. THE GIVEN ROWS OF THIS SEAT. 6 by the template 'for every input the law returns true; each argument reads behind the call as it read before'; 0 by the template 'total and deterministic' (their statements: YtfonpmahcdmajaaDoorTotals.lean).
  GIVEN WITH THE SEED: the statements are not yours to turn. If you find one false, say at which input.
  Laid BY PROGRAM, IN A SANDBOX (cutbox-rows.mjs): the forced cells as the released guide's own fill.sh prints them over the translation 75bb623f6debf17c… (all of the seat's roots in one cut). By AI agents, Wed Nov 11 2026. No macro, syntax, notation, axiom, sorry.
-/
import Derived.Test.YtfonpmahcdmajaaDoorChecked
import GoSem.Claim
import GoSem.ClaimJoined
import GoSem.ClaimMapViews
import Derived.JoinedTies
import Derived.KernelRfl
namespace Go.Proofs.YtfonpmahcdmajaaDoor
/- THE CELL 'sum', in the pinned program and in every row, IS THE sha256 OF THE DUMP (.gsa) THAT YtfonpmahcdmajaaDoorProg.lean LOADS. Nothing in Lean hashes anything: it is a label: what it is worth is what the hold of that sum in a sandbox is worth. -/
noncomputable def Tryd.pinned : Pinned := { name := "ytfonpmahcdmajaadoor", sum := "75bb623f6debf17c50ea836ed3b3e33bc1e3a78ac52aac5730a074b51bf42116", checked := Tryd.checked }
namespace Rows
def none {H : Type} : Left H := { results := [], args := [] }

/- WHAT THE LISTED PACKAGE-LEVEL VARIABLES READ AS WHEN THE CALL BEGINS. Each datum BY PROGRAM (the guide's laid-datum.mjs) off the statement by which the dump's own 'gosem.cut.vars' lays the variable. In a bare row this is a premise. The card (YtfonpmahcdmajaaDoorCards.lean) ties it to the program's text. -/
def laid_avouch_wide_prime {H : Type} : DataW H := .agg [.lit (.int .u64 18446744073709551615), .lit (.int .u64 17603518614768072224), .lit (.int .u64 16466767132611215046), .lit (.int .u64 5755940542857986629), .lit (.int .u64 3470879405153129527), .lit (.int .u64 17263733006627652379), .lit (.int .u64 5857503583518590173), .lit (.int .u64 147421033984662306), .lit (.int .u64 2955010104097229940), .lit (.int .u64 14179128828124470481), .lit (.int .u64 14488038916154245684), .lit (.int .u64 18446744073709551615)]
def laid_avouch_field_prime {H : Type} : DataW H := .agg [.lit (.int .u64 4891460686036598785), .lit (.int .u64 2896914383306846353), .lit (.int .u64 13281191951274694749), .lit (.int .u64 3486998266802970665)]
def laid_avouch_field_raise {H : Type} : DataW H := .agg [.lit (.int .u64 1997599621687373223), .lit (.int .u64 6052339484930628067), .lit (.int .u64 10108755138030829701), .lit (.int .u64 150537098327114917)]

/-- 'avouchlaw04.WideFermat': WHATEVER THE INPUT: true; the input reads as it did. -/
def wideFermatSpec : ChangeSpec := { name := "wideFermat", fn := fun _ => fun
  | [d1, d2, d3, d4] => { results := [.lit (.bool true)], args := [d1, d2, d3, d4] }
  | _ => none }
def wideFermatRow : OpenClaim := { program := "ytfonpmahcdmajaadoor", sum := "75bb623f6debf17c50ea836ed3b3e33bc1e3a78ac52aac5730a074b51bf42116", func := "avouch/avouchlaw04.WideFermat", spec := "wideFermat", inPlace := ["math/bits.Add64", "math/bits.Sub64"], unfollowed := true, recurses := true, named := ["avouch/wide.prime", "math/bits.divideError", "math/bits.overflowError"], apart := false, laid := [("avouch/wide.prime", laid_avouch_wide_prime)] }
def WideFermatSaid : Prop := wideFermatRow.holds Tryd.pinned (OpenSpec.ofChange wideFermatSpec)

/-- ITS FALSE NEIGHBOUR: 'it returns false'. Refute it at one input. -/
def wideFermatWrong : ChangeSpec := { name := "wideFermat", fn := fun _ => fun
  | [d1, d2, d3, d4] => { results := [.lit (.bool false)], args := [d1, d2, d3, d4] }
  | _ => none }
def WideFermatWrongFalsely : Prop := wideFermatRow.holds Tryd.pinned (OpenSpec.ofChange wideFermatWrong)

/-- 'avouchlaw05.GroupReads': WHATEVER THE INPUT: true; the input reads as it did. -/
def groupReadsSpec : ChangeSpec := { name := "groupReads", fn := fun _ => fun
  | [d] => { results := [.lit (.bool true)], args := [d] }
  | _ => none }
def groupReadsRow : OpenClaim := { program := "ytfonpmahcdmajaadoor", sum := "75bb623f6debf17c50ea836ed3b3e33bc1e3a78ac52aac5730a074b51bf42116", func := "avouch/avouchlaw05.GroupReads", spec := "groupReads", inPlace := ["math/bits.Add64", "math/bits.Sub64"], unfollowed := true, recurses := true, named := ["avouch/wide.prime", "math/bits.divideError", "math/bits.overflowError"], apart := false, laid := [("avouch/wide.prime", laid_avouch_wide_prime)] }
def GroupReadsSaid : Prop := groupReadsRow.holds Tryd.pinned (OpenSpec.ofChange groupReadsSpec)

/-- ITS FALSE NEIGHBOUR: 'it returns false'. Refute it at one input. -/
def groupReadsWrong : ChangeSpec := { name := "groupReads", fn := fun _ => fun
  | [d] => { results := [.lit (.bool false)], args := [d] }
  | _ => none }
def GroupReadsWrongFalsely : Prop := groupReadsRow.holds Tryd.pinned (OpenSpec.ofChange groupReadsWrong)

/-- 'avouchlaw05.GroupPowers': WHATEVER THE INPUT: true; the input reads as it did. -/
def groupPowersSpec : ChangeSpec := { name := "groupPowers", fn := fun _ => fun
  | [d1, d2, d3] => { results := [.lit (.bool true)], args := [d1, d2, d3] }
  | _ => none }
def groupPowersRow : OpenClaim := { program := "ytfonpmahcdmajaadoor", sum := "75bb623f6debf17c50ea836ed3b3e33bc1e3a78ac52aac5730a074b51bf42116", func := "avouch/avouchlaw05.GroupPowers", spec := "groupPowers", inPlace := ["math/bits.Add64", "math/bits.Sub64"], unfollowed := true, recurses := true, named := ["avouch/wide.prime", "math/bits.divideError", "math/bits.overflowError"], apart := false, laid := [("avouch/wide.prime", laid_avouch_wide_prime)] }
def GroupPowersSaid : Prop := groupPowersRow.holds Tryd.pinned (OpenSpec.ofChange groupPowersSpec)

/-- ITS FALSE NEIGHBOUR: 'it returns false'. Refute it at one input. -/
def groupPowersWrong : ChangeSpec := { name := "groupPowers", fn := fun _ => fun
  | [d1, d2, d3] => { results := [.lit (.bool false)], args := [d1, d2, d3] }
  | _ => none }
def GroupPowersWrongFalsely : Prop := groupPowersRow.holds Tryd.pinned (OpenSpec.ofChange groupPowersWrong)

/-- 'avouchlaw05.GroupScalars': WHATEVER THE INPUT: true; the input reads as it did. -/
def groupScalarsSpec : ChangeSpec := { name := "groupScalars", fn := fun _ => fun
  | [d1, d2, d3] => { results := [.lit (.bool true)], args := [d1, d2, d3] }
  | _ => none }
def groupScalarsRow : OpenClaim := { program := "ytfonpmahcdmajaadoor", sum := "75bb623f6debf17c50ea836ed3b3e33bc1e3a78ac52aac5730a074b51bf42116", func := "avouch/avouchlaw05.GroupScalars", spec := "groupScalars", inPlace := ["math/bits.Add64", "math/bits.Sub64"], unfollowed := true, recurses := true, named := ["avouch/wide.prime", "math/bits.divideError", "math/bits.overflowError", "avouch/field.prime", "avouch/field.raise"], apart := false, laid := [("avouch/field.prime", laid_avouch_field_prime), ("avouch/field.raise", laid_avouch_field_raise), ("avouch/wide.prime", laid_avouch_wide_prime)] }
def GroupScalarsSaid : Prop := groupScalarsRow.holds Tryd.pinned (OpenSpec.ofChange groupScalarsSpec)

/-- ITS FALSE NEIGHBOUR: 'it returns false'. Refute it at one input. -/
def groupScalarsWrong : ChangeSpec := { name := "groupScalars", fn := fun _ => fun
  | [d1, d2, d3] => { results := [.lit (.bool false)], args := [d1, d2, d3] }
  | _ => none }
def GroupScalarsWrongFalsely : Prop := groupScalarsRow.holds Tryd.pinned (OpenSpec.ofChange groupScalarsWrong)

/-- 'avouchlaw05.GroupLaws': WHATEVER THE INPUT: true; the input reads as it did. -/
def groupLawsSpec : ChangeSpec := { name := "groupLaws", fn := fun _ => fun
  | [d1, d2] => { results := [.lit (.bool true)], args := [d1, d2] }
  | _ => none }
def groupLawsRow : OpenClaim := { program := "ytfonpmahcdmajaadoor", sum := "75bb623f6debf17c50ea836ed3b3e33bc1e3a78ac52aac5730a074b51bf42116", func := "avouch/avouchlaw05.GroupLaws", spec := "groupLaws", inPlace := ["math/bits.Add64", "math/bits.Sub64"], unfollowed := true, recurses := true, named := ["avouch/wide.prime", "math/bits.divideError", "math/bits.overflowError"], apart := false, laid := [("avouch/wide.prime", laid_avouch_wide_prime)] }
def GroupLawsSaid : Prop := groupLawsRow.holds Tryd.pinned (OpenSpec.ofChange groupLawsSpec)

/-- ITS FALSE NEIGHBOUR: 'it returns false'. Refute it at one input. -/
def groupLawsWrong : ChangeSpec := { name := "groupLaws", fn := fun _ => fun
  | [d1, d2] => { results := [.lit (.bool false)], args := [d1, d2] }
  | _ => none }
def GroupLawsWrongFalsely : Prop := groupLawsRow.holds Tryd.pinned (OpenSpec.ofChange groupLawsWrong)

/-- 'avouchlaw05.GroupCloses': WHATEVER THE INPUT: true; the input reads as it did. -/
def groupClosesSpec : ChangeSpec := { name := "groupCloses", fn := fun _ => fun
  | [d1, d2] => { results := [.lit (.bool true)], args := [d1, d2] }
  | _ => none }
def groupClosesRow : OpenClaim := { program := "ytfonpmahcdmajaadoor", sum := "75bb623f6debf17c50ea836ed3b3e33bc1e3a78ac52aac5730a074b51bf42116", func := "avouch/avouchlaw05.GroupCloses", spec := "groupCloses", inPlace := ["math/bits.Add64", "math/bits.Sub64"], unfollowed := true, recurses := true, named := ["avouch/wide.prime", "math/bits.divideError", "math/bits.overflowError"], apart := false, laid := [("avouch/wide.prime", laid_avouch_wide_prime)] }
def GroupClosesSaid : Prop := groupClosesRow.holds Tryd.pinned (OpenSpec.ofChange groupClosesSpec)

/-- ITS FALSE NEIGHBOUR: 'it returns false'. Refute it at one input. -/
def groupClosesWrong : ChangeSpec := { name := "groupCloses", fn := fun _ => fun
  | [d1, d2] => { results := [.lit (.bool false)], args := [d1, d2] }
  | _ => none }
def GroupClosesWrongFalsely : Prop := groupClosesRow.holds Tryd.pinned (OpenSpec.ofChange groupClosesWrong)

/- THE SECOND FORM. 'bulk': how many values and letters a reading holds, each counted each time it is reached (what is shared counts as often as it is met; a slice's spare places count too). A statement '..UptoSaid' is the law's where the arguments, and the package variables that the reading takes, are together of bulk at most 1048576: NARROWER than '..Said'. Prove '..Said' where nothing that the law and all that it calls make is longer than what came in: it says more and counts as full. Else prove '..UptoSaid'. A law counts once. -/
mutual
def uptoBulk {H : Type} : DataW H → Nat
  | .lit (.string bytes) => bytes.length + 1
  | .lit _ => 1
  | .nil => 1
  | .ptr d => uptoBulk d + 1
  | .slice elems spare => uptoBulkAll elems + uptoBulkAll spare + 1
  | .agg parts => uptoBulkAll parts + 1
  | .iface _ d => uptoBulk d + 1
  | .map entries => uptoBulkEntries entries + 1
  | .held _ => 1
def uptoBulkAll {H : Type} : List (DataW H) → Nat
  | [] => 0
  | d :: r => uptoBulk d + uptoBulkAll r
def uptoBulkEntries {H : Type} : List (Lit × DataW H) → Nat
  | [] => 0
  | x :: r => uptoBulkEntry x + uptoBulkEntries r
def uptoBulkEntry {H : Type} : Lit × DataW H → Nat
  | (.string bytes, d) => bytes.length + uptoBulk d + 1
  | (_, d) => uptoBulk d + 1
 end
def uptoSmall : (H : Type) → List (DataW H) → Bool := fun _ ds => decide (uptoBulkAll ds ≤ 1048576)
def OpenSpec.upto (s : _root_.Go.ChangeSpec) : _root_.Go.OpenSpec := { _root_.Go.OpenSpec.ofChange s with cond := some uptoSmall }

/-- 'avouchlaw04.WideFermat', WHERE WHAT IT READS IS OF BULK AT MOST 1048576: true; the input reads as it did. -/
def wideFermatUptoRow : OpenClaim := { program := "ytfonpmahcdmajaadoor", sum := "75bb623f6debf17c50ea836ed3b3e33bc1e3a78ac52aac5730a074b51bf42116", func := "avouch/avouchlaw04.WideFermat", spec := "wideFermat", inPlace := ["math/bits.Add64", "math/bits.Sub64"], unfollowed := true, recurses := true, named := ["avouch/wide.prime", "math/bits.divideError", "math/bits.overflowError"], apart := false, laid := [("avouch/wide.prime", laid_avouch_wide_prime)], narrowed := true }
def WideFermatUptoSaid : Prop := wideFermatUptoRow.holds Tryd.pinned (OpenSpec.upto wideFermatSpec)

/-- 'avouchlaw05.GroupReads', WHERE WHAT IT READS IS OF BULK AT MOST 1048576: true; the input reads as it did. -/
def groupReadsUptoRow : OpenClaim := { program := "ytfonpmahcdmajaadoor", sum := "75bb623f6debf17c50ea836ed3b3e33bc1e3a78ac52aac5730a074b51bf42116", func := "avouch/avouchlaw05.GroupReads", spec := "groupReads", inPlace := ["math/bits.Add64", "math/bits.Sub64"], unfollowed := true, recurses := true, named := ["avouch/wide.prime", "math/bits.divideError", "math/bits.overflowError"], apart := false, laid := [("avouch/wide.prime", laid_avouch_wide_prime)], narrowed := true }
def GroupReadsUptoSaid : Prop := groupReadsUptoRow.holds Tryd.pinned (OpenSpec.upto groupReadsSpec)

/-- 'avouchlaw05.GroupPowers', WHERE WHAT IT READS IS OF BULK AT MOST 1048576: true; the input reads as it did. -/
def groupPowersUptoRow : OpenClaim := { program := "ytfonpmahcdmajaadoor", sum := "75bb623f6debf17c50ea836ed3b3e33bc1e3a78ac52aac5730a074b51bf42116", func := "avouch/avouchlaw05.GroupPowers", spec := "groupPowers", inPlace := ["math/bits.Add64", "math/bits.Sub64"], unfollowed := true, recurses := true, named := ["avouch/wide.prime", "math/bits.divideError", "math/bits.overflowError"], apart := false, laid := [("avouch/wide.prime", laid_avouch_wide_prime)], narrowed := true }
def GroupPowersUptoSaid : Prop := groupPowersUptoRow.holds Tryd.pinned (OpenSpec.upto groupPowersSpec)

/-- 'avouchlaw05.GroupScalars', WHERE WHAT IT READS IS OF BULK AT MOST 1048576: true; the input reads as it did. -/
def groupScalarsUptoRow : OpenClaim := { program := "ytfonpmahcdmajaadoor", sum := "75bb623f6debf17c50ea836ed3b3e33bc1e3a78ac52aac5730a074b51bf42116", func := "avouch/avouchlaw05.GroupScalars", spec := "groupScalars", inPlace := ["math/bits.Add64", "math/bits.Sub64"], unfollowed := true, recurses := true, named := ["avouch/wide.prime", "math/bits.divideError", "math/bits.overflowError", "avouch/field.prime", "avouch/field.raise"], apart := false, laid := [("avouch/field.prime", laid_avouch_field_prime), ("avouch/field.raise", laid_avouch_field_raise), ("avouch/wide.prime", laid_avouch_wide_prime)], narrowed := true }
def GroupScalarsUptoSaid : Prop := groupScalarsUptoRow.holds Tryd.pinned (OpenSpec.upto groupScalarsSpec)

/-- 'avouchlaw05.GroupLaws', WHERE WHAT IT READS IS OF BULK AT MOST 1048576: true; the input reads as it did. -/
def groupLawsUptoRow : OpenClaim := { program := "ytfonpmahcdmajaadoor", sum := "75bb623f6debf17c50ea836ed3b3e33bc1e3a78ac52aac5730a074b51bf42116", func := "avouch/avouchlaw05.GroupLaws", spec := "groupLaws", inPlace := ["math/bits.Add64", "math/bits.Sub64"], unfollowed := true, recurses := true, named := ["avouch/wide.prime", "math/bits.divideError", "math/bits.overflowError"], apart := false, laid := [("avouch/wide.prime", laid_avouch_wide_prime)], narrowed := true }
def GroupLawsUptoSaid : Prop := groupLawsUptoRow.holds Tryd.pinned (OpenSpec.upto groupLawsSpec)

/-- 'avouchlaw05.GroupCloses', WHERE WHAT IT READS IS OF BULK AT MOST 1048576: true; the input reads as it did. -/
def groupClosesUptoRow : OpenClaim := { program := "ytfonpmahcdmajaadoor", sum := "75bb623f6debf17c50ea836ed3b3e33bc1e3a78ac52aac5730a074b51bf42116", func := "avouch/avouchlaw05.GroupCloses", spec := "groupCloses", inPlace := ["math/bits.Add64", "math/bits.Sub64"], unfollowed := true, recurses := true, named := ["avouch/wide.prime", "math/bits.divideError", "math/bits.overflowError"], apart := false, laid := [("avouch/wide.prime", laid_avouch_wide_prime)], narrowed := true }
def GroupClosesUptoSaid : Prop := groupClosesUptoRow.holds Tryd.pinned (OpenSpec.upto groupClosesSpec)

end Rows
end Go.Proofs.YtfonpmahcdmajaaDoor
