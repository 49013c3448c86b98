/-
  NARROWER THAN 'FOR EVERY INPUT', by the rows' own cells (each row's printed sentence says how): FieldReads: laid · FieldReckons: laid · FieldPowers: laid · FieldLaws: laid · FieldSums: laid.
  DERIVED. THE GIVEN ROWS OF THIS SEAT. 5 by the template 'for every input the law returns true; each argument reads behind the call as it read before'; 0 by the template 'total and deterministic' (their statements: YtjkellpfoogomaaDoorTotals.lean).
  GIVEN WITH THE SEED: the statements are not yours to turn. If you find one false, say at which input.
  Laid BY PROGRAM, IN A SANDBOX (cutbox-rows.mjs): the forced cells as the released guide's own fill.sh prints them over the translation afd99c638fd18285… (all of the seat's roots in one cut). By AI agents, Wed Nov 11 2026. No macro, syntax, notation, axiom, sorry.
-/
import Derived.Test.YtjkellpfoogomaaDoorChecked
import GoSem.Claim
import GoSem.ClaimJoined
import GoSem.ClaimMapViews
import Derived.JoinedTies
import Derived.KernelRfl
namespace Go.Proofs.YtjkellpfoogomaaDoor
/- THE CELL 'sum', in the pinned program and in every row, IS THE sha256 OF THE DUMP (.gsa) THAT YtjkellpfoogomaaDoorProg.lean LOADS. Nothing in Lean hashes anything: it is a label: what it is worth is what the hold of that sum in a sandbox is worth. -/
noncomputable def Tryd.pinned : Pinned := { name := "ytjkellpfoogomaadoor", sum := "afd99c638fd18285e54e0451789a952fc22786888cd718b0888ca5e557c523bd", checked := Tryd.checked }
namespace Rows
def none {H : Type} : Left H := { results := [], args := [] }

/- WHAT THE LISTED PACKAGE-LEVEL VARIABLES READ AS WHEN THE CALL BEGINS. Each datum BY PROGRAM (the guide's laid-datum.mjs) off the statement by which the dump's own 'gosem.cut.vars' lays the variable. In a bare row this is a premise. The card (YtjkellpfoogomaaDoorCards.lean) ties it to the program's text. -/
def laid_avouch_field_prime {H : Type} : DataW H := .agg [.lit (.int .u64 4891460686036598785), .lit (.int .u64 2896914383306846353), .lit (.int .u64 13281191951274694749), .lit (.int .u64 3486998266802970665)]
def laid_avouch_field_raise {H : Type} : DataW H := .agg [.lit (.int .u64 1997599621687373223), .lit (.int .u64 6052339484930628067), .lit (.int .u64 10108755138030829701), .lit (.int .u64 150537098327114917)]

/-- 'avouchlaw02.FieldReads': WHATEVER THE INPUT: true; the input reads as it did. -/
def fieldReadsSpec : ChangeSpec := { name := "fieldReads", fn := fun _ => fun
  | [d1, d2] => { results := [.lit (.bool true)], args := [d1, d2] }
  | _ => none }
def fieldReadsRow : OpenClaim := { program := "ytjkellpfoogomaadoor", sum := "afd99c638fd18285e54e0451789a952fc22786888cd718b0888ca5e557c523bd", func := "avouch/avouchlaw02.FieldReads", spec := "fieldReads", inPlace := ["math/bits.Add64", "math/bits.Sub64"], named := ["avouch/field.raise", "avouch/field.prime", "math/bits.divideError", "math/bits.overflowError"], apart := false, laid := [("avouch/field.prime", laid_avouch_field_prime), ("avouch/field.raise", laid_avouch_field_raise)] }
def FieldReadsSaid : Prop := fieldReadsRow.holds Tryd.pinned (OpenSpec.ofChange fieldReadsSpec)

/-- ITS FALSE NEIGHBOUR: 'it returns false'. Refute it at one input. -/
def fieldReadsWrong : ChangeSpec := { name := "fieldReads", fn := fun _ => fun
  | [d1, d2] => { results := [.lit (.bool false)], args := [d1, d2] }
  | _ => none }
def FieldReadsWrongFalsely : Prop := fieldReadsRow.holds Tryd.pinned (OpenSpec.ofChange fieldReadsWrong)

/-- 'avouchlaw02.FieldReckons': WHATEVER THE INPUT: true; the input reads as it did. -/
def fieldReckonsSpec : ChangeSpec := { name := "fieldReckons", fn := fun _ => fun
  | [d1, d2] => { results := [.lit (.bool true)], args := [d1, d2] }
  | _ => none }
def fieldReckonsRow : OpenClaim := { program := "ytjkellpfoogomaadoor", sum := "afd99c638fd18285e54e0451789a952fc22786888cd718b0888ca5e557c523bd", func := "avouch/avouchlaw02.FieldReckons", spec := "fieldReckons", inPlace := ["math/bits.Add64", "math/bits.Sub64"], named := ["avouch/field.raise", "avouch/field.prime", "math/bits.divideError", "math/bits.overflowError"], apart := false, laid := [("avouch/field.prime", laid_avouch_field_prime), ("avouch/field.raise", laid_avouch_field_raise)] }
def FieldReckonsSaid : Prop := fieldReckonsRow.holds Tryd.pinned (OpenSpec.ofChange fieldReckonsSpec)

/-- ITS FALSE NEIGHBOUR: 'it returns false'. Refute it at one input. -/
def fieldReckonsWrong : ChangeSpec := { name := "fieldReckons", fn := fun _ => fun
  | [d1, d2] => { results := [.lit (.bool false)], args := [d1, d2] }
  | _ => none }
def FieldReckonsWrongFalsely : Prop := fieldReckonsRow.holds Tryd.pinned (OpenSpec.ofChange fieldReckonsWrong)

/-- 'avouchlaw02.FieldPowers': WHATEVER THE INPUT: true; the input reads as it did. -/
def fieldPowersSpec : ChangeSpec := { name := "fieldPowers", fn := fun _ => fun
  | [d1, d2] => { results := [.lit (.bool true)], args := [d1, d2] }
  | _ => none }
def fieldPowersRow : OpenClaim := { program := "ytjkellpfoogomaadoor", sum := "afd99c638fd18285e54e0451789a952fc22786888cd718b0888ca5e557c523bd", func := "avouch/avouchlaw02.FieldPowers", spec := "fieldPowers", inPlace := ["math/bits.Add64", "math/bits.Sub64"], named := ["avouch/field.raise", "avouch/field.prime", "math/bits.divideError", "math/bits.overflowError"], apart := false, laid := [("avouch/field.prime", laid_avouch_field_prime), ("avouch/field.raise", laid_avouch_field_raise)] }
def FieldPowersSaid : Prop := fieldPowersRow.holds Tryd.pinned (OpenSpec.ofChange fieldPowersSpec)

/-- ITS FALSE NEIGHBOUR: 'it returns false'. Refute it at one input. -/
def fieldPowersWrong : ChangeSpec := { name := "fieldPowers", fn := fun _ => fun
  | [d1, d2] => { results := [.lit (.bool false)], args := [d1, d2] }
  | _ => none }
def FieldPowersWrongFalsely : Prop := fieldPowersRow.holds Tryd.pinned (OpenSpec.ofChange fieldPowersWrong)

/-- 'avouchlaw02.FieldLaws': WHATEVER THE INPUT: true; the input reads as it did. -/
def fieldLawsSpec : ChangeSpec := { name := "fieldLaws", fn := fun _ => fun
  | [d1, d2, d3] => { results := [.lit (.bool true)], args := [d1, d2, d3] }
  | _ => none }
def fieldLawsRow : OpenClaim := { program := "ytjkellpfoogomaadoor", sum := "afd99c638fd18285e54e0451789a952fc22786888cd718b0888ca5e557c523bd", func := "avouch/avouchlaw02.FieldLaws", spec := "fieldLaws", inPlace := ["math/bits.Add64", "math/bits.Sub64"], named := ["avouch/field.raise", "avouch/field.prime", "math/bits.divideError", "math/bits.overflowError"], apart := false, laid := [("avouch/field.prime", laid_avouch_field_prime), ("avouch/field.raise", laid_avouch_field_raise)] }
def FieldLawsSaid : Prop := fieldLawsRow.holds Tryd.pinned (OpenSpec.ofChange fieldLawsSpec)

/-- ITS FALSE NEIGHBOUR: 'it returns false'. Refute it at one input. -/
def fieldLawsWrong : ChangeSpec := { name := "fieldLaws", fn := fun _ => fun
  | [d1, d2, d3] => { results := [.lit (.bool false)], args := [d1, d2, d3] }
  | _ => none }
def FieldLawsWrongFalsely : Prop := fieldLawsRow.holds Tryd.pinned (OpenSpec.ofChange fieldLawsWrong)

/-- 'avouchlaw02.FieldSums': WHATEVER THE INPUT: true; the input reads as it did. -/
def fieldSumsSpec : ChangeSpec := { name := "fieldSums", fn := fun _ => fun
  | [d1, d2] => { results := [.lit (.bool true)], args := [d1, d2] }
  | _ => none }
def fieldSumsRow : OpenClaim := { program := "ytjkellpfoogomaadoor", sum := "afd99c638fd18285e54e0451789a952fc22786888cd718b0888ca5e557c523bd", func := "avouch/avouchlaw02.FieldSums", spec := "fieldSums", inPlace := ["math/bits.Add64", "math/bits.Sub64"], named := ["avouch/field.raise", "avouch/field.prime", "math/bits.divideError", "math/bits.overflowError"], apart := false, laid := [("avouch/field.prime", laid_avouch_field_prime), ("avouch/field.raise", laid_avouch_field_raise)] }
def FieldSumsSaid : Prop := fieldSumsRow.holds Tryd.pinned (OpenSpec.ofChange fieldSumsSpec)

/-- ITS FALSE NEIGHBOUR: 'it returns false'. Refute it at one input. -/
def fieldSumsWrong : ChangeSpec := { name := "fieldSums", fn := fun _ => fun
  | [d1, d2] => { results := [.lit (.bool false)], args := [d1, d2] }
  | _ => none }
def FieldSumsWrongFalsely : Prop := fieldSumsRow.holds Tryd.pinned (OpenSpec.ofChange fieldSumsWrong)

/- THE SECOND FORM. 'bulk': how many values and letters a reading holds, each counted each time it is reached (what is shared counts as often as it is met; a slice's spare places count too). A statement '..UptoSaid' is the law's where the arguments, and the package variables that the reading takes, are together of bulk at most 1048576: NARROWER than '..Said'. Prove '..Said' where nothing that the law and all that it calls make is longer than what came in: it says more and counts as full. Else prove '..UptoSaid'. A law counts once. -/
mutual
def uptoBulk {H : Type} : DataW H → Nat
  | .lit (.string bytes) => bytes.length + 1
  | .lit _ => 1
  | .nil => 1
  | .ptr d => uptoBulk d + 1
  | .slice elems spare => uptoBulkAll elems + uptoBulkAll spare + 1
  | .agg parts => uptoBulkAll parts + 1
  | .iface _ d => uptoBulk d + 1
  | .map entries => uptoBulkEntries entries + 1
  | .held _ => 1
def uptoBulkAll {H : Type} : List (DataW H) → Nat
  | [] => 0
  | d :: r => uptoBulk d + uptoBulkAll r
def uptoBulkEntries {H : Type} : List (Lit × DataW H) → Nat
  | [] => 0
  | x :: r => uptoBulkEntry x + uptoBulkEntries r
def uptoBulkEntry {H : Type} : Lit × DataW H → Nat
  | (.string bytes, d) => bytes.length + uptoBulk d + 1
  | (_, d) => uptoBulk d + 1
 end
def uptoSmall : (H : Type) → List (DataW H) → Bool := fun _ ds => decide (uptoBulkAll ds ≤ 1048576)
def OpenSpec.upto (s : _root_.Go.ChangeSpec) : _root_.Go.OpenSpec := { _root_.Go.OpenSpec.ofChange s with cond := some uptoSmall }

/-- 'avouchlaw02.FieldReads', WHERE WHAT IT READS IS OF BULK AT MOST 1048576: true; the input reads as it did. -/
def fieldReadsUptoRow : OpenClaim := { program := "ytjkellpfoogomaadoor", sum := "afd99c638fd18285e54e0451789a952fc22786888cd718b0888ca5e557c523bd", func := "avouch/avouchlaw02.FieldReads", spec := "fieldReads", inPlace := ["math/bits.Add64", "math/bits.Sub64"], named := ["avouch/field.raise", "avouch/field.prime", "math/bits.divideError", "math/bits.overflowError"], apart := false, laid := [("avouch/field.prime", laid_avouch_field_prime), ("avouch/field.raise", laid_avouch_field_raise)], narrowed := true }
def FieldReadsUptoSaid : Prop := fieldReadsUptoRow.holds Tryd.pinned (OpenSpec.upto fieldReadsSpec)

/-- 'avouchlaw02.FieldReckons', WHERE WHAT IT READS IS OF BULK AT MOST 1048576: true; the input reads as it did. -/
def fieldReckonsUptoRow : OpenClaim := { program := "ytjkellpfoogomaadoor", sum := "afd99c638fd18285e54e0451789a952fc22786888cd718b0888ca5e557c523bd", func := "avouch/avouchlaw02.FieldReckons", spec := "fieldReckons", inPlace := ["math/bits.Add64", "math/bits.Sub64"], named := ["avouch/field.raise", "avouch/field.prime", "math/bits.divideError", "math/bits.overflowError"], apart := false, laid := [("avouch/field.prime", laid_avouch_field_prime), ("avouch/field.raise", laid_avouch_field_raise)], narrowed := true }
def FieldReckonsUptoSaid : Prop := fieldReckonsUptoRow.holds Tryd.pinned (OpenSpec.upto fieldReckonsSpec)

/-- 'avouchlaw02.FieldPowers', WHERE WHAT IT READS IS OF BULK AT MOST 1048576: true; the input reads as it did. -/
def fieldPowersUptoRow : OpenClaim := { program := "ytjkellpfoogomaadoor", sum := "afd99c638fd18285e54e0451789a952fc22786888cd718b0888ca5e557c523bd", func := "avouch/avouchlaw02.FieldPowers", spec := "fieldPowers", inPlace := ["math/bits.Add64", "math/bits.Sub64"], named := ["avouch/field.raise", "avouch/field.prime", "math/bits.divideError", "math/bits.overflowError"], apart := false, laid := [("avouch/field.prime", laid_avouch_field_prime), ("avouch/field.raise", laid_avouch_field_raise)], narrowed := true }
def FieldPowersUptoSaid : Prop := fieldPowersUptoRow.holds Tryd.pinned (OpenSpec.upto fieldPowersSpec)

/-- 'avouchlaw02.FieldLaws', WHERE WHAT IT READS IS OF BULK AT MOST 1048576: true; the input reads as it did. -/
def fieldLawsUptoRow : OpenClaim := { program := "ytjkellpfoogomaadoor", sum := "afd99c638fd18285e54e0451789a952fc22786888cd718b0888ca5e557c523bd", func := "avouch/avouchlaw02.FieldLaws", spec := "fieldLaws", inPlace := ["math/bits.Add64", "math/bits.Sub64"], named := ["avouch/field.raise", "avouch/field.prime", "math/bits.divideError", "math/bits.overflowError"], apart := false, laid := [("avouch/field.prime", laid_avouch_field_prime), ("avouch/field.raise", laid_avouch_field_raise)], narrowed := true }
def FieldLawsUptoSaid : Prop := fieldLawsUptoRow.holds Tryd.pinned (OpenSpec.upto fieldLawsSpec)

/-- 'avouchlaw02.FieldSums', WHERE WHAT IT READS IS OF BULK AT MOST 1048576: true; the input reads as it did. -/
def fieldSumsUptoRow : OpenClaim := { program := "ytjkellpfoogomaadoor", sum := "afd99c638fd18285e54e0451789a952fc22786888cd718b0888ca5e557c523bd", func := "avouch/avouchlaw02.FieldSums", spec := "fieldSums", inPlace := ["math/bits.Add64", "math/bits.Sub64"], named := ["avouch/field.raise", "avouch/field.prime", "math/bits.divideError", "math/bits.overflowError"], apart := false, laid := [("avouch/field.prime", laid_avouch_field_prime), ("avouch/field.raise", laid_avouch_field_raise)], narrowed := true }
def FieldSumsUptoSaid : Prop := fieldSumsUptoRow.holds Tryd.pinned (OpenSpec.upto fieldSumsSpec)

end Rows
end Go.Proofs.YtjkellpfoogomaaDoor
