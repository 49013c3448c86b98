/-
  NARROWER THAN 'FOR EVERY INPUT', by the rows' own cells (each row's printed sentence says how): MatrixReckons: laid · MatrixMinors: laid · MatrixLaws: laid · MatrixRows: laid.
  DERIVED. THE GIVEN ROWS OF THIS SEAT. 4 by the template 'for every input the law returns true; each argument reads behind the call as it read before'; 0 by the template 'total and deterministic' (their statements: YtlpccdbcaffmmaaDoorTotals.lean).
  GIVEN WITH THE SEED: the statements are not yours to turn. If you find one false, say at which input.
  Laid BY PROGRAM, IN A SANDBOX (cutbox-rows.mjs): the forced cells as the released guide's own fill.sh prints them over the translation 0b0cfa1a28b5b9fe… (all of the seat's roots in one cut). By AI agents, Wed Nov 11 2026. No macro, syntax, notation, axiom, sorry.
-/
import Derived.Test.YtlpccdbcaffmmaaDoorChecked
import GoSem.Claim
import GoSem.ClaimJoined
import GoSem.ClaimMapViews
import Derived.JoinedTies
import Derived.KernelRfl
namespace Go.Proofs.YtlpccdbcaffmmaaDoor
/- THE CELL 'sum', in the pinned program and in every row, IS THE sha256 OF THE DUMP (.gsa) THAT YtlpccdbcaffmmaaDoorProg.lean LOADS. Nothing in Lean hashes anything: it is a label: what it is worth is what the hold of that sum in a sandbox is worth. -/
noncomputable def Tryd.pinned : Pinned := { name := "ytlpccdbcaffmmaadoor", sum := "0b0cfa1a28b5b9fec3941b006334d8dd3f097e3af700a0e906012ef19a838f30", checked := Tryd.checked }
namespace Rows
def none {H : Type} : Left H := { results := [], args := [] }

/- WHAT THE LISTED PACKAGE-LEVEL VARIABLES READ AS WHEN THE CALL BEGINS. Each datum BY PROGRAM (the guide's laid-datum.mjs) off the statement by which the dump's own 'gosem.cut.vars' lays the variable. In a bare row this is a premise. The card (YtlpccdbcaffmmaaDoorCards.lean) ties it to the program's text. -/
def laid_avouch_field_prime {H : Type} : DataW H := .agg [.lit (.int .u64 4891460686036598785), .lit (.int .u64 2896914383306846353), .lit (.int .u64 13281191951274694749), .lit (.int .u64 3486998266802970665)]
def laid_avouch_field_raise {H : Type} : DataW H := .agg [.lit (.int .u64 1997599621687373223), .lit (.int .u64 6052339484930628067), .lit (.int .u64 10108755138030829701), .lit (.int .u64 150537098327114917)]

/-- 'avouchlaw09.MatrixReckons': WHATEVER THE INPUT: true; the input reads as it did. -/
def matrixReckonsSpec : ChangeSpec := { name := "matrixReckons", fn := fun _ => fun
  | [d1, d2] => { results := [.lit (.bool true)], args := [d1, d2] }
  | _ => none }
def matrixReckonsRow : OpenClaim := { program := "ytlpccdbcaffmmaadoor", sum := "0b0cfa1a28b5b9fec3941b006334d8dd3f097e3af700a0e906012ef19a838f30", func := "avouch/avouchlaw09.MatrixReckons", spec := "matrixReckons", inPlace := ["math/bits.Add64", "math/bits.Sub64"], unfollowed := true, recurses := true, named := ["avouch/field.raise", "avouch/field.prime", "math/bits.divideError", "math/bits.overflowError"], apart := false, laid := [("avouch/field.prime", laid_avouch_field_prime), ("avouch/field.raise", laid_avouch_field_raise)] }
def MatrixReckonsSaid : Prop := matrixReckonsRow.holds Tryd.pinned (OpenSpec.ofChange matrixReckonsSpec)

/-- ITS FALSE NEIGHBOUR: 'it returns false'. Refute it at one input. -/
def matrixReckonsWrong : ChangeSpec := { name := "matrixReckons", fn := fun _ => fun
  | [d1, d2] => { results := [.lit (.bool false)], args := [d1, d2] }
  | _ => none }
def MatrixReckonsWrongFalsely : Prop := matrixReckonsRow.holds Tryd.pinned (OpenSpec.ofChange matrixReckonsWrong)

/-- 'avouchlaw09.MatrixMinors': WHATEVER THE INPUT: true; the input reads as it did. -/
def matrixMinorsSpec : ChangeSpec := { name := "matrixMinors", fn := fun _ => fun
  | [d] => { results := [.lit (.bool true)], args := [d] }
  | _ => none }
def matrixMinorsRow : OpenClaim := { program := "ytlpccdbcaffmmaadoor", sum := "0b0cfa1a28b5b9fec3941b006334d8dd3f097e3af700a0e906012ef19a838f30", func := "avouch/avouchlaw09.MatrixMinors", spec := "matrixMinors", inPlace := ["math/bits.Add64", "math/bits.Sub64"], unfollowed := true, recurses := true, named := ["avouch/field.raise", "avouch/field.prime", "math/bits.divideError", "math/bits.overflowError"], apart := false, laid := [("avouch/field.prime", laid_avouch_field_prime), ("avouch/field.raise", laid_avouch_field_raise)] }
def MatrixMinorsSaid : Prop := matrixMinorsRow.holds Tryd.pinned (OpenSpec.ofChange matrixMinorsSpec)

/-- ITS FALSE NEIGHBOUR: 'it returns false'. Refute it at one input. -/
def matrixMinorsWrong : ChangeSpec := { name := "matrixMinors", fn := fun _ => fun
  | [d] => { results := [.lit (.bool false)], args := [d] }
  | _ => none }
def MatrixMinorsWrongFalsely : Prop := matrixMinorsRow.holds Tryd.pinned (OpenSpec.ofChange matrixMinorsWrong)

/-- 'avouchlaw09.MatrixLaws': WHATEVER THE INPUT: true; the input reads as it did. -/
def matrixLawsSpec : ChangeSpec := { name := "matrixLaws", fn := fun _ => fun
  | [d1, d2, d3] => { results := [.lit (.bool true)], args := [d1, d2, d3] }
  | _ => none }
def matrixLawsRow : OpenClaim := { program := "ytlpccdbcaffmmaadoor", sum := "0b0cfa1a28b5b9fec3941b006334d8dd3f097e3af700a0e906012ef19a838f30", func := "avouch/avouchlaw09.MatrixLaws", spec := "matrixLaws", inPlace := ["math/bits.Add64", "math/bits.Sub64"], unfollowed := true, recurses := true, named := ["avouch/field.raise", "avouch/field.prime", "math/bits.divideError", "math/bits.overflowError"], apart := false, laid := [("avouch/field.prime", laid_avouch_field_prime), ("avouch/field.raise", laid_avouch_field_raise)] }
def MatrixLawsSaid : Prop := matrixLawsRow.holds Tryd.pinned (OpenSpec.ofChange matrixLawsSpec)

/-- ITS FALSE NEIGHBOUR: 'it returns false'. Refute it at one input. -/
def matrixLawsWrong : ChangeSpec := { name := "matrixLaws", fn := fun _ => fun
  | [d1, d2, d3] => { results := [.lit (.bool false)], args := [d1, d2, d3] }
  | _ => none }
def MatrixLawsWrongFalsely : Prop := matrixLawsRow.holds Tryd.pinned (OpenSpec.ofChange matrixLawsWrong)

/-- 'avouchlaw09.MatrixRows': WHATEVER THE INPUT: true; the input reads as it did. -/
def matrixRowsSpec : ChangeSpec := { name := "matrixRows", fn := fun _ => fun
  | [d1, d2, d3, d4] => { results := [.lit (.bool true)], args := [d1, d2, d3, d4] }
  | _ => none }
def matrixRowsRow : OpenClaim := { program := "ytlpccdbcaffmmaadoor", sum := "0b0cfa1a28b5b9fec3941b006334d8dd3f097e3af700a0e906012ef19a838f30", func := "avouch/avouchlaw09.MatrixRows", spec := "matrixRows", inPlace := ["math/bits.Add64", "math/bits.Sub64"], unfollowed := true, recurses := true, named := ["avouch/field.raise", "avouch/field.prime", "math/bits.divideError", "math/bits.overflowError"], apart := false, laid := [("avouch/field.prime", laid_avouch_field_prime), ("avouch/field.raise", laid_avouch_field_raise)] }
def MatrixRowsSaid : Prop := matrixRowsRow.holds Tryd.pinned (OpenSpec.ofChange matrixRowsSpec)

/-- ITS FALSE NEIGHBOUR: 'it returns false'. Refute it at one input. -/
def matrixRowsWrong : ChangeSpec := { name := "matrixRows", fn := fun _ => fun
  | [d1, d2, d3, d4] => { results := [.lit (.bool false)], args := [d1, d2, d3, d4] }
  | _ => none }
def MatrixRowsWrongFalsely : Prop := matrixRowsRow.holds Tryd.pinned (OpenSpec.ofChange matrixRowsWrong)

/- THE SECOND FORM. 'bulk': how many values and letters a reading holds, each counted each time it is reached (what is shared counts as often as it is met; a slice's spare places count too). A statement '..UptoSaid' is the law's where the arguments, and the package variables that the reading takes, are together of bulk at most 1048576: NARROWER than '..Said'. Prove '..Said' where nothing that the law and all that it calls make is longer than what came in: it says more and counts as full. Else prove '..UptoSaid'. A law counts once. -/
mutual
def uptoBulk {H : Type} : DataW H → Nat
  | .lit (.string bytes) => bytes.length + 1
  | .lit _ => 1
  | .nil => 1
  | .ptr d => uptoBulk d + 1
  | .slice elems spare => uptoBulkAll elems + uptoBulkAll spare + 1
  | .agg parts => uptoBulkAll parts + 1
  | .iface _ d => uptoBulk d + 1
  | .map entries => uptoBulkEntries entries + 1
  | .held _ => 1
def uptoBulkAll {H : Type} : List (DataW H) → Nat
  | [] => 0
  | d :: r => uptoBulk d + uptoBulkAll r
def uptoBulkEntries {H : Type} : List (Lit × DataW H) → Nat
  | [] => 0
  | x :: r => uptoBulkEntry x + uptoBulkEntries r
def uptoBulkEntry {H : Type} : Lit × DataW H → Nat
  | (.string bytes, d) => bytes.length + uptoBulk d + 1
  | (_, d) => uptoBulk d + 1
 end
def uptoSmall : (H : Type) → List (DataW H) → Bool := fun _ ds => decide (uptoBulkAll ds ≤ 1048576)
def OpenSpec.upto (s : _root_.Go.ChangeSpec) : _root_.Go.OpenSpec := { _root_.Go.OpenSpec.ofChange s with cond := some uptoSmall }

/-- 'avouchlaw09.MatrixReckons', WHERE WHAT IT READS IS OF BULK AT MOST 1048576: true; the input reads as it did. -/
def matrixReckonsUptoRow : OpenClaim := { program := "ytlpccdbcaffmmaadoor", sum := "0b0cfa1a28b5b9fec3941b006334d8dd3f097e3af700a0e906012ef19a838f30", func := "avouch/avouchlaw09.MatrixReckons", spec := "matrixReckons", inPlace := ["math/bits.Add64", "math/bits.Sub64"], unfollowed := true, recurses := true, named := ["avouch/field.raise", "avouch/field.prime", "math/bits.divideError", "math/bits.overflowError"], apart := false, laid := [("avouch/field.prime", laid_avouch_field_prime), ("avouch/field.raise", laid_avouch_field_raise)], narrowed := true }
def MatrixReckonsUptoSaid : Prop := matrixReckonsUptoRow.holds Tryd.pinned (OpenSpec.upto matrixReckonsSpec)

/-- 'avouchlaw09.MatrixMinors', WHERE WHAT IT READS IS OF BULK AT MOST 1048576: true; the input reads as it did. -/
def matrixMinorsUptoRow : OpenClaim := { program := "ytlpccdbcaffmmaadoor", sum := "0b0cfa1a28b5b9fec3941b006334d8dd3f097e3af700a0e906012ef19a838f30", func := "avouch/avouchlaw09.MatrixMinors", spec := "matrixMinors", inPlace := ["math/bits.Add64", "math/bits.Sub64"], unfollowed := true, recurses := true, named := ["avouch/field.raise", "avouch/field.prime", "math/bits.divideError", "math/bits.overflowError"], apart := false, laid := [("avouch/field.prime", laid_avouch_field_prime), ("avouch/field.raise", laid_avouch_field_raise)], narrowed := true }
def MatrixMinorsUptoSaid : Prop := matrixMinorsUptoRow.holds Tryd.pinned (OpenSpec.upto matrixMinorsSpec)

/-- 'avouchlaw09.MatrixLaws', WHERE WHAT IT READS IS OF BULK AT MOST 1048576: true; the input reads as it did. -/
def matrixLawsUptoRow : OpenClaim := { program := "ytlpccdbcaffmmaadoor", sum := "0b0cfa1a28b5b9fec3941b006334d8dd3f097e3af700a0e906012ef19a838f30", func := "avouch/avouchlaw09.MatrixLaws", spec := "matrixLaws", inPlace := ["math/bits.Add64", "math/bits.Sub64"], unfollowed := true, recurses := true, named := ["avouch/field.raise", "avouch/field.prime", "math/bits.divideError", "math/bits.overflowError"], apart := false, laid := [("avouch/field.prime", laid_avouch_field_prime), ("avouch/field.raise", laid_avouch_field_raise)], narrowed := true }
def MatrixLawsUptoSaid : Prop := matrixLawsUptoRow.holds Tryd.pinned (OpenSpec.upto matrixLawsSpec)

/-- 'avouchlaw09.MatrixRows', WHERE WHAT IT READS IS OF BULK AT MOST 1048576: true; the input reads as it did. -/
def matrixRowsUptoRow : OpenClaim := { program := "ytlpccdbcaffmmaadoor", sum := "0b0cfa1a28b5b9fec3941b006334d8dd3f097e3af700a0e906012ef19a838f30", func := "avouch/avouchlaw09.MatrixRows", spec := "matrixRows", inPlace := ["math/bits.Add64", "math/bits.Sub64"], unfollowed := true, recurses := true, named := ["avouch/field.raise", "avouch/field.prime", "math/bits.divideError", "math/bits.overflowError"], apart := false, laid := [("avouch/field.prime", laid_avouch_field_prime), ("avouch/field.raise", laid_avouch_field_raise)], narrowed := true }
def MatrixRowsUptoSaid : Prop := matrixRowsUptoRow.holds Tryd.pinned (OpenSpec.upto matrixRowsSpec)

end Rows
end Go.Proofs.YtlpccdbcaffmmaaDoor
