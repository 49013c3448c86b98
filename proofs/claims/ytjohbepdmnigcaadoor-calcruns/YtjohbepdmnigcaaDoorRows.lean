/-
  NARROWER THAN 'FOR EVERY INPUT', by the rows' own cells (each row's printed sentence says how): CalcRuns: laid · CalcPieces: laid · CalcUndoes: laid · CalcDepth: laid.
  DERIVED. THE GIVEN ROWS OF THIS SEAT. 4 by the template 'for every input the law returns true; each argument reads behind the call as it read before'; 0 by the template 'total and deterministic' (their statements: YtjohbepdmnigcaaDoorTotals.lean).
  GIVEN WITH THE SEED: the statements are not yours to turn. If you find one false, say at which input.
  Laid BY PROGRAM, IN A SANDBOX (cutbox-rows.mjs): the forced cells as the released guide's own fill.sh prints them over the translation 3c22e193fe7f677f… (all of the seat's roots in one cut). By AI agents, Wed Nov 11 2026. No macro, syntax, notation, axiom, sorry.
-/
import Derived.Test.YtjohbepdmnigcaaDoorChecked
import GoSem.Claim
import GoSem.ClaimJoined
import GoSem.ClaimMapViews
import Derived.JoinedTies
import Derived.KernelRfl
namespace Go.Proofs.YtjohbepdmnigcaaDoor
/- THE CELL 'sum', in the pinned program and in every row, IS THE sha256 OF THE DUMP (.gsa) THAT YtjohbepdmnigcaaDoorProg.lean LOADS. Nothing in Lean hashes anything: it is a label: what it is worth is what the hold of that sum in a sandbox is worth. -/
noncomputable def Tryd.pinned : Pinned := { name := "ytjohbepdmnigcaadoor", sum := "3c22e193fe7f677f7c24807c57f15bea78c8814ec09ef679402484aa9102f33f", checked := Tryd.checked }
namespace Rows
def none {H : Type} : Left H := { results := [], args := [] }

/- WHAT THE LISTED PACKAGE-LEVEL VARIABLES READ AS WHEN THE CALL BEGINS. Each datum BY PROGRAM (the guide's laid-datum.mjs) off the statement by which the dump's own 'gosem.cut.vars' lays the variable. In a bare row this is a premise. The card (YtjohbepdmnigcaaDoorCards.lean) ties it to the program's text. -/
def laid_avouch_field_prime {H : Type} : DataW H := .agg [.lit (.int .u64 4891460686036598785), .lit (.int .u64 2896914383306846353), .lit (.int .u64 13281191951274694749), .lit (.int .u64 3486998266802970665)]
def laid_avouch_field_raise {H : Type} : DataW H := .agg [.lit (.int .u64 1997599621687373223), .lit (.int .u64 6052339484930628067), .lit (.int .u64 10108755138030829701), .lit (.int .u64 150537098327114917)]
def laid_avouch_calc_needs {H : Type} : DataW H := .agg [.lit (.int .i64 0), .lit (.int .i64 2), .lit (.int .i64 2), .lit (.int .i64 2), .lit (.int .i64 1), .lit (.int .i64 1), .lit (.int .i64 1), .lit (.int .i64 1), .lit (.int .i64 2), .lit (.int .i64 1), .lit (.int .i64 2)]

/-- 'avouchlaw03.CalcRuns': WHATEVER THE INPUT: true; the input reads as it did. -/
def calcRunsSpec : ChangeSpec := { name := "calcRuns", fn := fun _ => fun
  | [d1, d2] => { results := [.lit (.bool true)], args := [d1, d2] }
  | _ => none }
def calcRunsRow : OpenClaim := { program := "ytjohbepdmnigcaadoor", sum := "3c22e193fe7f677f7c24807c57f15bea78c8814ec09ef679402484aa9102f33f", func := "avouch/avouchlaw03.CalcRuns", spec := "calcRuns", inPlace := ["math/bits.Add64", "math/bits.Sub64"], unfollowed := true, recurses := true, named := ["avouch/field.raise", "avouch/field.prime", "avouch/calc.needs"], apart := false, laid := [("avouch/field.prime", laid_avouch_field_prime), ("avouch/field.raise", laid_avouch_field_raise), ("avouch/calc.needs", laid_avouch_calc_needs)] }
def CalcRunsSaid : Prop := calcRunsRow.holds Tryd.pinned (OpenSpec.ofChange calcRunsSpec)

/-- ITS FALSE NEIGHBOUR: 'it returns false'. Refute it at one input. -/
def calcRunsWrong : ChangeSpec := { name := "calcRuns", fn := fun _ => fun
  | [d1, d2] => { results := [.lit (.bool false)], args := [d1, d2] }
  | _ => none }
def CalcRunsWrongFalsely : Prop := calcRunsRow.holds Tryd.pinned (OpenSpec.ofChange calcRunsWrong)

/-- 'avouchlaw03.CalcPieces': WHATEVER THE INPUT: true; the input reads as it did. -/
def calcPiecesSpec : ChangeSpec := { name := "calcPieces", fn := fun _ => fun
  | [d1, d2, d3] => { results := [.lit (.bool true)], args := [d1, d2, d3] }
  | _ => none }
def calcPiecesRow : OpenClaim := { program := "ytjohbepdmnigcaadoor", sum := "3c22e193fe7f677f7c24807c57f15bea78c8814ec09ef679402484aa9102f33f", func := "avouch/avouchlaw03.CalcPieces", spec := "calcPieces", inPlace := ["math/bits.Add64", "math/bits.Sub64"], unfollowed := true, recurses := true, named := ["avouch/field.raise", "avouch/field.prime", "avouch/calc.needs"], apart := false, laid := [("avouch/field.prime", laid_avouch_field_prime), ("avouch/field.raise", laid_avouch_field_raise), ("avouch/calc.needs", laid_avouch_calc_needs)] }
def CalcPiecesSaid : Prop := calcPiecesRow.holds Tryd.pinned (OpenSpec.ofChange calcPiecesSpec)

/-- ITS FALSE NEIGHBOUR: 'it returns false'. Refute it at one input. -/
def calcPiecesWrong : ChangeSpec := { name := "calcPieces", fn := fun _ => fun
  | [d1, d2, d3] => { results := [.lit (.bool false)], args := [d1, d2, d3] }
  | _ => none }
def CalcPiecesWrongFalsely : Prop := calcPiecesRow.holds Tryd.pinned (OpenSpec.ofChange calcPiecesWrong)

/-- 'avouchlaw03.CalcUndoes': WHATEVER THE INPUT: true; the input reads as it did. -/
def calcUndoesSpec : ChangeSpec := { name := "calcUndoes", fn := fun _ => fun
  | [d1, d2] => { results := [.lit (.bool true)], args := [d1, d2] }
  | _ => none }
def calcUndoesRow : OpenClaim := { program := "ytjohbepdmnigcaadoor", sum := "3c22e193fe7f677f7c24807c57f15bea78c8814ec09ef679402484aa9102f33f", func := "avouch/avouchlaw03.CalcUndoes", spec := "calcUndoes", inPlace := ["math/bits.Add64", "math/bits.Sub64"], unfollowed := true, recurses := true, named := ["avouch/field.raise", "avouch/field.prime", "avouch/calc.needs"], apart := false, laid := [("avouch/field.prime", laid_avouch_field_prime), ("avouch/field.raise", laid_avouch_field_raise), ("avouch/calc.needs", laid_avouch_calc_needs)] }
def CalcUndoesSaid : Prop := calcUndoesRow.holds Tryd.pinned (OpenSpec.ofChange calcUndoesSpec)

/-- ITS FALSE NEIGHBOUR: 'it returns false'. Refute it at one input. -/
def calcUndoesWrong : ChangeSpec := { name := "calcUndoes", fn := fun _ => fun
  | [d1, d2] => { results := [.lit (.bool false)], args := [d1, d2] }
  | _ => none }
def CalcUndoesWrongFalsely : Prop := calcUndoesRow.holds Tryd.pinned (OpenSpec.ofChange calcUndoesWrong)

/-- 'avouchlaw03.CalcDepth': WHATEVER THE INPUT: true; the input reads as it did. -/
def calcDepthSpec : ChangeSpec := { name := "calcDepth", fn := fun _ => fun
  | [d1, d2] => { results := [.lit (.bool true)], args := [d1, d2] }
  | _ => none }
def calcDepthRow : OpenClaim := { program := "ytjohbepdmnigcaadoor", sum := "3c22e193fe7f677f7c24807c57f15bea78c8814ec09ef679402484aa9102f33f", func := "avouch/avouchlaw03.CalcDepth", spec := "calcDepth", inPlace := ["math/bits.Add64", "math/bits.Sub64"], unfollowed := true, recurses := true, named := ["avouch/field.raise", "avouch/field.prime", "avouch/calc.needs"], apart := false, laid := [("avouch/field.prime", laid_avouch_field_prime), ("avouch/field.raise", laid_avouch_field_raise), ("avouch/calc.needs", laid_avouch_calc_needs)] }
def CalcDepthSaid : Prop := calcDepthRow.holds Tryd.pinned (OpenSpec.ofChange calcDepthSpec)

/-- ITS FALSE NEIGHBOUR: 'it returns false'. Refute it at one input. -/
def calcDepthWrong : ChangeSpec := { name := "calcDepth", fn := fun _ => fun
  | [d1, d2] => { results := [.lit (.bool false)], args := [d1, d2] }
  | _ => none }
def CalcDepthWrongFalsely : Prop := calcDepthRow.holds Tryd.pinned (OpenSpec.ofChange calcDepthWrong)

/- THE SECOND FORM. 'bulk': how many values and letters a reading holds, each counted each time it is reached (what is shared counts as often as it is met; a slice's spare places count too). A statement '..UptoSaid' is the law's where the arguments, and the package variables that the reading takes, are together of bulk at most 1048576: NARROWER than '..Said'. Prove '..Said' where nothing that the law and all that it calls make is longer than what came in: it says more and counts as full. Else prove '..UptoSaid'. A law counts once. -/
mutual
def uptoBulk {H : Type} : DataW H → Nat
  | .lit (.string bytes) => bytes.length + 1
  | .lit _ => 1
  | .nil => 1
  | .ptr d => uptoBulk d + 1
  | .slice elems spare => uptoBulkAll elems + uptoBulkAll spare + 1
  | .agg parts => uptoBulkAll parts + 1
  | .iface _ d => uptoBulk d + 1
  | .map entries => uptoBulkEntries entries + 1
  | .held _ => 1
def uptoBulkAll {H : Type} : List (DataW H) → Nat
  | [] => 0
  | d :: r => uptoBulk d + uptoBulkAll r
def uptoBulkEntries {H : Type} : List (Lit × DataW H) → Nat
  | [] => 0
  | x :: r => uptoBulkEntry x + uptoBulkEntries r
def uptoBulkEntry {H : Type} : Lit × DataW H → Nat
  | (.string bytes, d) => bytes.length + uptoBulk d + 1
  | (_, d) => uptoBulk d + 1
 end
def uptoSmall : (H : Type) → List (DataW H) → Bool := fun _ ds => decide (uptoBulkAll ds ≤ 1048576)
def OpenSpec.upto (s : _root_.Go.ChangeSpec) : _root_.Go.OpenSpec := { _root_.Go.OpenSpec.ofChange s with cond := some uptoSmall }

/-- 'avouchlaw03.CalcRuns', WHERE WHAT IT READS IS OF BULK AT MOST 1048576: true; the input reads as it did. -/
def calcRunsUptoRow : OpenClaim := { program := "ytjohbepdmnigcaadoor", sum := "3c22e193fe7f677f7c24807c57f15bea78c8814ec09ef679402484aa9102f33f", func := "avouch/avouchlaw03.CalcRuns", spec := "calcRuns", inPlace := ["math/bits.Add64", "math/bits.Sub64"], unfollowed := true, recurses := true, named := ["avouch/field.raise", "avouch/field.prime", "avouch/calc.needs"], apart := false, laid := [("avouch/field.prime", laid_avouch_field_prime), ("avouch/field.raise", laid_avouch_field_raise), ("avouch/calc.needs", laid_avouch_calc_needs)], narrowed := true }
def CalcRunsUptoSaid : Prop := calcRunsUptoRow.holds Tryd.pinned (OpenSpec.upto calcRunsSpec)

/-- 'avouchlaw03.CalcPieces', WHERE WHAT IT READS IS OF BULK AT MOST 1048576: true; the input reads as it did. -/
def calcPiecesUptoRow : OpenClaim := { program := "ytjohbepdmnigcaadoor", sum := "3c22e193fe7f677f7c24807c57f15bea78c8814ec09ef679402484aa9102f33f", func := "avouch/avouchlaw03.CalcPieces", spec := "calcPieces", inPlace := ["math/bits.Add64", "math/bits.Sub64"], unfollowed := true, recurses := true, named := ["avouch/field.raise", "avouch/field.prime", "avouch/calc.needs"], apart := false, laid := [("avouch/field.prime", laid_avouch_field_prime), ("avouch/field.raise", laid_avouch_field_raise), ("avouch/calc.needs", laid_avouch_calc_needs)], narrowed := true }
def CalcPiecesUptoSaid : Prop := calcPiecesUptoRow.holds Tryd.pinned (OpenSpec.upto calcPiecesSpec)

/-- 'avouchlaw03.CalcUndoes', WHERE WHAT IT READS IS OF BULK AT MOST 1048576: true; the input reads as it did. -/
def calcUndoesUptoRow : OpenClaim := { program := "ytjohbepdmnigcaadoor", sum := "3c22e193fe7f677f7c24807c57f15bea78c8814ec09ef679402484aa9102f33f", func := "avouch/avouchlaw03.CalcUndoes", spec := "calcUndoes", inPlace := ["math/bits.Add64", "math/bits.Sub64"], unfollowed := true, recurses := true, named := ["avouch/field.raise", "avouch/field.prime", "avouch/calc.needs"], apart := false, laid := [("avouch/field.prime", laid_avouch_field_prime), ("avouch/field.raise", laid_avouch_field_raise), ("avouch/calc.needs", laid_avouch_calc_needs)], narrowed := true }
def CalcUndoesUptoSaid : Prop := calcUndoesUptoRow.holds Tryd.pinned (OpenSpec.upto calcUndoesSpec)

/-- 'avouchlaw03.CalcDepth', WHERE WHAT IT READS IS OF BULK AT MOST 1048576: true; the input reads as it did. -/
def calcDepthUptoRow : OpenClaim := { program := "ytjohbepdmnigcaadoor", sum := "3c22e193fe7f677f7c24807c57f15bea78c8814ec09ef679402484aa9102f33f", func := "avouch/avouchlaw03.CalcDepth", spec := "calcDepth", inPlace := ["math/bits.Add64", "math/bits.Sub64"], unfollowed := true, recurses := true, named := ["avouch/field.raise", "avouch/field.prime", "avouch/calc.needs"], apart := false, laid := [("avouch/field.prime", laid_avouch_field_prime), ("avouch/field.raise", laid_avouch_field_raise), ("avouch/calc.needs", laid_avouch_calc_needs)], narrowed := true }
def CalcDepthUptoSaid : Prop := calcDepthUptoRow.holds Tryd.pinned (OpenSpec.upto calcDepthSpec)

end Rows
end Go.Proofs.YtjohbepdmnigcaaDoor
