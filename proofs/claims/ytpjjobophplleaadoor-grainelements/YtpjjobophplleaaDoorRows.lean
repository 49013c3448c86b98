/-
  NARROWER THAN 'FOR EVERY INPUT', by the rows' own cells (each row's printed sentence says how): GrainElements: laid · GrainSkips: laid.
  DERIVED. THE GIVEN ROWS OF THIS SEAT. 2 by the template 'for every input the law returns true; each argument reads behind the call as it read before'; 0 by the template 'total and deterministic' (their statements: YtpjjobophplleaaDoorTotals.lean).
  GIVEN WITH THE SEED: the statements are not yours to turn. If you find one false, say at which input.
  Laid BY PROGRAM, IN A SANDBOX (cutbox-rows.mjs): the forced cells as the released guide's own fill.sh prints them over the translation 2a64757aa2f405e4… (all of the seat's roots in one cut). By AI agents, Wed Nov 11 2026. No macro, syntax, notation, axiom, sorry.
-/
import Derived.Test.YtpjjobophplleaaDoorChecked
import GoSem.Claim
import GoSem.ClaimJoined
import GoSem.ClaimMapViews
import Derived.JoinedTies
import Derived.KernelRfl
namespace Go.Proofs.YtpjjobophplleaaDoor
/- THE CELL 'sum', in the pinned program and in every row, IS THE sha256 OF THE DUMP (.gsa) THAT YtpjjobophplleaaDoorProg.lean LOADS. Nothing in Lean hashes anything: it is a label: what it is worth is what the hold of that sum in a sandbox is worth. -/
noncomputable def Tryd.pinned : Pinned := { name := "ytpjjobophplleaadoor", sum := "2a64757aa2f405e4dd0846837ece724353dbbd8cb0afa6a2a919f3167f276d80", checked := Tryd.checked }
namespace Rows
def none {H : Type} : Left H := { results := [], args := [] }

/- WHAT THE LISTED PACKAGE-LEVEL VARIABLES READ AS WHEN THE CALL BEGINS. Each datum BY PROGRAM (the guide's laid-datum.mjs) off the statement by which the dump's own 'gosem.cut.vars' lays the variable. In a bare row this is a premise. The card (YtpjjobophplleaaDoorCards.lean) ties it to the program's text. -/
def laid_avouch_field_prime {H : Type} : DataW H := .agg [.lit (.int .u64 4891460686036598785), .lit (.int .u64 2896914383306846353), .lit (.int .u64 13281191951274694749), .lit (.int .u64 3486998266802970665)]
def laid_avouch_field_raise {H : Type} : DataW H := .agg [.lit (.int .u64 1997599621687373223), .lit (.int .u64 6052339484930628067), .lit (.int .u64 10108755138030829701), .lit (.int .u64 150537098327114917)]

/-- 'avouchlaw08.GrainElements': WHATEVER THE INPUT: true; the input reads as it did. -/
def grainElementsSpec : ChangeSpec := { name := "grainElements", fn := fun _ => fun
  | [d1, d2] => { results := [.lit (.bool true)], args := [d1, d2] }
  | _ => none }
def grainElementsRow : OpenClaim := { program := "ytpjjobophplleaadoor", sum := "2a64757aa2f405e4dd0846837ece724353dbbd8cb0afa6a2a919f3167f276d80", func := "avouch/avouchlaw08.GrainElements", spec := "grainElements", inPlace := ["math/bits.Add64", "math/bits.Sub64"], unfollowed := true, recurses := true, named := ["avouch/field.prime", "avouch/field.raise"], apart := false, laid := [("avouch/field.prime", laid_avouch_field_prime), ("avouch/field.raise", laid_avouch_field_raise)] }
def GrainElementsSaid : Prop := grainElementsRow.holds Tryd.pinned (OpenSpec.ofChange grainElementsSpec)

/-- ITS FALSE NEIGHBOUR: 'it returns false'. Refute it at one input. -/
def grainElementsWrong : ChangeSpec := { name := "grainElements", fn := fun _ => fun
  | [d1, d2] => { results := [.lit (.bool false)], args := [d1, d2] }
  | _ => none }
def GrainElementsWrongFalsely : Prop := grainElementsRow.holds Tryd.pinned (OpenSpec.ofChange grainElementsWrong)

/-- 'avouchlaw08.GrainSkips': WHATEVER THE INPUT: true; the input reads as it did. -/
def grainSkipsSpec : ChangeSpec := { name := "grainSkips", fn := fun _ => fun
  | [d1, d2, d3] => { results := [.lit (.bool true)], args := [d1, d2, d3] }
  | _ => none }
def grainSkipsRow : OpenClaim := { program := "ytpjjobophplleaadoor", sum := "2a64757aa2f405e4dd0846837ece724353dbbd8cb0afa6a2a919f3167f276d80", func := "avouch/avouchlaw08.GrainSkips", spec := "grainSkips", inPlace := ["math/bits.Add64", "math/bits.Sub64"], unfollowed := true, recurses := true, named := ["avouch/field.prime", "avouch/field.raise"], apart := false, laid := [("avouch/field.prime", laid_avouch_field_prime), ("avouch/field.raise", laid_avouch_field_raise)] }
def GrainSkipsSaid : Prop := grainSkipsRow.holds Tryd.pinned (OpenSpec.ofChange grainSkipsSpec)

/-- ITS FALSE NEIGHBOUR: 'it returns false'. Refute it at one input. -/
def grainSkipsWrong : ChangeSpec := { name := "grainSkips", fn := fun _ => fun
  | [d1, d2, d3] => { results := [.lit (.bool false)], args := [d1, d2, d3] }
  | _ => none }
def GrainSkipsWrongFalsely : Prop := grainSkipsRow.holds Tryd.pinned (OpenSpec.ofChange grainSkipsWrong)

/- THE SECOND FORM. 'bulk': how many values and letters a reading holds, each counted each time it is reached (what is shared counts as often as it is met; a slice's spare places count too). A statement '..UptoSaid' is the law's where the arguments, and the package variables that the reading takes, are together of bulk at most 1048576: NARROWER than '..Said'. Prove '..Said' where nothing that the law and all that it calls make is longer than what came in: it says more and counts as full. Else prove '..UptoSaid'. A law counts once. -/
mutual
def uptoBulk {H : Type} : DataW H → Nat
  | .lit (.string bytes) => bytes.length + 1
  | .lit _ => 1
  | .nil => 1
  | .ptr d => uptoBulk d + 1
  | .slice elems spare => uptoBulkAll elems + uptoBulkAll spare + 1
  | .agg parts => uptoBulkAll parts + 1
  | .iface _ d => uptoBulk d + 1
  | .map entries => uptoBulkEntries entries + 1
  | .held _ => 1
def uptoBulkAll {H : Type} : List (DataW H) → Nat
  | [] => 0
  | d :: r => uptoBulk d + uptoBulkAll r
def uptoBulkEntries {H : Type} : List (Lit × DataW H) → Nat
  | [] => 0
  | x :: r => uptoBulkEntry x + uptoBulkEntries r
def uptoBulkEntry {H : Type} : Lit × DataW H → Nat
  | (.string bytes, d) => bytes.length + uptoBulk d + 1
  | (_, d) => uptoBulk d + 1
 end
def uptoSmall : (H : Type) → List (DataW H) → Bool := fun _ ds => decide (uptoBulkAll ds ≤ 1048576)
def OpenSpec.upto (s : _root_.Go.ChangeSpec) : _root_.Go.OpenSpec := { _root_.Go.OpenSpec.ofChange s with cond := some uptoSmall }

/-- 'avouchlaw08.GrainElements', WHERE WHAT IT READS IS OF BULK AT MOST 1048576: true; the input reads as it did. -/
def grainElementsUptoRow : OpenClaim := { program := "ytpjjobophplleaadoor", sum := "2a64757aa2f405e4dd0846837ece724353dbbd8cb0afa6a2a919f3167f276d80", func := "avouch/avouchlaw08.GrainElements", spec := "grainElements", inPlace := ["math/bits.Add64", "math/bits.Sub64"], unfollowed := true, recurses := true, named := ["avouch/field.prime", "avouch/field.raise"], apart := false, laid := [("avouch/field.prime", laid_avouch_field_prime), ("avouch/field.raise", laid_avouch_field_raise)], narrowed := true }
def GrainElementsUptoSaid : Prop := grainElementsUptoRow.holds Tryd.pinned (OpenSpec.upto grainElementsSpec)

/-- 'avouchlaw08.GrainSkips', WHERE WHAT IT READS IS OF BULK AT MOST 1048576: true; the input reads as it did. -/
def grainSkipsUptoRow : OpenClaim := { program := "ytpjjobophplleaadoor", sum := "2a64757aa2f405e4dd0846837ece724353dbbd8cb0afa6a2a919f3167f276d80", func := "avouch/avouchlaw08.GrainSkips", spec := "grainSkips", inPlace := ["math/bits.Add64", "math/bits.Sub64"], unfollowed := true, recurses := true, named := ["avouch/field.prime", "avouch/field.raise"], apart := false, laid := [("avouch/field.prime", laid_avouch_field_prime), ("avouch/field.raise", laid_avouch_field_raise)], narrowed := true }
def GrainSkipsUptoSaid : Prop := grainSkipsUptoRow.holds Tryd.pinned (OpenSpec.upto grainSkipsSpec)

end Rows
end Go.Proofs.YtpjjobophplleaaDoor
