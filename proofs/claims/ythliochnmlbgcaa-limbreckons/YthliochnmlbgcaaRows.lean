/-
  No cell of these rows narrows 'for every input' (looked for: loops, veiled, ifaces, maps, wideKeys, modest, calm, conditions, laid).
  DERIVED. THE GIVEN ROWS OF THIS SEAT. 6 by the template 'for every input the law returns true; each argument reads behind the call as it read before'; 0 by the template 'total and deterministic' (their statements: YthliochnmlbgcaaTotals.lean).
  GIVEN WITH THE SEED: the statements are not yours to turn. If you find one false, say at which input.
  Laid BY PROGRAM, IN A SANDBOX (cutbox-rows.mjs): the forced cells as the released guide's own fill.sh prints them over the translation ce0cd5b104d415e6… (all of the seat's roots in one cut). By AI agents, Wed Nov 11 2026. No macro, syntax, notation, axiom, sorry.
-/
import Derived.Test.YthliochnmlbgcaaChecked
import GoSem.Claim
import GoSem.ClaimJoined
import GoSem.ClaimMapViews
import Derived.JoinedTies
import Derived.KernelRfl
namespace Go.Proofs.Ythliochnmlbgcaa
/- THE CELL 'sum', in the pinned program and in every row, IS THE sha256 OF THE DUMP (.gsa) THAT YthliochnmlbgcaaProg.lean LOADS. Nothing in Lean hashes anything: it is a label: what it is worth is what the hold of that sum in a sandbox is worth. -/
noncomputable def Try.pinned : Pinned := { name := "ythliochnmlbgcaa", sum := "ce0cd5b104d415e61d9357f0f1739ed5cfbb137c6577f4301a25c0f48c3fe006", checked := Try.checked }
namespace Rows
def none {H : Type} : Left H := { results := [], args := [] }

/-- 'avouchlaw01.LimbReckons': WHATEVER THE INPUT: true; the input reads as it did. -/
def limbReckonsSpec : ChangeSpec := { name := "limbReckons", fn := fun _ => fun
  | [d1, d2] => { results := [.lit (.bool true)], args := [d1, d2] }
  | _ => none }
def limbReckonsRow : OpenClaim := { program := "ythliochnmlbgcaa", sum := "ce0cd5b104d415e61d9357f0f1739ed5cfbb137c6577f4301a25c0f48c3fe006", func := "avouch/avouchlaw01.LimbReckons", spec := "limbReckons", inPlace := ["math/bits.Add64", "math/bits.Sub64"], named := ["math/bits.divideError", "math/bits.overflowError"], apart := false }
def LimbReckonsSaid : Prop := limbReckonsRow.holds Try.pinned (OpenSpec.ofChange limbReckonsSpec)

/-- ITS FALSE NEIGHBOUR: 'it returns false'. Refute it at one input. -/
def limbReckonsWrong : ChangeSpec := { name := "limbReckons", fn := fun _ => fun
  | [d1, d2] => { results := [.lit (.bool false)], args := [d1, d2] }
  | _ => none }
def LimbReckonsWrongFalsely : Prop := limbReckonsRow.holds Try.pinned (OpenSpec.ofChange limbReckonsWrong)

/-- 'avouchlaw01.LimbReads': WHATEVER THE INPUT: true; the input reads as it did. -/
def limbReadsSpec : ChangeSpec := { name := "limbReads", fn := fun _ => fun
  | [d] => { results := [.lit (.bool true)], args := [d] }
  | _ => none }
def limbReadsRow : OpenClaim := { program := "ythliochnmlbgcaa", sum := "ce0cd5b104d415e61d9357f0f1739ed5cfbb137c6577f4301a25c0f48c3fe006", func := "avouch/avouchlaw01.LimbReads", spec := "limbReads", inPlace := ["math/bits.Add64", "math/bits.Sub64"], named := ["math/bits.divideError", "math/bits.overflowError"], apart := false }
def LimbReadsSaid : Prop := limbReadsRow.holds Try.pinned (OpenSpec.ofChange limbReadsSpec)

/-- ITS FALSE NEIGHBOUR: 'it returns false'. Refute it at one input. -/
def limbReadsWrong : ChangeSpec := { name := "limbReads", fn := fun _ => fun
  | [d] => { results := [.lit (.bool false)], args := [d] }
  | _ => none }
def LimbReadsWrongFalsely : Prop := limbReadsRow.holds Try.pinned (OpenSpec.ofChange limbReadsWrong)

/-- 'avouchlaw01.LimbModulo': WHATEVER THE INPUT: true; the input reads as it did. -/
def limbModuloSpec : ChangeSpec := { name := "limbModulo", fn := fun _ => fun
  | [d1, d2, d3] => { results := [.lit (.bool true)], args := [d1, d2, d3] }
  | _ => none }
def limbModuloRow : OpenClaim := { program := "ythliochnmlbgcaa", sum := "ce0cd5b104d415e61d9357f0f1739ed5cfbb137c6577f4301a25c0f48c3fe006", func := "avouch/avouchlaw01.LimbModulo", spec := "limbModulo", inPlace := ["math/bits.Add64", "math/bits.Sub64"], named := ["math/bits.divideError", "math/bits.overflowError"], apart := false }
def LimbModuloSaid : Prop := limbModuloRow.holds Try.pinned (OpenSpec.ofChange limbModuloSpec)

/-- ITS FALSE NEIGHBOUR: 'it returns false'. Refute it at one input. -/
def limbModuloWrong : ChangeSpec := { name := "limbModulo", fn := fun _ => fun
  | [d1, d2, d3] => { results := [.lit (.bool false)], args := [d1, d2, d3] }
  | _ => none }
def LimbModuloWrongFalsely : Prop := limbModuloRow.holds Try.pinned (OpenSpec.ofChange limbModuloWrong)

/-- 'avouchlaw01.LimbPowers': WHATEVER THE INPUT: true; the input reads as it did. -/
def limbPowersSpec : ChangeSpec := { name := "limbPowers", fn := fun _ => fun
  | [d1, d2, d3] => { results := [.lit (.bool true)], args := [d1, d2, d3] }
  | _ => none }
def limbPowersRow : OpenClaim := { program := "ythliochnmlbgcaa", sum := "ce0cd5b104d415e61d9357f0f1739ed5cfbb137c6577f4301a25c0f48c3fe006", func := "avouch/avouchlaw01.LimbPowers", spec := "limbPowers", inPlace := ["math/bits.Add64", "math/bits.Sub64"], named := ["math/bits.divideError", "math/bits.overflowError"], apart := false }
def LimbPowersSaid : Prop := limbPowersRow.holds Try.pinned (OpenSpec.ofChange limbPowersSpec)

/-- ITS FALSE NEIGHBOUR: 'it returns false'. Refute it at one input. -/
def limbPowersWrong : ChangeSpec := { name := "limbPowers", fn := fun _ => fun
  | [d1, d2, d3] => { results := [.lit (.bool false)], args := [d1, d2, d3] }
  | _ => none }
def LimbPowersWrongFalsely : Prop := limbPowersRow.holds Try.pinned (OpenSpec.ofChange limbPowersWrong)

/-- 'avouchlaw01.LimbRings': WHATEVER THE INPUT: true; the input reads as it did. -/
def limbRingsSpec : ChangeSpec := { name := "limbRings", fn := fun _ => fun
  | [d1, d2, d3, d4] => { results := [.lit (.bool true)], args := [d1, d2, d3, d4] }
  | _ => none }
def limbRingsRow : OpenClaim := { program := "ythliochnmlbgcaa", sum := "ce0cd5b104d415e61d9357f0f1739ed5cfbb137c6577f4301a25c0f48c3fe006", func := "avouch/avouchlaw01.LimbRings", spec := "limbRings", inPlace := ["math/bits.Add64", "math/bits.Sub64"], named := ["math/bits.divideError", "math/bits.overflowError"], apart := false }
def LimbRingsSaid : Prop := limbRingsRow.holds Try.pinned (OpenSpec.ofChange limbRingsSpec)

/-- ITS FALSE NEIGHBOUR: 'it returns false'. Refute it at one input. -/
def limbRingsWrong : ChangeSpec := { name := "limbRings", fn := fun _ => fun
  | [d1, d2, d3, d4] => { results := [.lit (.bool false)], args := [d1, d2, d3, d4] }
  | _ => none }
def LimbRingsWrongFalsely : Prop := limbRingsRow.holds Try.pinned (OpenSpec.ofChange limbRingsWrong)

/-- 'avouchlaw01.LimbMultiples': WHATEVER THE INPUT: true; the input reads as it did. -/
def limbMultiplesSpec : ChangeSpec := { name := "limbMultiples", fn := fun _ => fun
  | [d1, d2, d3] => { results := [.lit (.bool true)], args := [d1, d2, d3] }
  | _ => none }
def limbMultiplesRow : OpenClaim := { program := "ythliochnmlbgcaa", sum := "ce0cd5b104d415e61d9357f0f1739ed5cfbb137c6577f4301a25c0f48c3fe006", func := "avouch/avouchlaw01.LimbMultiples", spec := "limbMultiples", inPlace := ["math/bits.Add64", "math/bits.Sub64"], named := ["math/bits.divideError", "math/bits.overflowError"], apart := false }
def LimbMultiplesSaid : Prop := limbMultiplesRow.holds Try.pinned (OpenSpec.ofChange limbMultiplesSpec)

/-- ITS FALSE NEIGHBOUR: 'it returns false'. Refute it at one input. -/
def limbMultiplesWrong : ChangeSpec := { name := "limbMultiples", fn := fun _ => fun
  | [d1, d2, d3] => { results := [.lit (.bool false)], args := [d1, d2, d3] }
  | _ => none }
def LimbMultiplesWrongFalsely : Prop := limbMultiplesRow.holds Try.pinned (OpenSpec.ofChange limbMultiplesWrong)

/- THE SECOND FORM. 'bulk': how many values and letters a reading holds, each counted each time it is reached (what is shared counts as often as it is met; a slice's spare places count too). A statement '..UptoSaid' is the law's where the arguments, and the package variables that the reading takes, are together of bulk at most 1048576: NARROWER than '..Said'. Prove '..Said' where nothing that the law and all that it calls make is longer than what came in: it says more and counts as full. Else prove '..UptoSaid'. A law counts once. -/
mutual
def uptoBulk {H : Type} : DataW H → Nat
  | .lit (.string bytes) => bytes.length + 1
  | .lit _ => 1
  | .nil => 1
  | .ptr d => uptoBulk d + 1
  | .slice elems spare => uptoBulkAll elems + uptoBulkAll spare + 1
  | .agg parts => uptoBulkAll parts + 1
  | .iface _ d => uptoBulk d + 1
  | .map entries => uptoBulkEntries entries + 1
  | .held _ => 1
def uptoBulkAll {H : Type} : List (DataW H) → Nat
  | [] => 0
  | d :: r => uptoBulk d + uptoBulkAll r
def uptoBulkEntries {H : Type} : List (Lit × DataW H) → Nat
  | [] => 0
  | x :: r => uptoBulkEntry x + uptoBulkEntries r
def uptoBulkEntry {H : Type} : Lit × DataW H → Nat
  | (.string bytes, d) => bytes.length + uptoBulk d + 1
  | (_, d) => uptoBulk d + 1
 end
def uptoSmall : (H : Type) → List (DataW H) → Bool := fun _ ds => decide (uptoBulkAll ds ≤ 1048576)
def OpenSpec.upto (s : _root_.Go.ChangeSpec) : _root_.Go.OpenSpec := { _root_.Go.OpenSpec.ofChange s with cond := some uptoSmall }

/-- 'avouchlaw01.LimbReckons', WHERE WHAT IT READS IS OF BULK AT MOST 1048576: true; the input reads as it did. -/
def limbReckonsUptoRow : OpenClaim := { program := "ythliochnmlbgcaa", sum := "ce0cd5b104d415e61d9357f0f1739ed5cfbb137c6577f4301a25c0f48c3fe006", func := "avouch/avouchlaw01.LimbReckons", spec := "limbReckons", inPlace := ["math/bits.Add64", "math/bits.Sub64"], named := ["math/bits.divideError", "math/bits.overflowError"], apart := false, narrowed := true }
def LimbReckonsUptoSaid : Prop := limbReckonsUptoRow.holds Try.pinned (OpenSpec.upto limbReckonsSpec)

/-- 'avouchlaw01.LimbReads', WHERE WHAT IT READS IS OF BULK AT MOST 1048576: true; the input reads as it did. -/
def limbReadsUptoRow : OpenClaim := { program := "ythliochnmlbgcaa", sum := "ce0cd5b104d415e61d9357f0f1739ed5cfbb137c6577f4301a25c0f48c3fe006", func := "avouch/avouchlaw01.LimbReads", spec := "limbReads", inPlace := ["math/bits.Add64", "math/bits.Sub64"], named := ["math/bits.divideError", "math/bits.overflowError"], apart := false, narrowed := true }
def LimbReadsUptoSaid : Prop := limbReadsUptoRow.holds Try.pinned (OpenSpec.upto limbReadsSpec)

/-- 'avouchlaw01.LimbModulo', WHERE WHAT IT READS IS OF BULK AT MOST 1048576: true; the input reads as it did. -/
def limbModuloUptoRow : OpenClaim := { program := "ythliochnmlbgcaa", sum := "ce0cd5b104d415e61d9357f0f1739ed5cfbb137c6577f4301a25c0f48c3fe006", func := "avouch/avouchlaw01.LimbModulo", spec := "limbModulo", inPlace := ["math/bits.Add64", "math/bits.Sub64"], named := ["math/bits.divideError", "math/bits.overflowError"], apart := false, narrowed := true }
def LimbModuloUptoSaid : Prop := limbModuloUptoRow.holds Try.pinned (OpenSpec.upto limbModuloSpec)

/-- 'avouchlaw01.LimbPowers', WHERE WHAT IT READS IS OF BULK AT MOST 1048576: true; the input reads as it did. -/
def limbPowersUptoRow : OpenClaim := { program := "ythliochnmlbgcaa", sum := "ce0cd5b104d415e61d9357f0f1739ed5cfbb137c6577f4301a25c0f48c3fe006", func := "avouch/avouchlaw01.LimbPowers", spec := "limbPowers", inPlace := ["math/bits.Add64", "math/bits.Sub64"], named := ["math/bits.divideError", "math/bits.overflowError"], apart := false, narrowed := true }
def LimbPowersUptoSaid : Prop := limbPowersUptoRow.holds Try.pinned (OpenSpec.upto limbPowersSpec)

/-- 'avouchlaw01.LimbRings', WHERE WHAT IT READS IS OF BULK AT MOST 1048576: true; the input reads as it did. -/
def limbRingsUptoRow : OpenClaim := { program := "ythliochnmlbgcaa", sum := "ce0cd5b104d415e61d9357f0f1739ed5cfbb137c6577f4301a25c0f48c3fe006", func := "avouch/avouchlaw01.LimbRings", spec := "limbRings", inPlace := ["math/bits.Add64", "math/bits.Sub64"], named := ["math/bits.divideError", "math/bits.overflowError"], apart := false, narrowed := true }
def LimbRingsUptoSaid : Prop := limbRingsUptoRow.holds Try.pinned (OpenSpec.upto limbRingsSpec)

/-- 'avouchlaw01.LimbMultiples', WHERE WHAT IT READS IS OF BULK AT MOST 1048576: true; the input reads as it did. -/
def limbMultiplesUptoRow : OpenClaim := { program := "ythliochnmlbgcaa", sum := "ce0cd5b104d415e61d9357f0f1739ed5cfbb137c6577f4301a25c0f48c3fe006", func := "avouch/avouchlaw01.LimbMultiples", spec := "limbMultiples", inPlace := ["math/bits.Add64", "math/bits.Sub64"], named := ["math/bits.divideError", "math/bits.overflowError"], apart := false, narrowed := true }
def LimbMultiplesUptoSaid : Prop := limbMultiplesUptoRow.holds Try.pinned (OpenSpec.upto limbMultiplesSpec)

end Rows
end Go.Proofs.Ythliochnmlbgcaa
