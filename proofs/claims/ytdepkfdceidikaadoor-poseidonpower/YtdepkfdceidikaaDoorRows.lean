/-
  NARROWER THAN 'FOR EVERY INPUT', by the rows' own cells (each row's printed sentence says how): PoseidonPower: laid · MatrixLaws: laid.
  DERIVED. THE GIVEN ROWS OF THIS SEAT. 2 by the template 'for every input the law returns true; each argument reads behind the call as it read before'; 0 by the template 'total and deterministic' (their statements: YtdepkfdceidikaaDoorTotals.lean).
  GIVEN WITH THE SEED: the statements are not yours to turn. If you find one false, say at which input.
  Laid BY PROGRAM, IN A SANDBOX (cutbox-rows.mjs): the forced cells as the released guide's own fill.sh prints them over the translation 09871f2bf9af4c87… (all of the seat's roots in one cut). By AI agents, Wed Nov 11 2026. No macro, syntax, notation, axiom, sorry.
-/
import Derived.Test.YtdepkfdceidikaaDoorChecked
import GoSem.Claim
import GoSem.ClaimJoined
import GoSem.ClaimMapViews
import Derived.JoinedTies
import Derived.KernelRfl
namespace Go.Proofs.YtdepkfdceidikaaDoor
/- THE CELL 'sum', in the pinned program and in every row, IS THE sha256 OF THE DUMP (.gsa) THAT YtdepkfdceidikaaDoorProg.lean LOADS. Nothing in Lean hashes anything: it is a label: what it is worth is what the hold of that sum in a sandbox is worth. -/
noncomputable def Tryd.pinned : Pinned := { name := "ytdepkfdceidikaadoor", sum := "09871f2bf9af4c87d30b113328e7d3f60914197411e7cbe4bbf61e1816d2867c", checked := Tryd.checked }
namespace Rows
def none {H : Type} : Left H := { results := [], args := [] }

/- WHAT THE LISTED PACKAGE-LEVEL VARIABLES READ AS WHEN THE CALL BEGINS. Each datum BY PROGRAM (the guide's laid-datum.mjs) off the statement by which the dump's own 'gosem.cut.vars' lays the variable. In a bare row this is a premise. The card (YtdepkfdceidikaaDoorCards.lean) ties it to the program's text. -/
def laid_avouch_field_prime {H : Type} : DataW H := .agg [.lit (.int .u64 4891460686036598785), .lit (.int .u64 2896914383306846353), .lit (.int .u64 13281191951274694749), .lit (.int .u64 3486998266802970665)]
def laid_avouch_field_raise {H : Type} : DataW H := .agg [.lit (.int .u64 1997599621687373223), .lit (.int .u64 6052339484930628067), .lit (.int .u64 10108755138030829701), .lit (.int .u64 150537098327114917)]

/-- 'avouchlaw10.PoseidonPower': WHATEVER THE INPUT: true; the input reads as it did. -/
def poseidonPowerSpec : ChangeSpec := { name := "poseidonPower", fn := fun _ => fun
  | [d1, d2] => { results := [.lit (.bool true)], args := [d1, d2] }
  | _ => none }
def poseidonPowerRow : OpenClaim := { program := "ytdepkfdceidikaadoor", sum := "09871f2bf9af4c87d30b113328e7d3f60914197411e7cbe4bbf61e1816d2867c", func := "avouch/avouchlaw10.PoseidonPower", spec := "poseidonPower", inPlace := ["math/bits.Add64", "math/bits.Sub64", "sync/atomic.LoadUint32", "(*internal/sync.Mutex).Lock", "internal/race.Disable", "sync/atomic.CompareAndSwapInt32", "internal/race.Enable", "internal/race.Acquire", "(*internal/sync.Mutex).lockSlow", "internal/sync.runtime_canSpin", "internal/sync.runtime_doSpin", "internal/sync.throw", "internal/sync.runtime_nanotime", "internal/sync.runtime_SemacquireMutex", "sync/atomic.AddInt32", "(*internal/sync.Mutex).Unlock", "internal/race.ReleaseMerge", "(*internal/sync.Mutex).unlockSlow", "internal/sync.fatal", "internal/sync.runtime_Semrelease", "sync/atomic.StoreUint32"], unfollowed := true, recurses := true, named := ["avouch/field.raise", "avouch/field.prime", "math/bits.divideError", "math/bits.overflowError"], apart := false, laid := [("avouch/field.prime", laid_avouch_field_prime), ("avouch/field.raise", laid_avouch_field_raise)] }
def PoseidonPowerSaid : Prop := poseidonPowerRow.holds Tryd.pinned (OpenSpec.ofChange poseidonPowerSpec)

/-- ITS FALSE NEIGHBOUR: 'it returns false'. Refute it at one input. -/
def poseidonPowerWrong : ChangeSpec := { name := "poseidonPower", fn := fun _ => fun
  | [d1, d2] => { results := [.lit (.bool false)], args := [d1, d2] }
  | _ => none }
def PoseidonPowerWrongFalsely : Prop := poseidonPowerRow.holds Tryd.pinned (OpenSpec.ofChange poseidonPowerWrong)

/-- 'avouchlaw09.MatrixLaws': WHATEVER THE INPUT: true; the input reads as it did. -/
def matrixLawsSpec : ChangeSpec := { name := "matrixLaws", fn := fun _ => fun
  | [d1, d2, d3] => { results := [.lit (.bool true)], args := [d1, d2, d3] }
  | _ => none }
def matrixLawsRow : OpenClaim := { program := "ytdepkfdceidikaadoor", sum := "09871f2bf9af4c87d30b113328e7d3f60914197411e7cbe4bbf61e1816d2867c", func := "avouch/avouchlaw09.MatrixLaws", spec := "matrixLaws", inPlace := ["math/bits.Add64", "math/bits.Sub64"], unfollowed := true, recurses := true, named := ["avouch/field.raise", "avouch/field.prime", "math/bits.divideError", "math/bits.overflowError"], apart := false, laid := [("avouch/field.prime", laid_avouch_field_prime), ("avouch/field.raise", laid_avouch_field_raise)] }
def MatrixLawsSaid : Prop := matrixLawsRow.holds Tryd.pinned (OpenSpec.ofChange matrixLawsSpec)

/-- ITS FALSE NEIGHBOUR: 'it returns false'. Refute it at one input. -/
def matrixLawsWrong : ChangeSpec := { name := "matrixLaws", fn := fun _ => fun
  | [d1, d2, d3] => { results := [.lit (.bool false)], args := [d1, d2, d3] }
  | _ => none }
def MatrixLawsWrongFalsely : Prop := matrixLawsRow.holds Tryd.pinned (OpenSpec.ofChange matrixLawsWrong)

/- THE SECOND FORM. 'bulk': how many values and letters a reading holds, each counted each time it is reached (what is shared counts as often as it is met; a slice's spare places count too). A statement '..UptoSaid' is the law's where the arguments, and the package variables that the reading takes, are together of bulk at most 1048576: NARROWER than '..Said'. Prove '..Said' where nothing that the law and all that it calls make is longer than what came in: it says more and counts as full. Else prove '..UptoSaid'. A law counts once. -/
mutual
def uptoBulk {H : Type} : DataW H → Nat
  | .lit (.string bytes) => bytes.length + 1
  | .lit _ => 1
  | .nil => 1
  | .ptr d => uptoBulk d + 1
  | .slice elems spare => uptoBulkAll elems + uptoBulkAll spare + 1
  | .agg parts => uptoBulkAll parts + 1
  | .iface _ d => uptoBulk d + 1
  | .map entries => uptoBulkEntries entries + 1
  | .held _ => 1
def uptoBulkAll {H : Type} : List (DataW H) → Nat
  | [] => 0
  | d :: r => uptoBulk d + uptoBulkAll r
def uptoBulkEntries {H : Type} : List (Lit × DataW H) → Nat
  | [] => 0
  | x :: r => uptoBulkEntry x + uptoBulkEntries r
def uptoBulkEntry {H : Type} : Lit × DataW H → Nat
  | (.string bytes, d) => bytes.length + uptoBulk d + 1
  | (_, d) => uptoBulk d + 1
 end
def uptoSmall : (H : Type) → List (DataW H) → Bool := fun _ ds => decide (uptoBulkAll ds ≤ 1048576)
def OpenSpec.upto (s : _root_.Go.ChangeSpec) : _root_.Go.OpenSpec := { _root_.Go.OpenSpec.ofChange s with cond := some uptoSmall }

/-- 'avouchlaw10.PoseidonPower', WHERE WHAT IT READS IS OF BULK AT MOST 1048576: true; the input reads as it did. -/
def poseidonPowerUptoRow : OpenClaim := { program := "ytdepkfdceidikaadoor", sum := "09871f2bf9af4c87d30b113328e7d3f60914197411e7cbe4bbf61e1816d2867c", func := "avouch/avouchlaw10.PoseidonPower", spec := "poseidonPower", inPlace := ["math/bits.Add64", "math/bits.Sub64", "sync/atomic.LoadUint32", "(*internal/sync.Mutex).Lock", "internal/race.Disable", "sync/atomic.CompareAndSwapInt32", "internal/race.Enable", "internal/race.Acquire", "(*internal/sync.Mutex).lockSlow", "internal/sync.runtime_canSpin", "internal/sync.runtime_doSpin", "internal/sync.throw", "internal/sync.runtime_nanotime", "internal/sync.runtime_SemacquireMutex", "sync/atomic.AddInt32", "(*internal/sync.Mutex).Unlock", "internal/race.ReleaseMerge", "(*internal/sync.Mutex).unlockSlow", "internal/sync.fatal", "internal/sync.runtime_Semrelease", "sync/atomic.StoreUint32"], unfollowed := true, recurses := true, named := ["avouch/field.raise", "avouch/field.prime", "math/bits.divideError", "math/bits.overflowError"], apart := false, laid := [("avouch/field.prime", laid_avouch_field_prime), ("avouch/field.raise", laid_avouch_field_raise)], narrowed := true }
def PoseidonPowerUptoSaid : Prop := poseidonPowerUptoRow.holds Tryd.pinned (OpenSpec.upto poseidonPowerSpec)

/-- 'avouchlaw09.MatrixLaws', WHERE WHAT IT READS IS OF BULK AT MOST 1048576: true; the input reads as it did. -/
def matrixLawsUptoRow : OpenClaim := { program := "ytdepkfdceidikaadoor", sum := "09871f2bf9af4c87d30b113328e7d3f60914197411e7cbe4bbf61e1816d2867c", func := "avouch/avouchlaw09.MatrixLaws", spec := "matrixLaws", inPlace := ["math/bits.Add64", "math/bits.Sub64"], unfollowed := true, recurses := true, named := ["avouch/field.raise", "avouch/field.prime", "math/bits.divideError", "math/bits.overflowError"], apart := false, laid := [("avouch/field.prime", laid_avouch_field_prime), ("avouch/field.raise", laid_avouch_field_raise)], narrowed := true }
def MatrixLawsUptoSaid : Prop := matrixLawsUptoRow.holds Tryd.pinned (OpenSpec.upto matrixLawsSpec)

end Rows
end Go.Proofs.YtdepkfdceidikaaDoor
