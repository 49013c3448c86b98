/-
  NARROWER THAN 'FOR EVERY INPUT', by the rows' own cells (each row's printed sentence says how): PoseidonPermutes: laid · PoseidonConstants: laid · PoseidonUnlike: laid · PoseidonSteps: laid.
  DERIVED. THE GIVEN ROWS OF THIS SEAT. 4 by the template 'for every input the law returns true; each argument reads behind the call as it read before'; 0 by the template 'total and deterministic' (their statements: YtdepkfdceidikaaGreatDoorTotals.lean).
  GIVEN WITH THE SEED: the statements are not yours to turn. If you find one false, say at which input.
  Laid BY PROGRAM, IN A SANDBOX (cutbox-rows.mjs): the forced cells as the released guide's own fill.sh prints them over the translation a5bbb094f7e2c237… (all of the seat's roots in one cut). By AI agents, Wed Nov 11 2026. No macro, syntax, notation, axiom, sorry.
-/
import Derived.Test.YtdepkfdceidikaaGreatDoorChecked
import GoSem.Claim
import GoSem.ClaimJoined
import GoSem.ClaimMapViews
import Derived.JoinedTies
import Derived.KernelRfl
namespace Go.Proofs.YtdepkfdceidikaaGreatDoor
/- THE CELL 'sum', in the pinned program and in every row, IS THE sha256 OF THE DUMP (.gsa) THAT YtdepkfdceidikaaGreatDoorProg.lean LOADS. Nothing in Lean hashes anything: it is a label: what it is worth is what the hold of that sum in a sandbox is worth. -/
noncomputable def Tryz.pinned : Pinned := { name := "ytdepkfdceidikaagreatdoor", sum := "a5bbb094f7e2c2377a010e373e75259101d99849737141e850dad4e08d9b281e", checked := Tryz.checked }
namespace Rows
def none {H : Type} : Left H := { results := [], args := [] }

/- WHAT THE LISTED PACKAGE-LEVEL VARIABLES READ AS WHEN THE CALL BEGINS. Each datum BY PROGRAM (the guide's laid-datum.mjs) off the statement by which the dump's own 'gosem.cut.vars' lays the variable. In a bare row this is a premise. The card (YtdepkfdceidikaaGreatDoorCards.lean) ties it to the program's text. -/
def laid_avouch_field_prime {H : Type} : DataW H := .agg [.lit (.int .u64 4891460686036598785), .lit (.int .u64 2896914383306846353), .lit (.int .u64 13281191951274694749), .lit (.int .u64 3486998266802970665)]
def laid_avouch_field_raise {H : Type} : DataW H := .agg [.lit (.int .u64 1997599621687373223), .lit (.int .u64 6052339484930628067), .lit (.int .u64 10108755138030829701), .lit (.int .u64 150537098327114917)]

/-- 'avouchlaw10.PoseidonPermutes': WHATEVER THE INPUT: true; the input reads as it did. -/
def poseidonPermutesSpec : ChangeSpec := { name := "poseidonPermutes", fn := fun _ => fun
  | [d1, d2] => { results := [.lit (.bool true)], args := [d1, d2] }
  | _ => none }
def poseidonPermutesRow : OpenClaim := { program := "ytdepkfdceidikaagreatdoor", sum := "a5bbb094f7e2c2377a010e373e75259101d99849737141e850dad4e08d9b281e", func := "avouch/avouchlaw10.PoseidonPermutes", spec := "poseidonPermutes", inPlace := ["math/bits.Add64", "math/bits.Sub64", "sync/atomic.LoadUint32", "(*internal/sync.Mutex).Lock", "internal/race.Disable", "sync/atomic.CompareAndSwapInt32", "internal/race.Enable", "internal/race.Acquire", "(*internal/sync.Mutex).lockSlow", "internal/sync.runtime_canSpin", "internal/sync.runtime_doSpin", "internal/sync.throw", "internal/sync.runtime_nanotime", "internal/sync.runtime_SemacquireMutex", "sync/atomic.AddInt32", "(*internal/sync.Mutex).Unlock", "internal/race.ReleaseMerge", "(*internal/sync.Mutex).unlockSlow", "internal/sync.fatal", "internal/sync.runtime_Semrelease", "sync/atomic.StoreUint32"], unfollowed := true, recurses := true, named := ["avouch/field.raise", "avouch/field.prime", "math/bits.divideError", "math/bits.overflowError"], apart := false, laid := [("avouch/field.prime", laid_avouch_field_prime), ("avouch/field.raise", laid_avouch_field_raise)] }
def PoseidonPermutesSaid : Prop := poseidonPermutesRow.holds Tryz.pinned (OpenSpec.ofChange poseidonPermutesSpec)

/-- ITS FALSE NEIGHBOUR: 'it returns false'. Refute it at one input. -/
def poseidonPermutesWrong : ChangeSpec := { name := "poseidonPermutes", fn := fun _ => fun
  | [d1, d2] => { results := [.lit (.bool false)], args := [d1, d2] }
  | _ => none }
def PoseidonPermutesWrongFalsely : Prop := poseidonPermutesRow.holds Tryz.pinned (OpenSpec.ofChange poseidonPermutesWrong)

/-- 'avouchlaw10.PoseidonConstants': WHATEVER THE INPUT: true; the input reads as it did. -/
def poseidonConstantsSpec : ChangeSpec := { name := "poseidonConstants", fn := fun _ => fun
  | [d] => { results := [.lit (.bool true)], args := [d] }
  | _ => none }
def poseidonConstantsRow : OpenClaim := { program := "ytdepkfdceidikaagreatdoor", sum := "a5bbb094f7e2c2377a010e373e75259101d99849737141e850dad4e08d9b281e", func := "avouch/avouchlaw10.PoseidonConstants", spec := "poseidonConstants", inPlace := ["math/bits.Add64", "math/bits.Sub64", "sync/atomic.LoadUint32", "(*internal/sync.Mutex).Lock", "internal/race.Disable", "sync/atomic.CompareAndSwapInt32", "internal/race.Enable", "internal/race.Acquire", "(*internal/sync.Mutex).lockSlow", "internal/sync.runtime_canSpin", "internal/sync.runtime_doSpin", "internal/sync.throw", "internal/sync.runtime_nanotime", "internal/sync.runtime_SemacquireMutex", "sync/atomic.AddInt32", "(*internal/sync.Mutex).Unlock", "internal/race.ReleaseMerge", "(*internal/sync.Mutex).unlockSlow", "internal/sync.fatal", "internal/sync.runtime_Semrelease", "sync/atomic.StoreUint32"], unfollowed := true, recurses := true, named := ["avouch/field.raise", "avouch/field.prime"], apart := false, laid := [("avouch/field.prime", laid_avouch_field_prime), ("avouch/field.raise", laid_avouch_field_raise)] }
def PoseidonConstantsSaid : Prop := poseidonConstantsRow.holds Tryz.pinned (OpenSpec.ofChange poseidonConstantsSpec)

/-- ITS FALSE NEIGHBOUR: 'it returns false'. Refute it at one input. -/
def poseidonConstantsWrong : ChangeSpec := { name := "poseidonConstants", fn := fun _ => fun
  | [d] => { results := [.lit (.bool false)], args := [d] }
  | _ => none }
def PoseidonConstantsWrongFalsely : Prop := poseidonConstantsRow.holds Tryz.pinned (OpenSpec.ofChange poseidonConstantsWrong)

/-- 'avouchlaw10.PoseidonUnlike': WHATEVER THE INPUT: true; the input reads as it did. -/
def poseidonUnlikeSpec : ChangeSpec := { name := "poseidonUnlike", fn := fun _ => fun
  | [d1, d2] => { results := [.lit (.bool true)], args := [d1, d2] }
  | _ => none }
def poseidonUnlikeRow : OpenClaim := { program := "ytdepkfdceidikaagreatdoor", sum := "a5bbb094f7e2c2377a010e373e75259101d99849737141e850dad4e08d9b281e", func := "avouch/avouchlaw10.PoseidonUnlike", spec := "poseidonUnlike", inPlace := ["math/bits.Add64", "math/bits.Sub64", "sync/atomic.LoadUint32", "(*internal/sync.Mutex).Lock", "internal/race.Disable", "sync/atomic.CompareAndSwapInt32", "internal/race.Enable", "internal/race.Acquire", "(*internal/sync.Mutex).lockSlow", "internal/sync.runtime_canSpin", "internal/sync.runtime_doSpin", "internal/sync.throw", "internal/sync.runtime_nanotime", "internal/sync.runtime_SemacquireMutex", "sync/atomic.AddInt32", "(*internal/sync.Mutex).Unlock", "internal/race.ReleaseMerge", "(*internal/sync.Mutex).unlockSlow", "internal/sync.fatal", "internal/sync.runtime_Semrelease", "sync/atomic.StoreUint32"], unfollowed := true, recurses := true, named := ["avouch/field.raise", "avouch/field.prime", "math/bits.divideError", "math/bits.overflowError"], apart := false, laid := [("avouch/field.prime", laid_avouch_field_prime), ("avouch/field.raise", laid_avouch_field_raise)] }
def PoseidonUnlikeSaid : Prop := poseidonUnlikeRow.holds Tryz.pinned (OpenSpec.ofChange poseidonUnlikeSpec)

/-- ITS FALSE NEIGHBOUR: 'it returns false'. Refute it at one input. -/
def poseidonUnlikeWrong : ChangeSpec := { name := "poseidonUnlike", fn := fun _ => fun
  | [d1, d2] => { results := [.lit (.bool false)], args := [d1, d2] }
  | _ => none }
def PoseidonUnlikeWrongFalsely : Prop := poseidonUnlikeRow.holds Tryz.pinned (OpenSpec.ofChange poseidonUnlikeWrong)

/-- 'avouchlaw10.PoseidonSteps': WHATEVER THE INPUT: true; the input reads as it did. -/
def poseidonStepsSpec : ChangeSpec := { name := "poseidonSteps", fn := fun _ => fun
  | [d1, d2] => { results := [.lit (.bool true)], args := [d1, d2] }
  | _ => none }
def poseidonStepsRow : OpenClaim := { program := "ytdepkfdceidikaagreatdoor", sum := "a5bbb094f7e2c2377a010e373e75259101d99849737141e850dad4e08d9b281e", func := "avouch/avouchlaw10.PoseidonSteps", spec := "poseidonSteps", inPlace := ["math/bits.Add64", "math/bits.Sub64", "sync/atomic.LoadUint32", "(*internal/sync.Mutex).Lock", "internal/race.Disable", "sync/atomic.CompareAndSwapInt32", "internal/race.Enable", "internal/race.Acquire", "(*internal/sync.Mutex).lockSlow", "internal/sync.runtime_canSpin", "internal/sync.runtime_doSpin", "internal/sync.throw", "internal/sync.runtime_nanotime", "internal/sync.runtime_SemacquireMutex", "sync/atomic.AddInt32", "(*internal/sync.Mutex).Unlock", "internal/race.ReleaseMerge", "(*internal/sync.Mutex).unlockSlow", "internal/sync.fatal", "internal/sync.runtime_Semrelease", "sync/atomic.StoreUint32"], unfollowed := true, recurses := true, named := ["avouch/field.raise", "avouch/field.prime", "math/bits.divideError", "math/bits.overflowError"], apart := false, laid := [("avouch/field.prime", laid_avouch_field_prime), ("avouch/field.raise", laid_avouch_field_raise)] }
def PoseidonStepsSaid : Prop := poseidonStepsRow.holds Tryz.pinned (OpenSpec.ofChange poseidonStepsSpec)

/-- ITS FALSE NEIGHBOUR: 'it returns false'. Refute it at one input. -/
def poseidonStepsWrong : ChangeSpec := { name := "poseidonSteps", fn := fun _ => fun
  | [d1, d2] => { results := [.lit (.bool false)], args := [d1, d2] }
  | _ => none }
def PoseidonStepsWrongFalsely : Prop := poseidonStepsRow.holds Tryz.pinned (OpenSpec.ofChange poseidonStepsWrong)

/- THE SECOND FORM. 'bulk': how many values and letters a reading holds, each counted each time it is reached (what is shared counts as often as it is met; a slice's spare places count too). A statement '..UptoSaid' is the law's where the arguments, and the package variables that the reading takes, are together of bulk at most 1048576: NARROWER than '..Said'. Prove '..Said' where nothing that the law and all that it calls make is longer than what came in: it says more and counts as full. Else prove '..UptoSaid'. A law counts once. -/
mutual
def uptoBulk {H : Type} : DataW H → Nat
  | .lit (.string bytes) => bytes.length + 1
  | .lit _ => 1
  | .nil => 1
  | .ptr d => uptoBulk d + 1
  | .slice elems spare => uptoBulkAll elems + uptoBulkAll spare + 1
  | .agg parts => uptoBulkAll parts + 1
  | .iface _ d => uptoBulk d + 1
  | .map entries => uptoBulkEntries entries + 1
  | .held _ => 1
def uptoBulkAll {H : Type} : List (DataW H) → Nat
  | [] => 0
  | d :: r => uptoBulk d + uptoBulkAll r
def uptoBulkEntries {H : Type} : List (Lit × DataW H) → Nat
  | [] => 0
  | x :: r => uptoBulkEntry x + uptoBulkEntries r
def uptoBulkEntry {H : Type} : Lit × DataW H → Nat
  | (.string bytes, d) => bytes.length + uptoBulk d + 1
  | (_, d) => uptoBulk d + 1
 end
def uptoSmall : (H : Type) → List (DataW H) → Bool := fun _ ds => decide (uptoBulkAll ds ≤ 1048576)
def OpenSpec.upto (s : _root_.Go.ChangeSpec) : _root_.Go.OpenSpec := { _root_.Go.OpenSpec.ofChange s with cond := some uptoSmall }

/-- 'avouchlaw10.PoseidonPermutes', WHERE WHAT IT READS IS OF BULK AT MOST 1048576: true; the input reads as it did. -/
def poseidonPermutesUptoRow : OpenClaim := { program := "ytdepkfdceidikaagreatdoor", sum := "a5bbb094f7e2c2377a010e373e75259101d99849737141e850dad4e08d9b281e", func := "avouch/avouchlaw10.PoseidonPermutes", spec := "poseidonPermutes", inPlace := ["math/bits.Add64", "math/bits.Sub64", "sync/atomic.LoadUint32", "(*internal/sync.Mutex).Lock", "internal/race.Disable", "sync/atomic.CompareAndSwapInt32", "internal/race.Enable", "internal/race.Acquire", "(*internal/sync.Mutex).lockSlow", "internal/sync.runtime_canSpin", "internal/sync.runtime_doSpin", "internal/sync.throw", "internal/sync.runtime_nanotime", "internal/sync.runtime_SemacquireMutex", "sync/atomic.AddInt32", "(*internal/sync.Mutex).Unlock", "internal/race.ReleaseMerge", "(*internal/sync.Mutex).unlockSlow", "internal/sync.fatal", "internal/sync.runtime_Semrelease", "sync/atomic.StoreUint32"], unfollowed := true, recurses := true, named := ["avouch/field.raise", "avouch/field.prime", "math/bits.divideError", "math/bits.overflowError"], apart := false, laid := [("avouch/field.prime", laid_avouch_field_prime), ("avouch/field.raise", laid_avouch_field_raise)], narrowed := true }
def PoseidonPermutesUptoSaid : Prop := poseidonPermutesUptoRow.holds Tryz.pinned (OpenSpec.upto poseidonPermutesSpec)

/-- 'avouchlaw10.PoseidonConstants', WHERE WHAT IT READS IS OF BULK AT MOST 1048576: true; the input reads as it did. -/
def poseidonConstantsUptoRow : OpenClaim := { program := "ytdepkfdceidikaagreatdoor", sum := "a5bbb094f7e2c2377a010e373e75259101d99849737141e850dad4e08d9b281e", func := "avouch/avouchlaw10.PoseidonConstants", spec := "poseidonConstants", inPlace := ["math/bits.Add64", "math/bits.Sub64", "sync/atomic.LoadUint32", "(*internal/sync.Mutex).Lock", "internal/race.Disable", "sync/atomic.CompareAndSwapInt32", "internal/race.Enable", "internal/race.Acquire", "(*internal/sync.Mutex).lockSlow", "internal/sync.runtime_canSpin", "internal/sync.runtime_doSpin", "internal/sync.throw", "internal/sync.runtime_nanotime", "internal/sync.runtime_SemacquireMutex", "sync/atomic.AddInt32", "(*internal/sync.Mutex).Unlock", "internal/race.ReleaseMerge", "(*internal/sync.Mutex).unlockSlow", "internal/sync.fatal", "internal/sync.runtime_Semrelease", "sync/atomic.StoreUint32"], unfollowed := true, recurses := true, named := ["avouch/field.raise", "avouch/field.prime"], apart := false, laid := [("avouch/field.prime", laid_avouch_field_prime), ("avouch/field.raise", laid_avouch_field_raise)], narrowed := true }
def PoseidonConstantsUptoSaid : Prop := poseidonConstantsUptoRow.holds Tryz.pinned (OpenSpec.upto poseidonConstantsSpec)

/-- 'avouchlaw10.PoseidonUnlike', WHERE WHAT IT READS IS OF BULK AT MOST 1048576: true; the input reads as it did. -/
def poseidonUnlikeUptoRow : OpenClaim := { program := "ytdepkfdceidikaagreatdoor", sum := "a5bbb094f7e2c2377a010e373e75259101d99849737141e850dad4e08d9b281e", func := "avouch/avouchlaw10.PoseidonUnlike", spec := "poseidonUnlike", inPlace := ["math/bits.Add64", "math/bits.Sub64", "sync/atomic.LoadUint32", "(*internal/sync.Mutex).Lock", "internal/race.Disable", "sync/atomic.CompareAndSwapInt32", "internal/race.Enable", "internal/race.Acquire", "(*internal/sync.Mutex).lockSlow", "internal/sync.runtime_canSpin", "internal/sync.runtime_doSpin", "internal/sync.throw", "internal/sync.runtime_nanotime", "internal/sync.runtime_SemacquireMutex", "sync/atomic.AddInt32", "(*internal/sync.Mutex).Unlock", "internal/race.ReleaseMerge", "(*internal/sync.Mutex).unlockSlow", "internal/sync.fatal", "internal/sync.runtime_Semrelease", "sync/atomic.StoreUint32"], unfollowed := true, recurses := true, named := ["avouch/field.raise", "avouch/field.prime", "math/bits.divideError", "math/bits.overflowError"], apart := false, laid := [("avouch/field.prime", laid_avouch_field_prime), ("avouch/field.raise", laid_avouch_field_raise)], narrowed := true }
def PoseidonUnlikeUptoSaid : Prop := poseidonUnlikeUptoRow.holds Tryz.pinned (OpenSpec.upto poseidonUnlikeSpec)

/-- 'avouchlaw10.PoseidonSteps', WHERE WHAT IT READS IS OF BULK AT MOST 1048576: true; the input reads as it did. -/
def poseidonStepsUptoRow : OpenClaim := { program := "ytdepkfdceidikaagreatdoor", sum := "a5bbb094f7e2c2377a010e373e75259101d99849737141e850dad4e08d9b281e", func := "avouch/avouchlaw10.PoseidonSteps", spec := "poseidonSteps", inPlace := ["math/bits.Add64", "math/bits.Sub64", "sync/atomic.LoadUint32", "(*internal/sync.Mutex).Lock", "internal/race.Disable", "sync/atomic.CompareAndSwapInt32", "internal/race.Enable", "internal/race.Acquire", "(*internal/sync.Mutex).lockSlow", "internal/sync.runtime_canSpin", "internal/sync.runtime_doSpin", "internal/sync.throw", "internal/sync.runtime_nanotime", "internal/sync.runtime_SemacquireMutex", "sync/atomic.AddInt32", "(*internal/sync.Mutex).Unlock", "internal/race.ReleaseMerge", "(*internal/sync.Mutex).unlockSlow", "internal/sync.fatal", "internal/sync.runtime_Semrelease", "sync/atomic.StoreUint32"], unfollowed := true, recurses := true, named := ["avouch/field.raise", "avouch/field.prime", "math/bits.divideError", "math/bits.overflowError"], apart := false, laid := [("avouch/field.prime", laid_avouch_field_prime), ("avouch/field.raise", laid_avouch_field_raise)], narrowed := true }
def PoseidonStepsUptoSaid : Prop := poseidonStepsUptoRow.holds Tryz.pinned (OpenSpec.upto poseidonStepsSpec)

end Rows
end Go.Proofs.YtdepkfdceidikaaGreatDoor
