/-
  A state's bits as a value and in memory (1600 cells): how it begins and ends. Helpers for the walks of avouchref06.
-/
import Derived.Test.YteogjnendkbjcaaDoorKPc
namespace Go.Proofs.YteogjnendkbjcaaDoor
open Go.RowKit
set_option linter.unusedVariables false

theorem zeroB (v : World) : (zeroValue 60).run Tryd.prog v = .ok (.agg (kcell kzero).toArray) v := by kernel_rfl
theorem sizeB : (Tryd.prog.info? 60).map (·.size) = some 1600 := by kernel_rfl
theorem sizeW25 : (Tryd.prog.info? 30).map (·.size) = some 25 := by kernel_rfl
theorem sizeB_k (a : KB) : (Tryd.prog.info? 60).map (·.size) = some (kcell a).length := sizeB.trans (congrArg some (kcell_len a).symm)
/-- The bits as a value. -/
def bt (a : KB) : Value := .agg (kcell a).toArray
/-- A block of a state's bits. -/
def oB (a : KB) : Obj := .cells (kcell a).toArray 60
abbrev BB (w : World) (b : Nat) (a : KB) : Prop := BlkV w b 60 (kcell a)
theorem oB_new (w : World) (a : KB) : BB (w.alloc (oB a)) w.heap.size a := BlkV.new w _ _
theorem BB.cellk {w : World} {b : Nat} {a : KB} (h : BB w b a) {x y z : Nat} (hx : x < 5) (hy : y < 5) (hz : z < 64) : w.cell? ⟨b, x * 320 + y * 64 + z, none⟩ = some (.bool (a x y z)) := by
  rw [show x * 320 + y * 64 + z = 320 * x + 64 * y + z by omega]
  have hi : 320 * x + 64 * y + z < (kcell a).length := by rw [kcell_len]; omega
  rw [h.cell hi, ← kcell_get a hx hy hz, List.getElem?_eq_getElem hi]
theorem BB.setk {w : World} {b : Nat} {a : KB} (h : BB w b a) {x y z : Nat} (hx : x < 5) (hy : y < 5) (hz : z < 64) (v : Bool) : BB (w.setCell ⟨b, x * 320 + y * 64 + z, none⟩ (.bool v)) b (kset a x y z v) := by
  rw [show x * 320 + y * 64 + z = 320 * x + 64 * y + z by omega]
  have := BlkV.set h (320 * x + 64 * y + z) (.bool v)
  rw [kcell_set a hx hy hz v] at this
  exact this
theorem storeB {w : World} {b : Nat} {a : KB} (c : KB) (h : BB w b a) : (storeCells ⟨b, 0, none⟩ (kcell c)).run Tryd.prog w = .ok () (w.setCells b 0 (kcell c)) :=
  storeV (kcell c) 0 h (by rw [kcell_len, kcell_len]; exact Nat.le_refl _) (kcell_one c)
theorem BB.over {w : World} {b : Nat} {a : KB} (c : KB) (h : BB w b a) : BB (w.setCells b 0 (kcell c)) b c := BlkV.whole (kcell c) h (by rw [kcell_len, kcell_len])
theorem BB.bt_result {fn : Func} {p : Tmp} {w : World} {tmps : Array Value} {b : Nat} {a : KB} (hr : BB w b a) (h : fn.results = #[.cell p 60]) (hp : tmps.getD p undef = .pointer (some ⟨b, 0, none⟩)) :
    (results fn tmps).run Tryd.prog w = .ok (bt a) w :=
  results_cell1 h ⟨b, 0, none⟩ _ hp (run_loadVar_mid _ b 0 60 (kcell a) _ hr.range Tryd.underlying60 rfl (sizeB_k a))
theorem BB.eq {w : World} {b : Nat} {a c : KB} (h : BB w b a) (e : KEq a c) : BB w b c := by
  unfold BB at *
  rw [← kcell_eq e]
  exact h
/-- Bits boxed, room for the result, and the result as it is made. -/
theorem bootB (w : World) (a : KB) : BB ((((w.alloc (oB a)).alloc (oB kzero)).alloc (oB kzero)).setCells (w.heap.size + 1 + 1) 0 (kcell kzero)) w.heap.size a ∧
    BB ((((w.alloc (oB a)).alloc (oB kzero)).alloc (oB kzero)).setCells (w.heap.size + 1 + 1) 0 (kcell kzero)) (w.heap.size + 1) kzero ∧
    BB ((((w.alloc (oB a)).alloc (oB kzero)).alloc (oB kzero)).setCells (w.heap.size + 1 + 1) 0 (kcell kzero)) (w.heap.size + 1 + 1) kzero ∧
    Below w.heap.size w ((((w.alloc (oB a)).alloc (oB kzero)).alloc (oB kzero)).setCells (w.heap.size + 1 + 1) 0 (kcell kzero)) ∧
    (storeCells ⟨w.heap.size + 1 + 1, 0, none⟩ (kcell kzero)).run Tryd.prog (((w.alloc (oB a)).alloc (oB kzero)).alloc (oB kzero)) = .ok () ((((w.alloc (oB a)).alloc (oB kzero)).alloc (oB kzero)).setCells (w.heap.size + 1 + 1) 0 (kcell kzero)) := by
  have e1 : (w.alloc (oB a)).heap.size = w.heap.size + 1 := by simp
  have e2 : ((w.alloc (oB a)).alloc (oB kzero)).heap.size = w.heap.size + 1 + 1 := by simp
  have h1 := ((oB_new w a).alloc (oB kzero)).alloc (oB kzero)
  have h2 := (oB_new (w.alloc (oB a)) kzero).alloc (oB kzero)
  have h3 := oB_new ((w.alloc (oB a)).alloc (oB kzero)) kzero
  rw [e1] at h2
  rw [e2] at h3
  exact ⟨BlkV.put (by omega) _ _ _ h1, BlkV.put (by omega) _ _ _ h2, h3.over kzero, below_cells (by omega) _ _ _ ((((Below.refl _ _).alloc (Nat.le_refl _) _).alloc (by omega) _).alloc (by omega) _), storeB kzero h3⟩
end Go.Proofs.YteogjnendkbjcaaDoor
