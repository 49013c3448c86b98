/-
  A state's bits as cells: read and written at a place; numbers bit by bit.
-/
import Derived.Test.YtpilbpkblcmngaaDoorKecD
import Derived.Test.YtpilbpkblcmngaaDoorBlkV
namespace Go.Proofs.YtpilbpkblcmngaaDoor
open Go.RowKit
set_option linter.unusedVariables false

/-- The cells of a state's bits. -/
def kcell (a : KB) : List Value := (List.range 1600).map fun k => .bool (a (k / 320) (k / 64 % 5) (k % 64))
theorem kcell_len (a : KB) : (kcell a).length = 1600 := by unfold kcell; rw [List.length_map, List.length_range]
theorem kcell_at (a : KB) {k : Nat} (h : k < 1600) : (kcell a)[k]? = some (.bool (a (k / 320) (k / 64 % 5) (k % 64))) := by
  unfold kcell
  rw [List.getElem?_map, List.getElem?_range h]
  rfl
theorem kcell_get (a : KB) {x y z : Nat} (hx : x < 5) (hy : y < 5) (hz : z < 64) : (kcell a)[320 * x + 64 * y + z]? = some (.bool (a x y z)) := by
  rw [kcell_at a (by omega), show (320 * x + 64 * y + z) / 320 = x by omega, show (320 * x + 64 * y + z) / 64 % 5 = y by omega, show (320 * x + 64 * y + z) % 64 = z by omega]
theorem kcell_eq {a b : KB} (h : KEq a b) : kcell a = kcell b := by
  apply List.ext_getElem?
  intro k
  rcases Nat.lt_or_ge k 1600 with hk | hk
  · rw [kcell_at a hk, kcell_at b hk, h _ _ _ (by omega) (by omega) (by omega)]
  · rw [List.getElem?_eq_none (by rw [kcell_len]; exact hk), List.getElem?_eq_none (by rw [kcell_len]; exact hk)]
theorem kcell_inj {a b : KB} (h : kcell a = kcell b) : KEq a b := fun x y z hx hy hz => by
  have h1 := kcell_get a hx hy hz
  rw [h, kcell_get b hx hy hz] at h1
  exact (Value.bool.inj (Option.some.inj h1)).symm
/-- One bit set. -/
def kset (a : KB) (x y z : Nat) (v : Bool) : KB := fun x' y' z' => if x' = x ∧ y' = y ∧ z' = z then v else a x' y' z'
theorem kcell_set (a : KB) {x y z : Nat} (hx : x < 5) (hy : y < 5) (hz : z < 64) (v : Bool) : (kcell a).set (320 * x + 64 * y + z) (.bool v) = kcell (kset a x y z v) := by
  apply List.ext_getElem?
  intro k
  rcases Nat.lt_or_ge k 1600 with hk | hk
  · rw [kcell_at _ hk]
    by_cases e : 320 * x + 64 * y + z = k
    · rw [← e, List.getElem?_set_self (by rw [kcell_len]; omega)]
      unfold kset
      rw [if_pos ⟨by omega, by omega, by omega⟩]
    · rw [List.getElem?_set_ne e, kcell_at a hk]
      unfold kset
      rw [if_neg (fun h => e (by omega))]
  · rw [List.getElem?_eq_none (by rw [List.length_set, kcell_len]; exact hk), List.getElem?_eq_none (by rw [kcell_len]; exact hk)]
theorem kcell_one (a : KB) : ∀ v ∈ kcell a, v.oneCell' = true := by
  intro v hv
  unfold kcell at hv
  obtain ⟨k, _, rfl⟩ := List.mem_map.1 hv
  rfl
/-- All 0. -/
def kzero : KB := fun _ _ _ => false
theorem kcell_zero : kcell kzero = List.replicate 1600 (.bool false) := by
  apply List.ext_getElem?
  intro k
  rcases Nat.lt_or_ge k 1600 with hk | hk
  · rw [kcell_at _ hk, List.getElem?_replicate, if_pos hk]
    rfl
  · rw [List.getElem?_eq_none (by rw [kcell_len]; exact hk), List.getElem?_replicate, if_neg (by omega)]
/-- A number, its lowest bit, and the rest. -/
theorem kbit_low (v : Nat) : v % 2 = if v.testBit 0 then 1 else 0 := by
  rw [Nat.testBit_zero]
  by_cases h : v % 2 = 1
  · rw [decide_eq_true h, if_pos rfl, h]
  · rw [decide_eq_false h, if_neg (by decide)]; omega
theorem kbit_at (v z : Nat) : (v / 2 ^ z) % 2 = if v.testBit z then 1 else 0 := by
  rw [kbit_low, Nat.testBit_div_two_pow, Nat.zero_add]
theorem kbit_up (v z : Nat) : v / 2 ^ z = 2 * (v / 2 ^ (z + 1)) + if v.testBit z then 1 else 0 := by
  rw [← kbit_at, Nat.pow_succ, ← Nat.div_div_eq_div_mul, Nat.div_add_mod]
end Go.Proofs.YtpilbpkblcmngaaDoor
