import Derived.Test.YteogjnendkbjcaaDoorRefA
import Derived.Test.YteogjnendkbjcaaDoorBlkV
/-
  A state's bits as cells: read and written at a place; numbers bit by bit.
-/
namespace Go.Proofs.YteogjnendkbjcaaDoor
open Go.RowKit
set_option linter.unusedVariables false

/-- The cells of a state's bits. -/
def kcell (a : KB) : List Value := (List.range 1600).map fun k => .bool (a (k / 320) (k / 64 % 5) (k % 64))
theorem kcell_len (a : KB) : (kcell a).length = 1600 := by unfold kcell; rw [List.length_map, List.length_range]
theorem kcell_at (a : KB) {k : Nat} (h : k < 1600) : (kcell a)[k]? = some (.bool (a (k / 320) (k / 64 % 5) (k % 64))) := by
  unfold kcell
  rw [List.getElem?_map, List.getElem?_range h]
  rfl
theorem kcell_get (a : KB) {x y z : Nat} (hx : x < 5) (hy : y < 5) (hz : z < 64) : (kcell a)[320 * x + 64 * y + z]? = some (.bool (a x y z)) := by
  rw [kcell_at a (by omega), show (320 * x + 64 * y + z) / 320 = x by omega, show (320 * x + 64 * y + z) / 64 % 5 = y by omega, show (320 * x + 64 * y + z) % 64 = z by omega]
theorem kcell_eq {a b : KB} (h : KEq a b) : kcell a = kcell b := by
  apply List.ext_getElem?
  intro k
  rcases Nat.lt_or_ge k 1600 with hk | hk
  · rw [kcell_at a hk, kcell_at b hk, h _ _ _ (by omega) (by omega) (by omega)]
  · rw [List.getElem?_eq_none (by rw [kcell_len]; exact hk), List.getElem?_eq_none (by rw [kcell_len]; exact hk)]
theorem kcell_inj {a b : KB} (h : kcell a = kcell b) : KEq a b := fun x y z hx hy hz => by
  have h1 := kcell_get a hx hy hz
  rw [h, kcell_get b hx hy hz] at h1
  exact (Value.bool.inj (Option.some.inj h1)).symm
/-- One bit set. -/
def kset (a : KB) (x y z : Nat) (v : Bool) : KB := fun x' y' z' => if x' = x ∧ y' = y ∧ z' = z then v else a x' y' z'
theorem kcell_set (a : KB) {x y z : Nat} (hx : x < 5) (hy : y < 5) (hz : z < 64) (v : Bool) : (kcell a).set (320 * x + 64 * y + z) (.bool v) = kcell (kset a x y z v) := by
  apply List.ext_getElem?
  intro k
  rcases Nat.lt_or_ge k 1600 with hk | hk
  · rw [kcell_at _ hk]
    by_cases e : 320 * x + 64 * y + z = k
    · rw [← e, List.getElem?_set_self (by rw [kcell_len]; omega)]
      unfold kset
      rw [if_pos ⟨by omega, by omega, by omega⟩]
    · rw [List.getElem?_set_ne e, kcell_at a hk]
      unfold kset
      rw [if_neg (fun h => e (by omega))]
  · rw [List.getElem?_eq_none (by rw [List.length_set, kcell_len]; exact hk), List.getElem?_eq_none (by rw [kcell_len]; exact hk)]
theorem kcell_one (a : KB) : ∀ v ∈ kcell a, v.oneCell' = true := by
  intro v hv
  unfold kcell at hv
  obtain ⟨k, _, rfl⟩ := List.mem_map.1 hv
  rfl
/-- All 0. -/
def kzero : KB := fun _ _ _ => false
theorem kcell_zero : kcell kzero = List.replicate 1600 (.bool false) := by
  apply List.ext_getElem?
  intro k
  rcases Nat.lt_or_ge k 1600 with hk | hk
  · rw [kcell_at _ hk, List.getElem?_replicate, if_pos hk]
    rfl
  · rw [List.getElem?_eq_none (by rw [kcell_len]; exact hk), List.getElem?_replicate, if_neg (by omega)]
/-- A number, its lowest bit, and the rest. -/
theorem kbit_low (v : Nat) : v % 2 = if v.testBit 0 then 1 else 0 := by
  rw [Nat.testBit_zero]
  by_cases h : v % 2 = 1
  · rw [decide_eq_true h, if_pos rfl, h]
  · rw [decide_eq_false h, if_neg (by decide)]; omega
theorem kbit_at (v z : Nat) : (v / 2 ^ z) % 2 = if v.testBit z then 1 else 0 := by
  rw [kbit_low, Nat.testBit_div_two_pow, Nat.zero_add]
theorem kbit_up (v z : Nat) : v / 2 ^ z = 2 * (v / 2 ^ (z + 1)) + if v.testBit z then 1 else 0 := by
  rw [← kbit_at, Nat.pow_succ, ← Nat.div_div_eq_div_mul, Nat.div_add_mod]
end Go.Proofs.YteogjnendkbjcaaDoor
/-
  How rho walks over the lanes, how theta counts: plain arithmetic, nothing of the program.
-/
namespace Go.Proofs.YteogjnendkbjcaaDoor
set_option linter.unusedVariables false

/-- The lanes that rho comes to, one after the other. -/
def kx : Nat → Nat × Nat
  | 0 => (1, 0)
  | t + 1 => ((kx t).2, (2 * (kx t).1 + 3 * (kx t).2) % 5)
theorem kx_lt : ∀ t, (kx t).1 < 5 ∧ (kx t).2 < 5
  | 0 => by decide
  | t + 1 => ⟨(kx_lt t).2, Nat.mod_lt _ (by decide)⟩
theorem kx_off {t : Nat} (h : t < 24) : koff.getD ((kx t).1 + 5 * (kx t).2) 0 = (t + 1) * (t + 2) / 2 % 64 := by
  have key : ∀ t : Fin 24, koff.getD ((kx t.val).1 + 5 * (kx t.val).2) 0 = (t.val + 1) * (t.val + 2) / 2 % 64 := by decide +kernel
  exact key ⟨t, h⟩
theorem kx_all {x y : Nat} (hx : x < 5) (hy : y < 5) (h : ¬ (x = 0 ∧ y = 0)) : ∃ s, s < 24 ∧ kx s = (x, y) := by
  have key : ∀ x : Fin 5, ∀ y : Fin 5, (decide (x.val = 0 ∧ y.val = 0) || (List.range 24).any fun s => kx s == (x.val, y.val)) = true := by decide +kernel
  have k := key ⟨x, hx⟩ ⟨y, hy⟩
  rw [Bool.or_eq_true, decide_eq_true_eq] at k
  rcases k with k | k
  · exact absurd k h
  · obtain ⟨s, hs, e⟩ := List.any_eq_true.1 k
    exact ⟨s, List.mem_range.1 hs, eq_of_beq e⟩
theorem kx_ne {s t : Nat} (hs : s < t) (ht : t < 24) : kx s ≠ kx t := by
  have key : ∀ t : Fin 24, ∀ s : Fin 24, (decide (s.val < t.val) && (kx s.val == kx t.val)) = false := by decide +kernel
  have k := key ⟨t, ht⟩ ⟨s, by omega⟩
  intro e
  rw [decide_eq_true hs, e, Bool.true_and, beq_self_eq_true] at k
  cases k
theorem kx_zero {t : Nat} (ht : t < 24) : kx t ≠ (0, 0) := by
  have key : ∀ t : Fin 24, (kx t.val == (0, 0)) = false := by decide +kernel
  intro e
  have k := key ⟨t, ht⟩
  rw [e] at k
  cases k
/-- What rho has laid down behind t lanes. -/
def krho_at (a : KB) (t : Nat) : KB := fun x y z => if (x = 0 ∧ y = 0) ∨ ∃ s, s < t ∧ kx s = (x, y) then krh a x y z else false
theorem krho_end (a : KB) : KEq (krho_at a 24) (krh a) := fun x y z hx hy hz => by
  unfold krho_at
  by_cases h : x = 0 ∧ y = 0
  · rw [if_pos (Or.inl h)]
  · rw [if_pos (Or.inr (kx_all hx hy h))]
/-- A count of five bits. -/
theorem count5 (p0 p1 p2 p3 p4 : Bool) : (((if p0 then 1 else 0) + (if p1 then 1 else 0) + (if p2 then 1 else 0) + (if p3 then 1 else 0) + (if p4 then 1 else 0)) % 2 == 1) = (p0 ^^ (p1 ^^ (p2 ^^ (p3 ^^ p4)))) := by
  cases p0 <;> cases p1 <;> cases p2 <;> cases p3 <;> cases p4 <;> rfl
end Go.Proofs.YteogjnendkbjcaaDoor
