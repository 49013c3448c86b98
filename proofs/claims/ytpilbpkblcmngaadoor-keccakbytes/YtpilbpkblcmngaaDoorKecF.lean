/-
  How rho walks over the lanes, how theta counts: plain arithmetic, nothing of the program.
-/
import Derived.Test.YtpilbpkblcmngaaDoorKecE
namespace Go.Proofs.YtpilbpkblcmngaaDoor
set_option linter.unusedVariables false

/-- The lanes that rho comes to, one after the other. -/
def kx : Nat → Nat × Nat
  | 0 => (1, 0)
  | t + 1 => ((kx t).2, (2 * (kx t).1 + 3 * (kx t).2) % 5)
theorem kx_lt : ∀ t, (kx t).1 < 5 ∧ (kx t).2 < 5
  | 0 => by decide
  | t + 1 => ⟨(kx_lt t).2, Nat.mod_lt _ (by decide)⟩
theorem kx_off {t : Nat} (h : t < 24) : koff.getD ((kx t).1 + 5 * (kx t).2) 0 = (t + 1) * (t + 2) / 2 % 64 := by
  have key : ∀ t : Fin 24, koff.getD ((kx t.val).1 + 5 * (kx t.val).2) 0 = (t.val + 1) * (t.val + 2) / 2 % 64 := by decide +kernel
  exact key ⟨t, h⟩
theorem kx_all {x y : Nat} (hx : x < 5) (hy : y < 5) (h : ¬ (x = 0 ∧ y = 0)) : ∃ s, s < 24 ∧ kx s = (x, y) := by
  have key : ∀ x : Fin 5, ∀ y : Fin 5, (decide (x.val = 0 ∧ y.val = 0) || (List.range 24).any fun s => kx s == (x.val, y.val)) = true := by decide +kernel
  have k := key ⟨x, hx⟩ ⟨y, hy⟩
  rw [Bool.or_eq_true, decide_eq_true_eq] at k
  rcases k with k | k
  · exact absurd k h
  · obtain ⟨s, hs, e⟩ := List.any_eq_true.1 k
    exact ⟨s, List.mem_range.1 hs, eq_of_beq e⟩
theorem kx_ne {s t : Nat} (hs : s < t) (ht : t < 24) : kx s ≠ kx t := by
  have key : ∀ t : Fin 24, ∀ s : Fin 24, (decide (s.val < t.val) && (kx s.val == kx t.val)) = false := by decide +kernel
  have k := key ⟨t, ht⟩ ⟨s, by omega⟩
  intro e
  rw [decide_eq_true hs, e, Bool.true_and, beq_self_eq_true] at k
  cases k
theorem kx_zero {t : Nat} (ht : t < 24) : kx t ≠ (0, 0) := by
  have key : ∀ t : Fin 24, (kx t.val == (0, 0)) = false := by decide +kernel
  intro e
  have k := key ⟨t, ht⟩
  rw [e] at k
  cases k
/-- What rho has laid down behind t lanes. -/
def krho_at (a : KB) (t : Nat) : KB := fun x y z => if (x = 0 ∧ y = 0) ∨ ∃ s, s < t ∧ kx s = (x, y) then krh a x y z else false
theorem krho_end (a : KB) : KEq (krho_at a 24) (krh a) := fun x y z hx hy hz => by
  unfold krho_at
  by_cases h : x = 0 ∧ y = 0
  · rw [if_pos (Or.inl h)]
  · rw [if_pos (Or.inr (kx_all hx hy h))]
/-- A count of five bits. -/
theorem count5 (p0 p1 p2 p3 p4 : Bool) : (((if p0 then 1 else 0) + (if p1 then 1 else 0) + (if p2 then 1 else 0) + (if p3 then 1 else 0) + (if p4 then 1 else 0)) % 2 == 1) = (p0 ^^ (p1 ^^ (p2 ^^ (p3 ^^ p4)))) := by
  cases p0 <;> cases p1 <;> cases p2 <;> cases p3 <;> cases p4 <;> rfl
end Go.Proofs.YtpilbpkblcmngaaDoor
