/-
  (*Modulus).Sub, Exp: what each call does.
-/
import Derived.Test.YtpjjobophplleaaDoorLOpsB
namespace Go.Proofs.YtpjjobophplleaaDoor
open Go.RowKit
set_option linter.unusedVariables false

theorem bit_mod64 (x j : Nat) (hj : j < 64) : x % 18446744073709551616 / 2 ^ j % 2 = x / 2 ^ j % 2 := by
  have e : (18446744073709551616 : Nat) = 2 ^ j * (2 * 2 ^ (63 - j)) := by
    rw [← Nat.pow_succ', ← Nat.pow_add, show j + (63 - j).succ = 64 by omega]
  rw [e, Nat.mod_mul_right_div_self, Nat.mod_mul_right_mod]
theorem bit_at64 (l : List Nat) (h : allLt l) (k : Nat) : l.getD (k / 64) 0 / 2 ^ (k % 64) % 2 = val 18446744073709551616 l / 2 ^ k % 2 := by
  rw [← digit_at 18446744073709551616 (by decide) l h (k / 64), bit_mod64 _ _ (Nat.mod_lt _ (by decide))]
  have e : val 18446744073709551616 l / 2 ^ k = val 18446744073709551616 l / 18446744073709551616 ^ (k / 64) / 2 ^ (k % 64) := by
    rw [Nat.div_div_eq_div_mul, show (18446744073709551616 : Nat) = 2 ^ 64 by decide, ← Nat.pow_mul, ← Nat.pow_add, Nat.div_add_mod]
  rw [e]
theorem blen_lt (n : Nat) : n < 2 ^ blen n := by
  unfold blen
  split
  · subst_vars; decide
  · exact Nat.lt_log2_self
theorem blen_le {n k : Nat} (h : n < 2 ^ k) : blen n ≤ k := by
  unfold blen
  split
  · omega
  · rename_i h0
    exact (Nat.log2_lt h0).2 h
/-- One step of a power. -/
theorem pow_step (a E k M b : Nat) (hb : E / 2 ^ k % 2 = b) : (a ^ (E / 2 ^ (k + 1)) % M) * (a ^ (E / 2 ^ (k + 1)) % M) % M * (if b = 1 then a % M else 1) % M = a ^ (E / 2 ^ k) % M := by
  have e : E / 2 ^ k = 2 * (E / 2 ^ (k + 1)) + b := by
    rw [Nat.pow_succ, ← Nat.div_div_eq_div_mul]; omega
  generalize E / 2 ^ (k + 1) = q at e ⊢
  have e2 : a ^ (2 * q + b) = a ^ q * a ^ q * a ^ b := by rw [Nat.pow_add, Nat.two_mul, Nat.pow_add]
  rw [e, e2, ← Nat.mul_mod]
  have hb2 : b = 0 ∨ b = 1 := by omega
  rcases hb2 with rfl | rfl
  · simp
  · rw [if_pos rfl, Nat.pow_one, ← Nat.mul_mod]

theorem and_one (x s : Nat) (hx : x < 18446744073709551616) : bits .and .u64 ((x : Int) / 2 ^ s) 1 = ((x / 2 ^ s % 2 : Nat) : Int) := by
  have e2 : (x : Int) / 2 ^ s = ((x / 2 ^ s : Nat) : Int) := by
    rw [show ((2 : Int) ^ s) = ((2 ^ s : Nat) : Int) by simp, ← Int.natCast_ediv]
  have hb : x / 2 ^ s < 18446744073709551616 := Nat.lt_of_le_of_lt (Nat.div_le_self _ _) hx
  have h := bits_and_u64_nat (x / 2 ^ s) 1 hb (by omega)
  rw [Nat.and_one_is_mod] at h
  rw [e2]
  exact h

end Go.Proofs.YtpjjobophplleaaDoor
