/-
  bits.Div64 (by a divisor whose highest bit is set), limb.guess: what each call does.
-/
import Derived.Test.YtpjjobophplleaaDoorLNew
import Derived.Test.YtpjjobophplleaaDoorLMul
import Derived.Deep.CutBlock
import Derived.Deep.DeepCutAuto
import Derived.Deep.QuietTactic
import Derived.BigQuiet
namespace Go.Proofs.YtpjjobophplleaaDoor
open Go.RowKit
set_option linter.unusedVariables false

/-- A guessed digit of a quotient, and what is left. -/
def DI (n v1 v0 u q r : Nat) : Prop := q * v1 + r = n ∧ (n * 4294967296 + u) / (v1 * 4294967296 + v0) ≤ q ∧ q ≤ 4294967297
theorem di_more {n v1 v0 u q r : Nat} (h : DI n v1 v0 u q r) (hv : 0 < v1) (hv0 : v0 < 4294967296) (hn : n < v1 * 4294967296 + v0) (hu : u < 4294967296) (ht : 4294967296 ≤ q ∨ 4294967296 * r + u < q * v0) : (n * 4294967296 + u) / (v1 * 4294967296 + v0) < q := by
  rw [Nat.div_lt_iff_lt_mul (by omega)]
  obtain ⟨h1, _, _⟩ := h
  rcases ht with ht | ht
  · have h2 : 4294967296 * (v1 * 4294967296 + v0) ≤ q * (v1 * 4294967296 + v0) := Nat.mul_le_mul_right _ ht
    omega
  · have e : q * (v1 * 4294967296 + v0) = q * v1 * 4294967296 + q * v0 := by rw [Nat.mul_add, Nat.mul_assoc]
    rw [e]; omega
theorem di_done {n v1 v0 u q r : Nat} (h : DI n v1 v0 u q r) (hv : 0 < v1) (ht : q * v0 ≤ 4294967296 * r + u) : q = (n * 4294967296 + u) / (v1 * 4294967296 + v0) := by
  obtain ⟨h1, h2, _⟩ := h
  refine Nat.le_antisymm ?_ h2
  rw [Nat.le_div_iff_mul_le (by omega)]
  have e : q * (v1 * 4294967296 + v0) = q * v1 * 4294967296 + q * v0 := by rw [Nat.mul_add, Nat.mul_assoc]
  rw [e]; omega
theorem di_step {n v1 v0 u q r : Nat} (h : DI n v1 v0 u q r) (hm : (n * 4294967296 + u) / (v1 * 4294967296 + v0) < q) : DI n v1 v0 u (q - 1) (r + v1) := by
  obtain ⟨h1, h2, h3⟩ := h
  have hq0 : 0 < q := Nat.lt_of_le_of_lt (Nat.zero_le _) hm
  obtain ⟨p, rfl⟩ : ∃ p, q = p + 1 := ⟨q - 1, by omega⟩
  refine ⟨?_, by omega, by omega⟩
  rw [Nat.add_mul] at h1
  show p * v1 + (r + v1) = n
  omega
theorem di_out {n v1 v0 u q r : Nat} (h : DI n v1 v0 u q r) (hv : 0 < v1) (hv0 : v0 < 4294967296) (hq : q ≤ 4294967296) (hr : 4294967296 ≤ r) : q = (n * 4294967296 + u) / (v1 * 4294967296 + v0) := by
  refine di_done h hv ?_
  have : q * v0 ≤ 4294967296 * 4294967295 := Nat.mul_le_mul hq (by omega)
  omega
theorem di_start (n v1 v0 u : Nat) (hv : 2147483648 ≤ v1) (hv0 : v0 < 4294967296) (hn : n < v1 * 4294967296 + v0) (hu : u < 4294967296) : DI n v1 v0 u (n / v1) (n % v1) := by
  refine ⟨by rw [Nat.mul_comm]; exact Nat.div_add_mod _ _, ?_, ?_⟩
  · apply Nat.le_of_lt_succ
    rw [Nat.div_lt_iff_lt_mul (by omega)]
    have h1 := Nat.div_add_mod n v1
    have h2 := Nat.mod_lt n (show 0 < v1 by omega)
    have e : (n / v1).succ * (v1 * 4294967296 + v0) = (v1 * (n / v1) + v1) * 4294967296 + (n / v1).succ * v0 := by
      rw [Nat.succ_mul, Nat.succ_mul, Nat.mul_add]; grind
    rw [e]
    have h3 : n + 1 ≤ v1 * (n / v1) + v1 := by omega
    have h4 : (n + 1) * 4294967296 ≤ (v1 * (n / v1) + v1) * 4294967296 := Nat.mul_le_mul_right _ h3
    omega
  · apply Nat.le_of_lt_succ
    rw [Nat.div_lt_iff_lt_mul (by omega)]
    omega

theorem or_zero (a : Nat) (h : a < 18446744073709551616) (lo : Nat) (hl : lo < 18446744073709551616) : bits .or .u64 (a : Int) ((lo : Int) / 18446744073709551616) = (a : Int) := by
  have e : (lo : Int) / 18446744073709551616 = ((0 : Nat) : Int) := by omega
  have := bits_or_u64_nat a 0 h (by omega)
  rw [e, this]; simp
theorem d_quot (n v : Nat) (hn : n < 18446744073709551616) : IntKind.u64.wrap ((n : Int).tdiv (v : Int)) = ((n / v : Nat) : Int) := by
  have h1 : n / v ≤ n := Nat.div_le_self _ _
  rw [Int.tdiv_eq_ediv_of_nonneg (by omega), ← Int.natCast_ediv, IntKind.wrap_u64]
  generalize n / v = z at h1 ⊢
  omega
theorem d_rest (n v : Nat) (hn : n < 18446744073709551616) : IntKind.u64.wrap ((n : Int) - IntKind.u64.wrap (((n / v : Nat) : Int) * (v : Int))) = ((n % v : Nat) : Int) := by
  have h1 := Nat.div_add_mod n v
  have h2 : n / v * v ≤ n := Nat.div_mul_le_self n v
  rw [Nat.mul_comm] at h1
  rw [← Int.natCast_mul, IntKind.wrap_u64, IntKind.wrap_u64]
  generalize n / v * v = z at h1 h2 ⊢
  omega

theorem d_un (n u q y R : Nat) (h : q * y + R = n * 4294967296 + u) (hR : R < 18446744073709551616) :
    IntKind.u64.wrap (IntKind.u64.wrap (IntKind.u64.wrap ((n : Int) * 4294967296) + u) - IntKind.u64.wrap ((q : Int) * y)) = (R : Int) := by
  rw [← Int.natCast_mul]
  simp only [IntKind.wrap_u64]
  generalize q * y = z at h ⊢
  omega
theorem d_last (n u y d q1 R1 q2 : Nat) (hy : y = d) (h1 : q1 = (n * 4294967296 + u / 4294967296) / d) (h2 : q1 * y + R1 = n * 4294967296 + u / 4294967296) (h3 : q2 = (R1 * 4294967296 + u % 4294967296) / d) (hd : 0 < d) :
    q1 * 4294967296 + q2 = (n * 18446744073709551616 + u) / y := by
  subst hy
  have e : n * 18446744073709551616 + u = q1 * 4294967296 * y + (R1 * 4294967296 + u % 4294967296) := by
    have e1 : q1 * 4294967296 * y = q1 * y * 4294967296 := by rw [Nat.mul_right_comm]
    rw [e1]
    generalize q1 * y = z at h2
    omega
  rw [e, Nat.add_comm (q1 * 4294967296 * y), Nat.add_mul_div_right _ _ hd, h3, Nat.add_comm]

/-- The guessed word of a quotient. -/
def guessN (hi lo y : Nat) : Nat := if y ≤ hi then 18446744073709551615 else (hi * 18446744073709551616 + lo) / y
theorem guessN_lt (hi lo y : Nat) (hlo : lo < 18446744073709551616) : guessN hi lo y < 18446744073709551616 := by
  unfold guessN
  split
  · omega
  · rw [Nat.div_lt_iff_lt_mul (by omega)]
    have : (hi + 1) * 18446744073709551616 ≤ y * 18446744073709551616 := Nat.mul_le_mul_right _ (by omega)
    rw [Nat.mul_comm 18446744073709551616 y]
    omega

end Go.Proofs.YtpjjobophplleaaDoor
