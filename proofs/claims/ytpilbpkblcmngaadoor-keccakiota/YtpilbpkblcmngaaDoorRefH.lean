/-
  avouchref01.Bit, Exp, Bits: what each call does.
-/
import Derived.Test.YtpilbpkblcmngaaDoorRefG
namespace Go.Proofs.YtpilbpkblcmngaaDoor
open Go.RowKit
set_option linter.unusedVariables false

theorem bit_mod (x j : Nat) (hj : j < 32) : x % 4294967296 / 2 ^ j % 2 = x / 2 ^ j % 2 := by
  have e : (4294967296 : Nat) = 2 ^ j * (2 * 2 ^ (31 - j)) := by
    rw [← Nat.pow_succ', ← Nat.pow_add, show j + (31 - j).succ = 32 by omega]
  rw [e, Nat.mod_mul_right_div_self, Nat.mod_mul_right_mod]
theorem bit_at (l : List Nat) (h : D32 l) (k : Nat) : l.getD (k / 32) 0 / 2 ^ (k % 32) % 2 = val 4294967296 l / 2 ^ k % 2 := by
  rw [← digit_at 4294967296 (by decide) l h (k / 32), bit_mod _ _ (Nat.mod_lt _ (by decide))]
  have e : val 4294967296 l / 2 ^ k = val 4294967296 l / 4294967296 ^ (k / 32) / 2 ^ (k % 32) := by
    rw [Nat.div_div_eq_div_mul, show (4294967296 : Nat) = 2 ^ 32 by decide, ← Nat.pow_mul, ← Nat.pow_add, Nat.div_add_mod]
  rw [e]

/-- How many bits a number has. -/
def blen (n : Nat) : Nat := if n = 0 then 0 else n.log2 + 1
theorem blen_eq {n k : Nat} (h1 : 2 ^ k ≤ n) (h2 : n < 2 ^ (k + 1)) : blen n = k + 1 := by
  have h0 : n ≠ 0 := by have : 0 < 2 ^ k := Nat.two_pow_pos k; omega
  unfold blen
  rw [if_neg h0, (Nat.log2_eq_iff h0).2 ⟨h1, h2⟩]

theorem bit_top {V k : Nat} (h : V < 2 ^ (k + 1)) : V / 2 ^ k % 2 = if 2 ^ k ≤ V then 1 else 0 := by
  have hp : 0 < 2 ^ k := Nat.two_pow_pos k
  split
  · rename_i hge
    have h1 : V / 2 ^ k < 2 := by rw [Nat.div_lt_iff_lt_mul hp, Nat.mul_comm, ← Nat.pow_succ]; exact h
    have h2 : 1 ≤ V / 2 ^ k := by rw [Nat.le_div_iff_mul_le hp]; omega
    omega
  · rename_i hlt
    rw [Nat.div_eq_of_lt (by omega)]

end Go.Proofs.YtpilbpkblcmngaaDoor
