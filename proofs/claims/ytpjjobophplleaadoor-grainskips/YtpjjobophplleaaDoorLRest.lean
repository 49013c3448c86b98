/-
  (*Modulus).room, rest, Reduce: what each call does.
-/
import Derived.Test.YtpjjobophplleaaDoorLMod
import Derived.Laws.CopyOwn
namespace Go.Proofs.YtpjjobophplleaaDoor
open Go.RowKit
set_option linter.unusedVariables false

/-- What is left of a number, from the k-th word on, and the words behind. -/
def RestRel (w : World) (b N n : Nat) (D V : Nat) (wr : World) (k : Nat) : Prop :=
  ∃ ws : List Nat, ws.length = N ∧ BlkW wr b 36 ws ∧ Below b w wr ∧ (∀ j, k + n ≤ j → ws.getD j 0 = 0) ∧ pv 18446744073709551616 (ws.drop k) n < D ∧ pv 18446744073709551616 ws (k + n) % D = V % D

theorem RestRel.start {w wr : World} {b N n s M D V : Nat} {ws : List Nat} (hl : ws.length = N) (hB : BlkW wr b 36 ws) (hb : Below b w wr) (hN : n + 1 ≤ N) (hn : 1 ≤ n) (hV : V < 18446744073709551616 ^ (N - 1)) (hs : 2 ^ s ≤ 9223372036854775808)
    (hD : 9223372036854775808 * 18446744073709551616 ^ (n - 1) ≤ D) (h : pv 18446744073709551616 ws N = 2 ^ s * V % 18446744073709551616 ^ N) : RestRel w b N n D (2 ^ s * V) wr (N - n) := by
  have hS : 0 < 2 ^ s := Nat.two_pow_pos s
  have e1 : 18446744073709551616 ^ N = 18446744073709551616 ^ (N - 1) * 18446744073709551616 := by rw [← Nat.pow_succ, show (N - 1).succ = N by omega]
  have hlt : 2 ^ s * V < 2 ^ s * 18446744073709551616 ^ (N - 1) := Nat.mul_lt_mul_of_pos_left hV hS
  have h2 : 2 ^ s * 18446744073709551616 ^ (N - 1) ≤ 9223372036854775808 * 18446744073709551616 ^ (N - 1) := Nat.mul_le_mul_right _ hs
  have hlt2 : 2 ^ s * V < 18446744073709551616 ^ N := by rw [e1]; omega
  rw [Nat.mod_eq_of_lt hlt2] at h
  refine ⟨ws, hl, hB, hb, fun j hj => getD_out ws j (by omega), ?_, ?_⟩
  · have e2 := pv_drop 18446744073709551616 ws (N - n) n
    rw [show N - n + n = N by omega, h] at e2
    have e3 : 18446744073709551616 ^ (N - 1) = 18446744073709551616 ^ (N - n) * 18446744073709551616 ^ (n - 1) := by rw [← Nat.pow_add, show N - n + (n - 1) = N - 1 by omega]
    have h3 : 18446744073709551616 ^ (N - n) * pv 18446744073709551616 (ws.drop (N - n)) n < 18446744073709551616 ^ (N - n) * (2 ^ s * 18446744073709551616 ^ (n - 1)) := by
      have e4 : 18446744073709551616 ^ (N - n) * (2 ^ s * 18446744073709551616 ^ (n - 1)) = 2 ^ s * 18446744073709551616 ^ (N - 1) := by rw [e3]; grind
      rw [e4]; omega
    have h4 := Nat.lt_of_mul_lt_mul_left h3
    have h5 : 2 ^ s * 18446744073709551616 ^ (n - 1) ≤ 9223372036854775808 * 18446744073709551616 ^ (n - 1) := Nat.mul_le_mul_right _ hs
    omega
  · rw [show N - n + n = N by omega, h]

theorem RestRel.step {w wr w2 : World} {b N n D V k : Nat} {ws ws2 : List Nat} (hD1 : D < 18446744073709551616 ^ n) (hD0 : 0 < D) (hl : ws.length = N) (hz : ∀ j, k + 1 + n ≤ j → ws.getD j 0 = 0) (hmod : pv 18446744073709551616 ws (k + 1 + n) % D = V % D)
    (hb : Below b w wr) (hl2 : ws2.length = ws.length) (hB2 : BlkW w2 b 36 ws2) (hb2 : Below b wr w2) (hj2 : ∀ j, (j < k ∨ k + n < j) → ws2.getD j 0 = ws.getD j 0)
    (he2 : pv 18446744073709551616 (ws2.drop k) (n + 1) = pv 18446744073709551616 (ws.drop k) (n + 1) % D) : RestRel w b N n D V w2 k := by
  have hlt : pv 18446744073709551616 (ws2.drop k) (n + 1) < D := by rw [he2]; exact Nat.mod_lt _ hD0
  have hlast : ws2.getD (k + n) 0 = 0 := by
    rcases Nat.eq_zero_or_pos (ws2.getD (k + n) 0) with h | h
    · exact h
    · exfalso
      rw [pv_succ, getD_drop] at hlt
      have : 1 * 18446744073709551616 ^ n ≤ ws2.getD (k + n) 0 * 18446744073709551616 ^ n := Nat.mul_le_mul_right _ h
      omega
  have hp : pv 18446744073709551616 (ws2.drop k) (n + 1) = pv 18446744073709551616 (ws2.drop k) n := by rw [pv_succ, getD_drop, hlast]; omega
  refine ⟨ws2, hl2.trans hl, hB2, hb.trans hb2, ?_, by rw [← hp]; exact hlt, ?_⟩
  · intro j hj
    by_cases e : j = k + n
    · subst e; exact hlast
    · rw [hj2 j (by omega)]; exact hz j (by omega)
  · rw [← hmod, show k + 1 + n = k + (n + 1) by omega, pv_drop, pv_drop, ← hp, he2]
    have e0 : pv 18446744073709551616 ws2 k = pv 18446744073709551616 ws k := pv_congr _ _ _ _ fun i hi => hj2 i (Or.inl hi)
    rw [e0, Nat.add_mod, Nat.mul_mod, Nat.mod_mod, ← Nat.mul_mod, ← Nat.add_mod]

theorem rest_fin (R S M V D : Nat) (hS : 0 < S) (hD : D = S * M) (h1 : R < D) (h2 : R % D = S * V % D) : R / S = V % M := by
  rw [Nat.mod_eq_of_lt h1, hD, Nat.mul_mod_mul_left] at h2
  rw [h2, Nat.mul_div_cancel_left _ hS]

end Go.Proofs.YtpjjobophplleaaDoor
