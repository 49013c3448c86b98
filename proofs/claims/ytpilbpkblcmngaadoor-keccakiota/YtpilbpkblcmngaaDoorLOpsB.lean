/-
  limb.Bits, (*Modulus).Add, Sub, Exp: what each call does.
-/
import Derived.Test.YtpilbpkblcmngaaDoorLOps
import Derived.Test.YtpilbpkblcmngaaDoorRefH
namespace Go.Proofs.YtpilbpkblcmngaaDoor
open Go.RowKit
set_option linter.unusedVariables false

theorem bitLen_blen (x : Nat) (h0 : x ≠ 0) (hx : x < 18446744073709551616) : Lib.bitLen x = blen x := by
  have h1 : 1 ≤ Lib.bitLen x ∧ 2 ^ (Lib.bitLen x - 1) ≤ x ∧ x < 2 ^ Lib.bitLen x := Lib.bitLenAux_bounds 64 x (by omega) h0
  obtain ⟨a, b, c⟩ := h1
  have := blen_eq (k := Lib.bitLen x - 1) b (by rw [show Lib.bitLen x - 1 + 1 = Lib.bitLen x by omega]; exact c)
  omega
theorem blen_top (l : List Nat) (hl : allLt l) (k : Nat) (hz : ∀ j, k + 1 ≤ j → l.getD j 0 = 0) (h0 : l.getD k 0 ≠ 0) (hk : k < l.length) : blen (val 18446744073709551616 l) = k * 64 + blen (l.getD k 0) := by
  have hx := getD_lt _ (by decide) l hl k
  have h1 : 1 ≤ Lib.bitLen (l.getD k 0) ∧ 2 ^ (Lib.bitLen (l.getD k 0) - 1) ≤ l.getD k 0 ∧ l.getD k 0 < 2 ^ Lib.bitLen (l.getD k 0) := Lib.bitLenAux_bounds 64 _ (by omega) h0
  rw [← bitLen_blen _ h0 hx]
  obtain ⟨a, b, c⟩ := h1
  have hv : val 18446744073709551616 l = pv 18446744073709551616 l k + l.getD k 0 * 18446744073709551616 ^ k := by
    unfold val; rw [pv_zeros _ _ _ _ hz (by omega), pv_succ]
  have hp := pv_lt _ (by decide) l hl k
  have e64 : 18446744073709551616 ^ k = 2 ^ (64 * k) := by rw [Nat.pow_mul]
  have := blen_eq (n := val 18446744073709551616 l) (k := k * 64 + (Lib.bitLen (l.getD k 0) - 1)) ?_ ?_
  · omega
  · rw [hv, Nat.pow_add, Nat.mul_comm k 64, ← e64]
    have : 18446744073709551616 ^ k * 2 ^ (Lib.bitLen (l.getD k 0) - 1) ≤ 18446744073709551616 ^ k * l.getD k 0 := Nat.mul_le_mul_left _ b
    rw [Nat.mul_comm (l.getD k 0)]
    omega
  · rw [hv, show k * 64 + (Lib.bitLen (l.getD k 0) - 1) + 1 = 64 * k + Lib.bitLen (l.getD k 0) by omega, Nat.pow_add, ← e64]
    have : 18446744073709551616 ^ k * (l.getD k 0 + 1) ≤ 18446744073709551616 ^ k * 2 ^ Lib.bitLen (l.getD k 0) := Nat.mul_le_mul_left _ c
    rw [Nat.mul_add, Nat.mul_comm _ (l.getD k 0)] at this
    omega

theorem AddRel.wds {w w' : World} {n c : Nat} {la lb : List Nat} (h : AddRel w w.heap.size n la lb w' n c) : ∃ r, Rd w' w'.heap.size (some ⟨w.heap.size, 0, none⟩) n r ∧ val 18446744073709551616 r + c * 18446744073709551616 ^ n = pv 18446744073709551616 la n + pv 18446744073709551616 lb n ∧ Below w.heap.size w w' ∧ c ≤ 1 := by
  obtain ⟨ws, hl, hB, hb, hc, he⟩ := h
  have rd := hB.rd (off := 0) (n := n) (B := w'.heap.size) (by omega) hB.size
  rw [List.drop_zero, List.take_of_length_le (by omega)] at rd
  exact ⟨ws, rd, by unfold val; rw [hl]; exact he, hb, hc⟩
theorem SubRel.wds {w w' : World} {n c : Nat} {la lb : List Nat} (h : SubRel w w.heap.size n la lb w' n c) : ∃ r, Rd w' w'.heap.size (some ⟨w.heap.size, 0, none⟩) n r ∧ val 18446744073709551616 r + pv 18446744073709551616 lb n = pv 18446744073709551616 la n + c * 18446744073709551616 ^ n ∧ Below w.heap.size w w' ∧ c ≤ 1 := by
  obtain ⟨ws, hl, hB, hb, hc, he⟩ := h
  have rd := hB.rd (off := 0) (n := n) (B := w'.heap.size) (by omega) hB.size
  rw [List.drop_zero, List.take_of_length_le (by omega)] at rd
  exact ⟨ws, rd, by unfold val; rw [hl]; exact he, hb, hc⟩

theorem cmpN_ge {x y : Nat} (h : y ≤ x) : decide (0 ≤ cmpN x y) = true := by
  unfold cmpN; rw [if_neg (by omega)]; split <;> decide
theorem cmpN_lt' {x y : Nat} (h : x < y) : decide (0 ≤ cmpN x y) = false := by rw [cmpN_lt h]; decide

end Go.Proofs.YtpilbpkblcmngaaDoor
