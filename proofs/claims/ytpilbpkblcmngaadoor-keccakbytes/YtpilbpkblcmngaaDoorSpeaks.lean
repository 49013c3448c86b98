import Derived.Test.YtpilbpkblcmngaaDoorLOpsB
import Derived.Test.YtpilbpkblcmngaaDoorRefC
/-
  (*Modulus).Sub, Exp: what each call does.
-/
namespace Go.Proofs.YtpilbpkblcmngaaDoor
open Go.RowKit
set_option linter.unusedVariables false

theorem bit_mod64 (x j : Nat) (hj : j < 64) : x % 18446744073709551616 / 2 ^ j % 2 = x / 2 ^ j % 2 := by
  have e : (18446744073709551616 : Nat) = 2 ^ j * (2 * 2 ^ (63 - j)) := by
    rw [← Nat.pow_succ', ← Nat.pow_add, show j + (63 - j).succ = 64 by omega]
  rw [e, Nat.mod_mul_right_div_self, Nat.mod_mul_right_mod]
theorem bit_at64 (l : List Nat) (h : allLt l) (k : Nat) : l.getD (k / 64) 0 / 2 ^ (k % 64) % 2 = val 18446744073709551616 l / 2 ^ k % 2 := by
  rw [← digit_at 18446744073709551616 (by decide) l h (k / 64), bit_mod64 _ _ (Nat.mod_lt _ (by decide))]
  have e : val 18446744073709551616 l / 2 ^ k = val 18446744073709551616 l / 18446744073709551616 ^ (k / 64) / 2 ^ (k % 64) := by
    rw [Nat.div_div_eq_div_mul, show (18446744073709551616 : Nat) = 2 ^ 64 by decide, ← Nat.pow_mul, ← Nat.pow_add, Nat.div_add_mod]
  rw [e]
theorem blen_lt (n : Nat) : n < 2 ^ blen n := by
  unfold blen
  split
  · subst_vars; decide
  · exact Nat.lt_log2_self
theorem blen_le {n k : Nat} (h : n < 2 ^ k) : blen n ≤ k := by
  unfold blen
  split
  · omega
  · rename_i h0
    exact (Nat.log2_lt h0).2 h
/-- One step of a power. -/
theorem pow_step (a E k M b : Nat) (hb : E / 2 ^ k % 2 = b) : (a ^ (E / 2 ^ (k + 1)) % M) * (a ^ (E / 2 ^ (k + 1)) % M) % M * (if b = 1 then a % M else 1) % M = a ^ (E / 2 ^ k) % M := by
  have e : E / 2 ^ k = 2 * (E / 2 ^ (k + 1)) + b := by
    rw [Nat.pow_succ, ← Nat.div_div_eq_div_mul]; omega
  generalize E / 2 ^ (k + 1) = q at e ⊢
  have e2 : a ^ (2 * q + b) = a ^ q * a ^ q * a ^ b := by rw [Nat.pow_add, Nat.two_mul, Nat.pow_add]
  rw [e, e2, ← Nat.mul_mod]
  have hb2 : b = 0 ∨ b = 1 := by omega
  rcases hb2 with rfl | rfl
  · simp
  · rw [if_pos rfl, Nat.pow_one, ← Nat.mul_mod]

theorem and_one (x s : Nat) (hx : x < 18446744073709551616) : bits .and .u64 ((x : Int) / 2 ^ s) 1 = ((x / 2 ^ s % 2 : Nat) : Int) := by
  have e2 : (x : Int) / 2 ^ s = ((x / 2 ^ s : Nat) : Int) := by
    rw [show ((2 : Int) ^ s) = ((2 ^ s : Nat) : Int) by simp, ← Int.natCast_ediv]
  have hb : x / 2 ^ s < 18446744073709551616 := Nat.lt_of_le_of_lt (Nat.div_le_self _ _) hx
  have h := bits_and_u64_nat (x / 2 ^ s) 1 hb (by omega)
  rw [Nat.and_one_is_mod] at h
  rw [e2]
  exact h

end Go.Proofs.YtpilbpkblcmngaaDoor
/-
  avouchlaw01.speaks: the document's example holds.
-/
namespace Go.Proofs.YtpilbpkblcmngaaDoor
open Go.RowKit
set_option linter.unusedVariables false

/-- A slice of one word that is built: it is read; nothing old has turned. -/
theorem built1 (w : World) (X : Int) (n : Nat) (hX : X = (n : Int)) (hn : n < 18446744073709551616) : Rd (w.alloc (.cells #[.int .u64 X] 22)) (w.alloc (.cells #[.int .u64 X] 22)).heap.size (some ⟨w.heap.size, 0, none⟩) 1 [n] ∧ Below w.heap.size w (w.alloc (.cells #[.int .u64 X] 22)) := by
  have h := rd_one w X n hX hn
  refine ⟨?_, (Below.refl _ _).alloc (Nat.le_refl _) _⟩
  have hz : (w.alloc (.cells #[.int .u64 X] 22)).heap.size = w.heap.size + 1 := by simp
  rw [hz]; exact h

theorem rt7 : Rt [7] := by unfold Rt; decide

theorem one_word {r : List Nat} {X : Nat} (h : r.length = 1) (hr : allLt r) (hv : val 18446744073709551616 r = X) : r = [X] := by
  match r, h with
  | [x], _ => rw [val_one] at hv; rw [hv]

theorem built2 (w : World) (X Y : Int) (m n : Nat) (hX : X = (m : Int)) (hY : Y = (n : Int)) (hm : m < 18446744073709551616) (hn : n < 18446744073709551616) (W : World) (hW : W = (w.alloc (.cells #[.int .u64 X] 22)).alloc (.cells #[.int .u64 Y] 22)) :
    Rd W W.heap.size (some ⟨w.heap.size, 0, none⟩) 1 [m] ∧ Rd W W.heap.size (some ⟨w.heap.size + 1, 0, none⟩) 1 [n] ∧ Below w.heap.size w W := by
  obtain ⟨r1, b1⟩ := built1 w X m hX hm
  obtain ⟨r2, b2⟩ := built1 (w.alloc (.cells #[.int .u64 X] 22)) Y n hY hn
  have hz : (w.alloc (.cells #[.int .u64 X] 22)).heap.size = w.heap.size + 1 := by simp
  rw [← hW] at r2 b2
  have r1' := r1.up b2 (Nat.le_refl _)
  rw [hz] at r2
  exact ⟨r1', r2, b1.trans (b2.mono b1.size)⟩

end Go.Proofs.YtpilbpkblcmngaaDoor
