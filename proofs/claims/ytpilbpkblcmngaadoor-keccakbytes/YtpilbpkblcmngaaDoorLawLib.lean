/-
  Small facts for the laws' walks.
-/
import Derived.Test.YtpilbpkblcmngaaDoorSpeaks
namespace Go.Proofs.YtpilbpkblcmngaaDoor
open Go.RowKit
set_option linter.unusedVariables false

theorem bchain {a b c : World} (h : Below a.heap.size a b) (k : Below b.heap.size b c) : Below a.heap.size a c := h.trans (k.mono h.size)
theorem rt_pos {l : List Nat} (hl : allLt l) (h : Rt l) : 0 < val 18446744073709551616 l := by
  have h1 := h.1
  have h4 := h.2.2.2.1
  have e : val 18446744073709551616 l = pv 18446744073709551616 l (l.length - 1 + 1) := by unfold val; rw [show l.length - 1 + 1 = l.length by omega]
  rw [e, pv_succ]
  have : 0 < l.getD (l.length - 1) 0 * 18446744073709551616 ^ (l.length - 1) := Nat.mul_pos (Nat.pos_of_ne_zero h4) (Nat.pow_pos (by decide))
  omega
theorem eq_of_val {w w' : World} {B B' n : Nat} {A A' : Option Addr} {l l' : List Nat} (h : Rd w B A n l) (h' : Rd w' B' A' n l') (e : val 18446744073709551616 l = val 18446744073709551616 l') : l = l' :=
  val_inj _ (by decide) l l' h.lt h'.lt (h.len.trans h'.len.symm) e
theorem sub_add_mod (x y m : Nat) (hm : 0 < m) : ((x % m + m - y % m) % m + y) % m = x % m := by
  have h1 := Nat.mod_lt x hm
  have h2 := Nat.mod_lt y hm
  rw [Nat.mod_add_mod, ← Nat.add_mod_mod, show x % m + m - y % m + y % m = x % m + m by omega, Nat.add_mod_right, Nat.mod_mod]
theorem pow_three (x : Nat) : x ^ 3 = x * (x * x) := by rw [Nat.pow_succ, Nat.pow_two, Nat.mul_comm]

theorem BlkW.rdAll {w : World} {b : Nat} {ws : List Nat} (h : BlkW w b 22 ws) : Rd w w.heap.size (some ⟨b, 0, none⟩) ws.length ws := by
  have rd := h.rd (off := 0) (n := ws.length) (B := w.heap.size) (by omega) h.size
  rw [List.drop_zero, List.take_length] at rd
  exact rd
theorem builtTwo (w : World) (X Y : Int) (m n : Nat) (hX : X = (m : Int)) (hY : Y = (n : Int)) (hm : m < 18446744073709551616) (hn : n < 18446744073709551616) :
    Rd (w.alloc (.cells #[.int .u64 X, .int .u64 Y] 22)) (w.alloc (.cells #[.int .u64 X, .int .u64 Y] 22)).heap.size (some ⟨w.heap.size, 0, none⟩) 2 [m, n] ∧ Below w.heap.size w (w.alloc (.cells #[.int .u64 X, .int .u64 Y] 22)) := by
  subst hX hY
  refine ⟨⟨rfl, fun x hx => by simp at hx; omega, fun _ => ⟨w.heap.size, 0, rfl, by simp, fun i hi => ?_⟩⟩, (Below.refl _ _).alloc (Nat.le_refl _) _⟩
  have : i = 0 ∨ i = 1 := by omega
  rcases this with rfl | rfl <;> simp [at64]
theorem val_shift (x : Nat) : x * val 18446744073709551616 [0, 1] = x * 18446744073709551616 := by
  have : val 18446744073709551616 [0, 1] = 18446744073709551616 := by decide
  rw [this]
theorem blen_shift (x : Nat) : (blen (x * 18446744073709551616) = 0 ∧ blen x = 0) ∨ (blen (x * 18446744073709551616) = blen x + 64 ∧ 1 ≤ blen x) := by
  rcases Nat.eq_zero_or_pos x with h | h
  · subst h; exact .inl ⟨rfl, rfl⟩
  · right
    have h0 : x ≠ 0 := by omega
    have e : blen x = x.log2 + 1 := by unfold blen; rw [if_neg h0]
    have h1 := Nat.log2_self_le h0
    have h2 : x < 2 ^ (x.log2 + 1) := Nat.lt_log2_self
    have hb : blen (x * 18446744073709551616) = (x.log2 + 64) + 1 := by
      apply blen_eq
      · rw [Nat.pow_add]; exact Nat.mul_le_mul_right _ h1
      · rw [show x.log2 + 64 + 1 = (x.log2 + 1) + 64 by omega, Nat.pow_add]
        exact Nat.mul_lt_mul_of_pos_right h2 (by decide)
    omega

theorem val_bd {w : World} {B n N : Nat} {A : Option Addr} {l : List Nat} (h : Rd w B A n l) (hn : 2 * n ≤ N) : val 18446744073709551616 l < 4294967296 ^ N := by
  have h1 := val_lt _ (by decide) l h.lt
  rw [h.len, pow64] at h1
  exact Nat.lt_of_lt_of_le h1 (Nat.pow_le_pow_right (by decide) hn)
theorem add_bd {x y a b N : Nat} (h1 : x < 4294967296 ^ a) (h2 : y < 4294967296 ^ b) (ha : a + 1 ≤ N) (hb : b + 1 ≤ N) : x + y < 4294967296 ^ N := by
  have e1 : 4294967296 ^ a * 4294967296 ≤ 4294967296 ^ N := by rw [← Nat.pow_succ]; exact Nat.pow_le_pow_right (by decide) ha
  have e2 : 4294967296 ^ b * 4294967296 ≤ 4294967296 ^ N := by rw [← Nat.pow_succ]; exact Nat.pow_le_pow_right (by decide) hb
  generalize 4294967296 ^ a = P at *
  generalize 4294967296 ^ b = Q at *
  generalize 4294967296 ^ N = R at *
  omega
theorem mul_bd {x y a b : Nat} (h1 : x < 4294967296 ^ a) (h2 : y < 4294967296 ^ b) : x * y < 4294967296 ^ (a + b) := by
  rw [Nat.pow_add]; exact Nat.mul_lt_mul'' h1 h2
end Go.Proofs.YtpilbpkblcmngaaDoor
