import Derived.Test.YteogjnendkbjcaaDoorLOpsB
import Derived.Test.YteogjnendkbjcaaDoorRefC
/-
  (*Modulus).Sub, Exp: what each call does.
-/
namespace Go.Proofs.YteogjnendkbjcaaDoor
open Go.RowKit
set_option linter.unusedVariables false

theorem bit_mod64 (x j : Nat) (hj : j < 64) : x % 18446744073709551616 / 2 ^ j % 2 = x / 2 ^ j % 2 := by
  have e : (18446744073709551616 : Nat) = 2 ^ j * (2 * 2 ^ (63 - j)) := by
    rw [← Nat.pow_succ', ← Nat.pow_add, show j + (63 - j).succ = 64 by omega]
  rw [e, Nat.mod_mul_right_div_self, Nat.mod_mul_right_mod]
theorem bit_at64 (l : List Nat) (h : allLt l) (k : Nat) : l.getD (k / 64) 0 / 2 ^ (k % 64) % 2 = val 18446744073709551616 l / 2 ^ k % 2 := by
  rw [← digit_at 18446744073709551616 (by decide) l h (k / 64), bit_mod64 _ _ (Nat.mod_lt _ (by decide))]
  have e : val 18446744073709551616 l / 2 ^ k = val 18446744073709551616 l / 18446744073709551616 ^ (k / 64) / 2 ^ (k % 64) := by
    rw [Nat.div_div_eq_div_mul, show (18446744073709551616 : Nat) = 2 ^ 64 by decide, ← Nat.pow_mul, ← Nat.pow_add, Nat.div_add_mod]
  rw [e]
theorem blen_lt (n : Nat) : n < 2 ^ blen n := by
  unfold blen
  split
  · subst_vars; decide
  · exact Nat.lt_log2_self
theorem blen_le {n k : Nat} (h : n < 2 ^ k) : blen n ≤ k := by
  unfold blen
  split
  · omega
  · rename_i h0
    exact (Nat.log2_lt h0).2 h
/-- One step of a power. -/
theorem pow_step (a E k M b : Nat) (hb : E / 2 ^ k % 2 = b) : (a ^ (E / 2 ^ (k + 1)) % M) * (a ^ (E / 2 ^ (k + 1)) % M) % M * (if b = 1 then a % M else 1) % M = a ^ (E / 2 ^ k) % M := by
  have e : E / 2 ^ k = 2 * (E / 2 ^ (k + 1)) + b := by
    rw [Nat.pow_succ, ← Nat.div_div_eq_div_mul]; omega
  generalize E / 2 ^ (k + 1) = q at e ⊢
  have e2 : a ^ (2 * q + b) = a ^ q * a ^ q * a ^ b := by rw [Nat.pow_add, Nat.two_mul, Nat.pow_add]
  rw [e, e2, ← Nat.mul_mod]
  have hb2 : b = 0 ∨ b = 1 := by omega
  rcases hb2 with rfl | rfl
  · simp
  · rw [if_pos rfl, Nat.pow_one, ← Nat.mul_mod]

theorem and_one (x s : Nat) (hx : x < 18446744073709551616) : bits .and .u64 ((x : Int) / 2 ^ s) 1 = ((x / 2 ^ s % 2 : Nat) : Int) := by
  have e2 : (x : Int) / 2 ^ s = ((x / 2 ^ s : Nat) : Int) := by
    rw [show ((2 : Int) ^ s) = ((2 ^ s : Nat) : Int) by simp, ← Int.natCast_ediv]
  have hb : x / 2 ^ s < 18446744073709551616 := Nat.lt_of_le_of_lt (Nat.div_le_self _ _) hx
  have h := bits_and_u64_nat (x / 2 ^ s) 1 hb (by omega)
  rw [Nat.and_one_is_mod] at h
  rw [e2]
  exact h

end Go.Proofs.YteogjnendkbjcaaDoor
/-
  avouchlaw01.speaks: the document's example holds.
-/
namespace Go.Proofs.YteogjnendkbjcaaDoor
open Go.RowKit
set_option linter.unusedVariables false

/-- A slice of one word that is built: it is read; nothing old has turned. -/
theorem built1 (w : World) (X : Int) (n : Nat) (hX : X = (n : Int)) (hn : n < 18446744073709551616) : Rd (w.alloc (.cells #[.int .u64 X] 29)) (w.alloc (.cells #[.int .u64 X] 29)).heap.size (some ⟨w.heap.size, 0, none⟩) 1 [n] ∧ Below w.heap.size w (w.alloc (.cells #[.int .u64 X] 29)) := by
  have h := rd_one w X n hX hn
  refine ⟨?_, (Below.refl _ _).alloc (Nat.le_refl _) _⟩
  have hz : (w.alloc (.cells #[.int .u64 X] 29)).heap.size = w.heap.size + 1 := by simp
  rw [hz]; exact h

theorem rt7 : Rt [7] := by unfold Rt; decide

theorem one_word {r : List Nat} {X : Nat} (h : r.length = 1) (hr : allLt r) (hv : val 18446744073709551616 r = X) : r = [X] := by
  match r, h with
  | [x], _ => rw [val_one] at hv; rw [hv]

theorem built2 (w : World) (X Y : Int) (m n : Nat) (hX : X = (m : Int)) (hY : Y = (n : Int)) (hm : m < 18446744073709551616) (hn : n < 18446744073709551616) (W : World) (hW : W = (w.alloc (.cells #[.int .u64 X] 29)).alloc (.cells #[.int .u64 Y] 29)) :
    Rd W W.heap.size (some ⟨w.heap.size, 0, none⟩) 1 [m] ∧ Rd W W.heap.size (some ⟨w.heap.size + 1, 0, none⟩) 1 [n] ∧ Below w.heap.size w W := by
  obtain ⟨r1, b1⟩ := built1 w X m hX hm
  obtain ⟨r2, b2⟩ := built1 (w.alloc (.cells #[.int .u64 X] 29)) Y n hY hn
  have hz : (w.alloc (.cells #[.int .u64 X] 29)).heap.size = w.heap.size + 1 := by simp
  rw [← hW] at r2 b2
  have r1' := r1.up b2 (Nat.le_refl _)
  rw [hz] at r2
  exact ⟨r1', r2, b1.trans (b2.mono b1.size)⟩

end Go.Proofs.YteogjnendkbjcaaDoor
/-
  Small facts for the laws' walks.
-/
namespace Go.Proofs.YteogjnendkbjcaaDoor
open Go.RowKit
set_option linter.unusedVariables false

theorem bchain {a b c : World} (h : Below a.heap.size a b) (k : Below b.heap.size b c) : Below a.heap.size a c := h.trans (k.mono h.size)
theorem rt_pos {l : List Nat} (hl : allLt l) (h : Rt l) : 0 < val 18446744073709551616 l := by
  have h1 := h.1
  have h4 := h.2.2.2.1
  have e : val 18446744073709551616 l = pv 18446744073709551616 l (l.length - 1 + 1) := by unfold val; rw [show l.length - 1 + 1 = l.length by omega]
  rw [e, pv_succ]
  have : 0 < l.getD (l.length - 1) 0 * 18446744073709551616 ^ (l.length - 1) := Nat.mul_pos (Nat.pos_of_ne_zero h4) (Nat.pow_pos (by decide))
  omega
theorem eq_of_val {w w' : World} {B B' n : Nat} {A A' : Option Addr} {l l' : List Nat} (h : Rd w B A n l) (h' : Rd w' B' A' n l') (e : val 18446744073709551616 l = val 18446744073709551616 l') : l = l' :=
  val_inj _ (by decide) l l' h.lt h'.lt (h.len.trans h'.len.symm) e
theorem sub_add_mod (x y m : Nat) (hm : 0 < m) : ((x % m + m - y % m) % m + y) % m = x % m := by
  have h1 := Nat.mod_lt x hm
  have h2 := Nat.mod_lt y hm
  rw [Nat.mod_add_mod, ← Nat.add_mod_mod, show x % m + m - y % m + y % m = x % m + m by omega, Nat.add_mod_right, Nat.mod_mod]
theorem pow_three (x : Nat) : x ^ 3 = x * (x * x) := by rw [Nat.pow_succ, Nat.pow_two, Nat.mul_comm]

theorem BlkW.rdAll {w : World} {b : Nat} {ws : List Nat} (h : BlkW w b 29 ws) : Rd w w.heap.size (some ⟨b, 0, none⟩) ws.length ws := by
  have rd := h.rd (off := 0) (n := ws.length) (B := w.heap.size) (by omega) h.size
  rw [List.drop_zero, List.take_length] at rd
  exact rd
theorem builtTwo (w : World) (X Y : Int) (m n : Nat) (hX : X = (m : Int)) (hY : Y = (n : Int)) (hm : m < 18446744073709551616) (hn : n < 18446744073709551616) :
    Rd (w.alloc (.cells #[.int .u64 X, .int .u64 Y] 29)) (w.alloc (.cells #[.int .u64 X, .int .u64 Y] 29)).heap.size (some ⟨w.heap.size, 0, none⟩) 2 [m, n] ∧ Below w.heap.size w (w.alloc (.cells #[.int .u64 X, .int .u64 Y] 29)) := by
  subst hX hY
  refine ⟨⟨rfl, fun x hx => by simp at hx; omega, fun _ => ⟨w.heap.size, 0, rfl, by simp, fun i hi => ?_⟩⟩, (Below.refl _ _).alloc (Nat.le_refl _) _⟩
  have : i = 0 ∨ i = 1 := by omega
  rcases this with rfl | rfl <;> simp [at64]
theorem val_shift (x : Nat) : x * val 18446744073709551616 [0, 1] = x * 18446744073709551616 := by
  have : val 18446744073709551616 [0, 1] = 18446744073709551616 := by decide
  rw [this]
theorem blen_shift (x : Nat) : (blen (x * 18446744073709551616) = 0 ∧ blen x = 0) ∨ (blen (x * 18446744073709551616) = blen x + 64 ∧ 1 ≤ blen x) := by
  rcases Nat.eq_zero_or_pos x with h | h
  · subst h; exact .inl ⟨rfl, rfl⟩
  · right
    have h0 : x ≠ 0 := by omega
    have e : blen x = x.log2 + 1 := by unfold blen; rw [if_neg h0]
    have h1 := Nat.log2_self_le h0
    have h2 : x < 2 ^ (x.log2 + 1) := Nat.lt_log2_self
    have hb : blen (x * 18446744073709551616) = (x.log2 + 64) + 1 := by
      apply blen_eq
      · rw [Nat.pow_add]; exact Nat.mul_le_mul_right _ h1
      · rw [show x.log2 + 64 + 1 = (x.log2 + 1) + 64 by omega, Nat.pow_add]
        exact Nat.mul_lt_mul_of_pos_right h2 (by decide)
    omega

theorem val_bd {w : World} {B n N : Nat} {A : Option Addr} {l : List Nat} (h : Rd w B A n l) (hn : 2 * n ≤ N) : val 18446744073709551616 l < 4294967296 ^ N := by
  have h1 := val_lt _ (by decide) l h.lt
  rw [h.len, pow64] at h1
  exact Nat.lt_of_lt_of_le h1 (Nat.pow_le_pow_right (by decide) hn)
theorem add_bd {x y a b N : Nat} (h1 : x < 4294967296 ^ a) (h2 : y < 4294967296 ^ b) (ha : a + 1 ≤ N) (hb : b + 1 ≤ N) : x + y < 4294967296 ^ N := by
  have e1 : 4294967296 ^ a * 4294967296 ≤ 4294967296 ^ N := by rw [← Nat.pow_succ]; exact Nat.pow_le_pow_right (by decide) ha
  have e2 : 4294967296 ^ b * 4294967296 ≤ 4294967296 ^ N := by rw [← Nat.pow_succ]; exact Nat.pow_le_pow_right (by decide) hb
  generalize 4294967296 ^ a = P at *
  generalize 4294967296 ^ b = Q at *
  generalize 4294967296 ^ N = R at *
  omega
theorem mul_bd {x y a b : Nat} (h1 : x < 4294967296 ^ a) (h2 : y < 4294967296 ^ b) : x * y < 4294967296 ^ (a + b) := by
  rw [Nat.pow_add]; exact Nat.mul_lt_mul'' h1 h2
end Go.Proofs.YteogjnendkbjcaaDoor
