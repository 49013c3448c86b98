/-
  A shift register of 80 bits as a number: a turn, the turns as a linear map, polynomials of turns. Plain arithmetic, nothing of the program.
-/
import Derived.Test.YtdepkfdceidikaaGreatDoorFPrime
namespace Go.Proofs.YtdepkfdceidikaaGreatDoor
set_option linter.unusedVariables false

/-- 2^80. -/
def g80 : Nat := 1208925819614629174706176
theorem g80_eq : g80 = 2 ^ 80 := by decide
/-- The turn's bit; the register behind a turn; behind n turns. -/
def gtap (x : Nat) : Bool := x.testBit 62 ^^ (x.testBit 51 ^^ (x.testBit 38 ^^ (x.testBit 23 ^^ (x.testBit 13 ^^ x.testBit 0))))
def gT (x : Nat) : Nat := 2 ^ 79 * (gtap x).toNat + x / 2
def gIt : Nat → Nat → Nat
  | 0, x => x
  | n + 1, x => gIt n (gT x)
theorem gT_lt {x : Nat} (h : x < g80) : gT x < g80 := by
  unfold gT g80 at *
  cases gtap x
  · simp only [Bool.toNat_false]; omega
  · simp only [Bool.toNat_true]; omega
theorem gIt_lt : ∀ (n : Nat) {x : Nat}, x < g80 → gIt n x < g80
  | 0, _, h => h
  | n + 1, _, h => gIt_lt n (gT_lt h)
theorem gIt_add : ∀ (m n x : Nat), gIt (m + n) x = gIt n (gIt m x)
  | 0, n, x => by rw [Nat.zero_add]; rfl
  | m + 1, n, x => by rw [Nat.add_right_comm]; exact gIt_add m n (gT x)
theorem gIt_turn (n x : Nat) : gIt n (gT x) = gT (gIt n x) := by
  have h1 : gIt (1 + n) x = gIt n (gIt 1 x) := gIt_add 1 n x
  have h2 : gIt (n + 1) x = gIt 1 (gIt n x) := gIt_add n 1 x
  rw [Nat.add_comm] at h1
  exact h1.symm.trans h2
theorem gIt_mul (m x : Nat) : ∀ k, gIt m x = x → gIt (m * k) x = x
  | 0, _ => rfl
  | k + 1, h => by rw [Nat.mul_succ, gIt_add, gIt_mul m x k h, h]
/-- Bits. -/
theorem gT_bit {x : Nat} (h : x < g80) (i : Nat) : (gT x).testBit i = if i < 79 then x.testBit (i + 1) else (gtap x).toNat.testBit (i - 79) := by
  have h2 : x / 2 < 2 ^ 79 := by unfold g80 at h; omega
  unfold gT
  rw [Nat.testBit_two_pow_mul_add _ h2]
  split
  · rw [Nat.testBit_succ]
  · rfl
def gsig (x n : Nat) : Bool := (gIt n x).testBit 0
theorem gT_top {x : Nat} (h : x < g80) : (gT x).testBit 79 = gtap x := by
  rw [gT_bit h, if_neg (by omega), Nat.sub_self]
  cases gtap x <;> rfl
theorem gIt_bit {x : Nat} (h : x < g80) : ∀ (i n : Nat), i < 80 → (gIt n x).testBit i = gsig x (n + i)
  | 0, n, _ => rfl
  | i + 1, n, hi => by
    have h1 := gT_bit (gIt_lt n h) i
    rw [if_pos (by omega)] at h1
    rw [← h1, ← gIt_turn]
    have h2 := gIt_bit h i (n + 1) (by omega)
    rw [show n + (i + 1) = n + 1 + i by omega, ← h2]
    rfl
theorem gsig_tap {x : Nat} (h : x < g80) (n : Nat) : gsig x (n + 80) = gtap (gIt n x) := by
  have h1 := gIt_bit h 79 (n + 1) (by omega)
  rw [show n + 80 = n + 1 + 79 by omega, ← h1, ← gT_top (gIt_lt n h), ← gIt_turn]
  rfl
theorem bit_big {x i : Nat} (h : x < g80) (hi : 80 ≤ i) : x.testBit i = false := Nat.testBit_lt_two_pow (Nat.lt_of_lt_of_le h (by rw [g80_eq]; exact Nat.pow_le_pow_right (by decide) hi))
theorem xor80 {x y : Nat} (hx : x < g80) (hy : y < g80) : x ^^^ y < g80 := by rw [g80_eq] at *; exact Nat.xor_lt_two_pow hx hy
/-- The eightieth turn by the earlier ones. -/
theorem g_cayley {x : Nat} (h : x < g80) : gIt 80 x = gIt 62 x ^^^ (gIt 51 x ^^^ (gIt 38 x ^^^ (gIt 23 x ^^^ (gIt 13 x ^^^ x)))) := by
  apply Nat.eq_of_testBit_eq
  intro i
  have hx : gIt 0 x = x := rfl
  by_cases c : i < 80
  · rw [Nat.testBit_xor, Nat.testBit_xor, Nat.testBit_xor, Nat.testBit_xor, Nat.testBit_xor, gIt_bit h i 80 c, gIt_bit h i 62 c, gIt_bit h i 51 c, gIt_bit h i 38 c, gIt_bit h i 23 c, gIt_bit h i 13 c]
    have h0 := gIt_bit h i 0 c
    rw [hx] at h0
    rw [h0, Nat.add_comm 80 i, gsig_tap h i]
    unfold gtap
    rw [gIt_bit h 62 i (by omega), gIt_bit h 51 i (by omega), gIt_bit h 38 i (by omega), gIt_bit h 23 i (by omega), gIt_bit h 13 i (by omega), gIt_bit h 0 i (by omega)]
    rw [Nat.add_comm 62 i, Nat.add_comm 51 i, Nat.add_comm 38 i, Nat.add_comm 23 i, Nat.add_comm 13 i, Nat.add_comm 0 i]
  · rw [bit_big (gIt_lt 80 h) (by omega), bit_big (xor80 (gIt_lt 62 h) (xor80 (gIt_lt 51 h) (xor80 (gIt_lt 38 h) (xor80 (gIt_lt 23 h) (xor80 (gIt_lt 13 h) h))))) (by omega)]
theorem gtap_xor (x y : Nat) : gtap (x ^^^ y) = (gtap x ^^ gtap y) := by
  unfold gtap
  simp only [Nat.testBit_xor]
  cases x.testBit 62 <;> cases x.testBit 51 <;> cases x.testBit 38 <;> cases x.testBit 23 <;> cases x.testBit 13 <;> cases x.testBit 0 <;>
    cases y.testBit 62 <;> cases y.testBit 51 <;> cases y.testBit 38 <;> cases y.testBit 23 <;> cases y.testBit 13 <;> cases y.testBit 0 <;> rfl
theorem gT_xor {x y : Nat} (hx : x < g80) (hy : y < g80) : gT (x ^^^ y) = gT x ^^^ gT y := by
  apply Nat.eq_of_testBit_eq
  intro i
  rw [Nat.testBit_xor, gT_bit (xor80 hx hy), gT_bit hx, gT_bit hy]
  by_cases c : i < 79
  · rw [if_pos c, if_pos c, if_pos c, Nat.testBit_xor]
  · rw [if_neg c, if_neg c, if_neg c, gtap_xor]
    by_cases d : i = 79
    · subst d
      rw [Nat.sub_self]
      cases gtap x <;> cases gtap y <;> rfl
    · have key : ∀ b : Bool, b.toNat.testBit (i - 79) = false := fun b => Nat.testBit_lt_two_pow (Nat.lt_of_lt_of_le (show b.toNat < 2 ^ 1 by cases b <;> decide) (Nat.pow_le_pow_right (by decide) (by omega)))
      rw [key, key, key]
      rfl
theorem gT_zero : gT 0 = 0 := by decide
theorem gIt_zero : ∀ n, gIt n 0 = 0
  | 0 => rfl
  | n + 1 => by rw [gIt, gT_zero]; exact gIt_zero n
theorem gIt_xor : ∀ (n : Nat) {x y : Nat}, x < g80 → y < g80 → gIt n (x ^^^ y) = gIt n x ^^^ gIt n y
  | 0, _, _, _, _ => rfl
  | n + 1, x, y, hx, hy => by
    show gIt n (gT (x ^^^ y)) = gIt n (gT x) ^^^ gIt n (gT y)
    rw [gT_xor hx hy]
    exact gIt_xor n (gT_lt hx) (gT_lt hy)
/-- A polynomial (its bits) of turns. -/
def gact : Nat → Nat → Nat → Nat
  | 0, _, _ => 0
  | n + 1, a, s => (a % 2 * s) ^^^ gact n (a / 2) (gT s)
theorem bit_mul_lt {a s : Nat} (h : s < g80) : a % 2 * s < g80 := by
  rcases Nat.mod_two_eq_zero_or_one a with e | e
  · rw [e, Nat.zero_mul]; decide
  · rw [e, Nat.one_mul]; exact h
theorem gact_lt : ∀ (n a : Nat) {s : Nat}, s < g80 → gact n a s < g80
  | 0, _, _, _ => by show 0 < g80; decide
  | n + 1, a, s, h => xor80 (bit_mul_lt h) (gact_lt n (a / 2) (gT_lt h))
theorem gact_zero : ∀ (n : Nat) (s : Nat), gact n 0 s = 0
  | 0, _ => rfl
  | n + 1, s => by
    show (0 % 2 * s) ^^^ gact n (0 / 2) (gT s) = 0
    rw [Nat.zero_mod, Nat.zero_mul, Nat.zero_div, gact_zero n, Nat.xor_self]
theorem gact_nil : ∀ (n a : Nat), gact n a 0 = 0
  | 0, _ => rfl
  | n + 1, a => by
    show (a % 2 * 0) ^^^ gact n (a / 2) (gT 0) = 0
    rw [gT_zero, gact_nil n, Nat.mul_zero, Nat.xor_self]
theorem xor4 (a b c d : Nat) : (a ^^^ b) ^^^ (c ^^^ d) = (a ^^^ c) ^^^ (b ^^^ d) := by
  apply Nat.eq_of_testBit_eq
  intro i
  simp only [Nat.testBit_xor]
  cases a.testBit i <;> cases b.testBit i <;> cases c.testBit i <;> cases d.testBit i <;> rfl
theorem xor_mod2 (a b : Nat) : (a ^^^ b) % 2 = (a % 2) ^^^ (b % 2) := by
  apply Nat.eq_of_testBit_eq
  intro i
  rw [Nat.testBit_xor, show (2 : Nat) = 2 ^ 1 by rfl, Nat.testBit_mod_two_pow, Nat.testBit_mod_two_pow, Nat.testBit_mod_two_pow, Nat.testBit_xor]
  cases decide (i < 1) <;> simp
theorem xor_div2 (a b : Nat) : (a ^^^ b) / 2 = (a / 2) ^^^ (b / 2) := by
  apply Nat.eq_of_testBit_eq
  intro i
  rw [Nat.testBit_xor, ← Nat.testBit_succ, ← Nat.testBit_succ, ← Nat.testBit_succ, Nat.testBit_xor]
theorem xor_bit_mul (a b s : Nat) : (a ^^^ b) % 2 * s = (a % 2 * s) ^^^ (b % 2 * s) := by
  rw [xor_mod2]
  rcases Nat.mod_two_eq_zero_or_one a with e | e <;> rcases Nat.mod_two_eq_zero_or_one b with f | f <;> rw [e, f] <;> simp
theorem gact_xor : ∀ (n a b s : Nat), gact n (a ^^^ b) s = gact n a s ^^^ gact n b s
  | 0, _, _, _ => (Nat.xor_self 0).symm
  | n + 1, a, b, s => by
    show ((a ^^^ b) % 2 * s) ^^^ gact n ((a ^^^ b) / 2) (gT s) = ((a % 2 * s) ^^^ gact n (a / 2) (gT s)) ^^^ ((b % 2 * s) ^^^ gact n (b / 2) (gT s))
    rw [xor_bit_mul, xor_div2, gact_xor n, xor4]
theorem gact_turn : ∀ (n a : Nat) {s : Nat}, s < g80 → gact n a (gT s) = gT (gact n a s)
  | 0, _, _, _ => gT_zero.symm
  | n + 1, a, s, h => by
    show (a % 2 * gT s) ^^^ gact n (a / 2) (gT (gT s)) = gT ((a % 2 * s) ^^^ gact n (a / 2) (gT s))
    rw [gT_xor (bit_mul_lt h) (gact_lt n _ (gT_lt h)), gact_turn n (a / 2) (gT_lt h)]
    rcases Nat.mod_two_eq_zero_or_one a with e | e
    · rw [e, Nat.zero_mul, Nat.zero_mul, gT_zero]
    · rw [e, Nat.one_mul, Nat.one_mul]
theorem gact_fuel : ∀ (n k a s : Nat), a < 2 ^ n → gact (n + k) a s = gact n a s
  | 0, k, a, s, h => by
    obtain rfl : a = 0 := by rw [Nat.pow_zero] at h; omega
    rw [gact_zero, gact_zero]
  | n + 1, k, a, s, h => by
    rw [Nat.add_right_comm]
    show (a % 2 * s) ^^^ gact (n + k) (a / 2) (gT s) = (a % 2 * s) ^^^ gact n (a / 2) (gT s)
    rw [gact_fuel n k (a / 2) (gT s) (by rw [Nat.pow_succ] at h; omega)]
/-- The polynomial of the register; times X, by it. -/
def gF : Nat := 2 ^ 80 + 2 ^ 62 + 2 ^ 51 + 2 ^ 38 + 2 ^ 23 + 2 ^ 13 + 1
def gA (a s : Nat) : Nat := gact 81 a s
theorem gact_mono : ∀ (n i s : Nat), i < n → gact n (2 ^ i) s = gIt i s
  | 0, _, _, h => by omega
  | n + 1, 0, s, _ => by
    show (2 ^ 0 % 2 * s) ^^^ gact n (2 ^ 0 / 2) (gT s) = s
    rw [show 2 ^ 0 / 2 = 0 by decide, gact_zero, Nat.xor_zero, show 2 ^ 0 % 2 = 1 by decide, Nat.one_mul]
  | n + 1, i + 1, s, h => by
    show (2 ^ (i + 1) % 2 * s) ^^^ gact n (2 ^ (i + 1) / 2) (gT s) = gIt i (gT s)
    rw [show 2 ^ (i + 1) % 2 = 0 by rw [Nat.pow_succ]; omega, show 2 ^ (i + 1) / 2 = 2 ^ i by rw [Nat.pow_succ]; omega, Nat.zero_mul, Nat.zero_xor]
    exact gact_mono n i (gT s) (by omega)
theorem gF_eq : gF = 2 ^ 80 ^^^ (2 ^ 62 ^^^ (2 ^ 51 ^^^ (2 ^ 38 ^^^ (2 ^ 23 ^^^ (2 ^ 13 ^^^ 2 ^ 0))))) := by decide
theorem gA_F {s : Nat} (h : s < g80) : gA gF s = 0 := by
  unfold gA
  rw [gF_eq, gact_xor, gact_xor, gact_xor, gact_xor, gact_xor, gact_xor, gact_mono _ _ _ (by decide), gact_mono _ _ _ (by decide), gact_mono _ _ _ (by decide), gact_mono _ _ _ (by decide), gact_mono _ _ _ (by decide), gact_mono _ _ _ (by decide), gact_mono _ _ _ (by decide), g_cayley h]
  exact Nat.xor_self _
def gX (b : Nat) : Nat := (2 * b) ^^^ (2 * b / g80 * gF)
theorem gX_lt {b : Nat} (h : b < g80) : gX b < g80 := by
  unfold gX
  have hq : 2 * b / g80 = 0 ∨ 2 * b / g80 = 1 := by unfold g80 at *; omega
  rcases hq with e | e
  · rw [e, Nat.zero_mul, Nat.xor_zero]
    unfold g80 at *
    omega
  · rw [e, Nat.one_mul, g80_eq]
    have hb : 2 ^ 80 ≤ 2 * b ∧ 2 * b < 2 ^ 81 := by unfold g80 at *; omega
    refine Nat.lt_pow_two_of_testBit _ fun i hi => ?_
    rw [Nat.testBit_xor]
    by_cases c : i = 80
    · subst c
      have h1 : (2 * b).testBit 80 = true := by
        rw [Nat.testBit_eq_decide_div_mod_eq, decide_eq_true_eq]
        have : 2 * b / 2 ^ 80 = 1 := by omega
        omega
      rw [h1, show gF.testBit 80 = true by decide]
      rfl
    · rw [Nat.testBit_lt_two_pow (Nat.lt_of_lt_of_le hb.2 (Nat.pow_le_pow_right (by decide) (by omega))), Nat.testBit_lt_two_pow (Nat.lt_of_lt_of_le (show gF < 2 ^ 81 by decide) (Nat.pow_le_pow_right (by decide) (by omega)))]
      rfl
theorem gA_twice {b s : Nat} (h : b < g80) : gA (2 * b) s = gA b (gT s) := by
  unfold gA
  show (2 * b % 2 * s) ^^^ gact 80 (2 * b / 2) (gT s) = gact 81 b (gT s)
  rw [show 2 * b % 2 = 0 by omega, show 2 * b / 2 = b by omega, Nat.zero_mul, Nat.zero_xor]
  exact (gact_fuel 80 1 b (gT s) (by rw [← g80_eq]; exact h)).symm
theorem gA_X {b s : Nat} (h : b < g80) (hs : s < g80) : gA (gX b) s = gT (gA b s) := by
  have e1 : gA (gX b) s = gA (2 * b) s := by
    unfold gX
    show gact 81 _ s = gact 81 _ s
    rw [gact_xor]
    have hq : 2 * b / g80 = 0 ∨ 2 * b / g80 = 1 := by unfold g80 at *; omega
    rcases hq with e | e
    · rw [e, Nat.zero_mul, gact_zero, Nat.xor_zero]
    · have h0 : gact 81 gF s = 0 := gA_F hs
      rw [e, Nat.one_mul, h0, Nat.xor_zero]
  rw [e1, gA_twice h]
  exact gact_turn 81 b hs
/-- Products of polynomials. -/
def gmul : Nat → Nat → Nat → Nat
  | 0, _, _ => 0
  | n + 1, a, b => (a % 2 * b) ^^^ gmul n (a / 2) (gX b)
theorem gmul_lt : ∀ (n a : Nat) {b : Nat}, b < g80 → gmul n a b < g80
  | 0, _, _, _ => by show 0 < g80; decide
  | n + 1, a, b, h => xor80 (bit_mul_lt h) (gmul_lt n (a / 2) (gX_lt h))
theorem gmul_act : ∀ (n a : Nat) {b s : Nat}, b < g80 → s < g80 → gA (gmul n a b) s = gact n a (gA b s)
  | 0, a, b, s, _, _ => gact_zero 81 s
  | n + 1, a, b, s, h, hs => by
    show gact 81 ((a % 2 * b) ^^^ gmul n (a / 2) (gX b)) s = (a % 2 * gA b s) ^^^ gact n (a / 2) (gT (gA b s))
    have ih := gmul_act n (a / 2) (gX_lt h) hs
    rw [gA_X h hs] at ih
    rw [gact_xor, ← ih]
    have e : gact 81 (a % 2 * b) s = a % 2 * gA b s := by
      rcases Nat.mod_two_eq_zero_or_one a with e | e
      · rw [e, Nat.zero_mul, Nat.zero_mul, gact_zero]
      · rw [e, Nat.one_mul, Nat.one_mul]; rfl
    rw [e]
    rfl
theorem gmul_A {a b s : Nat} (ha : a < g80) (hb : b < g80) (hs : s < g80) : gA (gmul 80 a b) s = gA a (gA b s) := by
  rw [gmul_act 80 a hb hs]
  exact (gact_fuel 80 1 a _ (by rw [← g80_eq]; exact ha)).symm
theorem gA_lt (a : Nat) {s : Nat} (h : s < g80) : gA a s < g80 := gact_lt 81 a h
theorem gA_one {s : Nat} : gA 1 s = s := gact_mono 81 0 s (by decide)
theorem gA_two {s : Nat} : gA 2 s = gT s := gact_mono 81 1 s (by decide)
/-- Powers: c stands for m turns, its power e for m e turns. -/
def gpw : Nat → Nat → Nat → Nat
  | 0, _, _ => 1
  | n + 1, e, c => gmul 80 (e % 2 * c + (1 - e % 2)) (gpw n (e / 2) (gmul 80 c c))
theorem gpw_lt : ∀ (n e : Nat) {c : Nat}, c < g80 → gpw n e c < g80
  | 0, _, _, _ => by show 1 < g80; decide
  | n + 1, e, c, h => gmul_lt 80 _ (gpw_lt n (e / 2) (gmul_lt 80 c h))
theorem gpw_act : ∀ (n e c m : Nat), c < g80 → e < 2 ^ n → (∀ s, s < g80 → gA c s = gIt m s) → ∀ s, s < g80 → gA (gpw n e c) s = gIt (m * e) s
  | 0, e, c, m, _, h, _, s, _ => by
    obtain rfl : e = 0 := by rw [Nat.pow_zero] at h; omega
    exact gA_one
  | n + 1, e, c, m, hc, h, hm, s, hs => by
    have hq : gpw n (e / 2) (gmul 80 c c) < g80 := gpw_lt n _ (gmul_lt 80 c hc)
    have ih := gpw_act n (e / 2) (gmul 80 c c) (m + m) (gmul_lt 80 c hc) (by rw [Nat.pow_succ] at h; omega) (fun s hs => by rw [gmul_A hc hc hs, hm _ (gA_lt c hs), hm s hs, gIt_add]) s hs
    have hx : e % 2 * c + (1 - e % 2) < g80 := by
      rcases Nat.mod_two_eq_zero_or_one e with f | f
      · rw [f]; simp; decide
      · rw [f]; simp; exact hc
    show gA (gmul 80 (e % 2 * c + (1 - e % 2)) (gpw n (e / 2) (gmul 80 c c))) s = _
    rw [gmul_A hx hq hs, ih]
    rcases Nat.mod_two_eq_zero_or_one e with f | f
    · rw [f, Nat.zero_mul, Nat.zero_add, Nat.sub_zero, gA_one]
      congr 1
      have : e = 2 * (e / 2) := by omega
      conv => rhs; rw [this]
      rw [← Nat.two_mul, Nat.mul_assoc, Nat.mul_left_comm]
    · rw [f, Nat.one_mul, Nat.sub_self, Nat.add_zero, hm _ (gIt_lt _ hs), ← gIt_add]
      congr 1
      have : e = 2 * (e / 2) + 1 := by omega
      conv => rhs; rw [this]
      rw [Nat.mul_add, Nat.mul_one, ← Nat.two_mul, Nat.mul_assoc, Nat.mul_left_comm]
end Go.Proofs.YtdepkfdceidikaaGreatDoor
