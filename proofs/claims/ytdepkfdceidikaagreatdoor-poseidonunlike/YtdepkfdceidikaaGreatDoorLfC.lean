import Derived.Test.YtdepkfdceidikaaGreatDoorFPrime
/-
  A shift register of 80 bits as a number: a turn, the turns as a linear map, polynomials of turns. Plain arithmetic, nothing of the program.
-/
namespace Go.Proofs.YtdepkfdceidikaaGreatDoor
set_option linter.unusedVariables false

/-- 2^80. -/
def g80 : Nat := 1208925819614629174706176
theorem g80_eq : g80 = 2 ^ 80 := by decide
/-- The turn's bit; the register behind a turn; behind n turns. -/
def gtap (x : Nat) : Bool := x.testBit 62 ^^ (x.testBit 51 ^^ (x.testBit 38 ^^ (x.testBit 23 ^^ (x.testBit 13 ^^ x.testBit 0))))
def gT (x : Nat) : Nat := 2 ^ 79 * (gtap x).toNat + x / 2
def gIt : Nat → Nat → Nat
  | 0, x => x
  | n + 1, x => gIt n (gT x)
theorem gT_lt {x : Nat} (h : x < g80) : gT x < g80 := by
  unfold gT g80 at *
  cases gtap x
  · simp only [Bool.toNat_false]; omega
  · simp only [Bool.toNat_true]; omega
theorem gIt_lt : ∀ (n : Nat) {x : Nat}, x < g80 → gIt n x < g80
  | 0, _, h => h
  | n + 1, _, h => gIt_lt n (gT_lt h)
theorem gIt_add : ∀ (m n x : Nat), gIt (m + n) x = gIt n (gIt m x)
  | 0, n, x => by rw [Nat.zero_add]; rfl
  | m + 1, n, x => by rw [Nat.add_right_comm]; exact gIt_add m n (gT x)
theorem gIt_turn (n x : Nat) : gIt n (gT x) = gT (gIt n x) := by
  have h1 : gIt (1 + n) x = gIt n (gIt 1 x) := gIt_add 1 n x
  have h2 : gIt (n + 1) x = gIt 1 (gIt n x) := gIt_add n 1 x
  rw [Nat.add_comm] at h1
  exact h1.symm.trans h2
theorem gIt_mul (m x : Nat) : ∀ k, gIt m x = x → gIt (m * k) x = x
  | 0, _ => rfl
  | k + 1, h => by rw [Nat.mul_succ, gIt_add, gIt_mul m x k h, h]
/-- Bits. -/
theorem gT_bit {x : Nat} (h : x < g80) (i : Nat) : (gT x).testBit i = if i < 79 then x.testBit (i + 1) else (gtap x).toNat.testBit (i - 79) := by
  have h2 : x / 2 < 2 ^ 79 := by unfold g80 at h; omega
  unfold gT
  rw [Nat.testBit_two_pow_mul_add _ h2]
  split
  · rw [Nat.testBit_succ]
  · rfl
def gsig (x n : Nat) : Bool := (gIt n x).testBit 0
theorem gT_top {x : Nat} (h : x < g80) : (gT x).testBit 79 = gtap x := by
  rw [gT_bit h, if_neg (by omega), Nat.sub_self]
  cases gtap x <;> rfl
theorem gIt_bit {x : Nat} (h : x < g80) : ∀ (i n : Nat), i < 80 → (gIt n x).testBit i = gsig x (n + i)
  | 0, n, _ => rfl
  | i + 1, n, hi => by
    have h1 := gT_bit (gIt_lt n h) i
    rw [if_pos (by omega)] at h1
    rw [← h1, ← gIt_turn]
    have h2 := gIt_bit h i (n + 1) (by omega)
    rw [show n + (i + 1) = n + 1 + i by omega, ← h2]
    rfl
theorem gsig_tap {x : Nat} (h : x < g80) (n : Nat) : gsig x (n + 80) = gtap (gIt n x) := by
  have h1 := gIt_bit h 79 (n + 1) (by omega)
  rw [show n + 80 = n + 1 + 79 by omega, ← h1, ← gT_top (gIt_lt n h), ← gIt_turn]
  rfl
theorem bit_big {x i : Nat} (h : x < g80) (hi : 80 ≤ i) : x.testBit i = false := Nat.testBit_lt_two_pow (Nat.lt_of_lt_of_le h (by rw [g80_eq]; exact Nat.pow_le_pow_right (by decide) hi))
theorem xor80 {x y : Nat} (hx : x < g80) (hy : y < g80) : x ^^^ y < g80 := by rw [g80_eq] at *; exact Nat.xor_lt_two_pow hx hy
/-- The eightieth turn by the earlier ones. -/
theorem g_cayley {x : Nat} (h : x < g80) : gIt 80 x = gIt 62 x ^^^ (gIt 51 x ^^^ (gIt 38 x ^^^ (gIt 23 x ^^^ (gIt 13 x ^^^ x)))) := by
  apply Nat.eq_of_testBit_eq
  intro i
  have hx : gIt 0 x = x := rfl
  by_cases c : i < 80
  · rw [Nat.testBit_xor, Nat.testBit_xor, Nat.testBit_xor, Nat.testBit_xor, Nat.testBit_xor, gIt_bit h i 80 c, gIt_bit h i 62 c, gIt_bit h i 51 c, gIt_bit h i 38 c, gIt_bit h i 23 c, gIt_bit h i 13 c]
    have h0 := gIt_bit h i 0 c
    rw [hx] at h0
    rw [h0, Nat.add_comm 80 i, gsig_tap h i]
    unfold gtap
    rw [gIt_bit h 62 i (by omega), gIt_bit h 51 i (by omega), gIt_bit h 38 i (by omega), gIt_bit h 23 i (by omega), gIt_bit h 13 i (by omega), gIt_bit h 0 i (by omega)]
    rw [Nat.add_comm 62 i, Nat.add_comm 51 i, Nat.add_comm 38 i, Nat.add_comm 23 i, Nat.add_comm 13 i, Nat.add_comm 0 i]
  · rw [bit_big (gIt_lt 80 h) (by omega), bit_big (xor80 (gIt_lt 62 h) (xor80 (gIt_lt 51 h) (xor80 (gIt_lt 38 h) (xor80 (gIt_lt 23 h) (xor80 (gIt_lt 13 h) h))))) (by omega)]
theorem gtap_xor (x y : Nat) : gtap (x ^^^ y) = (gtap x ^^ gtap y) := by
  unfold gtap
  simp only [Nat.testBit_xor]
  cases x.testBit 62 <;> cases x.testBit 51 <;> cases x.testBit 38 <;> cases x.testBit 23 <;> cases x.testBit 13 <;> cases x.testBit 0 <;>
    cases y.testBit 62 <;> cases y.testBit 51 <;> cases y.testBit 38 <;> cases y.testBit 23 <;> cases y.testBit 13 <;> cases y.testBit 0 <;> rfl
theorem gT_xor {x y : Nat} (hx : x < g80) (hy : y < g80) : gT (x ^^^ y) = gT x ^^^ gT y := by
  apply Nat.eq_of_testBit_eq
  intro i
  rw [Nat.testBit_xor, gT_bit (xor80 hx hy), gT_bit hx, gT_bit hy]
  by_cases c : i < 79
  · rw [if_pos c, if_pos c, if_pos c, Nat.testBit_xor]
  · rw [if_neg c, if_neg c, if_neg c, gtap_xor]
    by_cases d : i = 79
    · subst d
      rw [Nat.sub_self]
      cases gtap x <;> cases gtap y <;> rfl
    · have key : ∀ b : Bool, b.toNat.testBit (i - 79) = false := fun b => Nat.testBit_lt_two_pow (Nat.lt_of_lt_of_le (show b.toNat < 2 ^ 1 by cases b <;> decide) (Nat.pow_le_pow_right (by decide) (by omega)))
      rw [key, key, key]
      rfl
theorem gT_zero : gT 0 = 0 := by decide
theorem gIt_zero : ∀ n, gIt n 0 = 0
  | 0 => rfl
  | n + 1 => by rw [gIt, gT_zero]; exact gIt_zero n
theorem gIt_xor : ∀ (n : Nat) {x y : Nat}, x < g80 → y < g80 → gIt n (x ^^^ y) = gIt n x ^^^ gIt n y
  | 0, _, _, _, _ => rfl
  | n + 1, x, y, hx, hy => by
    show gIt n (gT (x ^^^ y)) = gIt n (gT x) ^^^ gIt n (gT y)
    rw [gT_xor hx hy]
    exact gIt_xor n (gT_lt hx) (gT_lt hy)
/-- A polynomial (its bits) of turns. -/
def gact : Nat → Nat → Nat → Nat
  | 0, _, _ => 0
  | n + 1, a, s => (a % 2 * s) ^^^ gact n (a / 2) (gT s)
theorem bit_mul_lt {a s : Nat} (h : s < g80) : a % 2 * s < g80 := by
  rcases Nat.mod_two_eq_zero_or_one a with e | e
  · rw [e, Nat.zero_mul]; decide
  · rw [e, Nat.one_mul]; exact h
theorem gact_lt : ∀ (n a : Nat) {s : Nat}, s < g80 → gact n a s < g80
  | 0, _, _, _ => by show 0 < g80; decide
  | n + 1, a, s, h => xor80 (bit_mul_lt h) (gact_lt n (a / 2) (gT_lt h))
theorem gact_zero : ∀ (n : Nat) (s : Nat), gact n 0 s = 0
  | 0, _ => rfl
  | n + 1, s => by
    show (0 % 2 * s) ^^^ gact n (0 / 2) (gT s) = 0
    rw [Nat.zero_mod, Nat.zero_mul, Nat.zero_div, gact_zero n, Nat.xor_self]
theorem gact_nil : ∀ (n a : Nat), gact n a 0 = 0
  | 0, _ => rfl
  | n + 1, a => by
    show (a % 2 * 0) ^^^ gact n (a / 2) (gT 0) = 0
    rw [gT_zero, gact_nil n, Nat.mul_zero, Nat.xor_self]
theorem xor4 (a b c d : Nat) : (a ^^^ b) ^^^ (c ^^^ d) = (a ^^^ c) ^^^ (b ^^^ d) := by
  apply Nat.eq_of_testBit_eq
  intro i
  simp only [Nat.testBit_xor]
  cases a.testBit i <;> cases b.testBit i <;> cases c.testBit i <;> cases d.testBit i <;> rfl
theorem xor_mod2 (a b : Nat) : (a ^^^ b) % 2 = (a % 2) ^^^ (b % 2) := by
  apply Nat.eq_of_testBit_eq
  intro i
  rw [Nat.testBit_xor, show (2 : Nat) = 2 ^ 1 by rfl, Nat.testBit_mod_two_pow, Nat.testBit_mod_two_pow, Nat.testBit_mod_two_pow, Nat.testBit_xor]
  cases decide (i < 1) <;> simp
theorem xor_div2 (a b : Nat) : (a ^^^ b) / 2 = (a / 2) ^^^ (b / 2) := by
  apply Nat.eq_of_testBit_eq
  intro i
  rw [Nat.testBit_xor, ← Nat.testBit_succ, ← Nat.testBit_succ, ← Nat.testBit_succ, Nat.testBit_xor]
theorem xor_bit_mul (a b s : Nat) : (a ^^^ b) % 2 * s = (a % 2 * s) ^^^ (b % 2 * s) := by
  rw [xor_mod2]
  rcases Nat.mod_two_eq_zero_or_one a with e | e <;> rcases Nat.mod_two_eq_zero_or_one b with f | f <;> rw [e, f] <;> simp
theorem gact_xor : ∀ (n a b s : Nat), gact n (a ^^^ b) s = gact n a s ^^^ gact n b s
  | 0, _, _, _ => (Nat.xor_self 0).symm
  | n + 1, a, b, s => by
    show ((a ^^^ b) % 2 * s) ^^^ gact n ((a ^^^ b) / 2) (gT s) = ((a % 2 * s) ^^^ gact n (a / 2) (gT s)) ^^^ ((b % 2 * s) ^^^ gact n (b / 2) (gT s))
    rw [xor_bit_mul, xor_div2, gact_xor n, xor4]
theorem gact_turn : ∀ (n a : Nat) {s : Nat}, s < g80 → gact n a (gT s) = gT (gact n a s)
  | 0, _, _, _ => gT_zero.symm
  | n + 1, a, s, h => by
    show (a % 2 * gT s) ^^^ gact n (a / 2) (gT (gT s)) = gT ((a % 2 * s) ^^^ gact n (a / 2) (gT s))
    rw [gT_xor (bit_mul_lt h) (gact_lt n _ (gT_lt h)), gact_turn n (a / 2) (gT_lt h)]
    rcases Nat.mod_two_eq_zero_or_one a with e | e
    · rw [e, Nat.zero_mul, Nat.zero_mul, gT_zero]
    · rw [e, Nat.one_mul, Nat.one_mul]
theorem gact_fuel : ∀ (n k a s : Nat), a < 2 ^ n → gact (n + k) a s = gact n a s
  | 0, k, a, s, h => by
    obtain rfl : a = 0 := by rw [Nat.pow_zero] at h; omega
    rw [gact_zero, gact_zero]
  | n + 1, k, a, s, h => by
    rw [Nat.add_right_comm]
    show (a % 2 * s) ^^^ gact (n + k) (a / 2) (gT s) = (a % 2 * s) ^^^ gact n (a / 2) (gT s)
    rw [gact_fuel n k (a / 2) (gT s) (by rw [Nat.pow_succ] at h; omega)]
/-- The polynomial of the register; times X, by it. -/
def gF : Nat := 2 ^ 80 + 2 ^ 62 + 2 ^ 51 + 2 ^ 38 + 2 ^ 23 + 2 ^ 13 + 1
def gA (a s : Nat) : Nat := gact 81 a s
theorem gact_mono : ∀ (n i s : Nat), i < n → gact n (2 ^ i) s = gIt i s
  | 0, _, _, h => by omega
  | n + 1, 0, s, _ => by
    show (2 ^ 0 % 2 * s) ^^^ gact n (2 ^ 0 / 2) (gT s) = s
    rw [show 2 ^ 0 / 2 = 0 by decide, gact_zero, Nat.xor_zero, show 2 ^ 0 % 2 = 1 by decide, Nat.one_mul]
  | n + 1, i + 1, s, h => by
    show (2 ^ (i + 1) % 2 * s) ^^^ gact n (2 ^ (i + 1) / 2) (gT s) = gIt i (gT s)
    rw [show 2 ^ (i + 1) % 2 = 0 by rw [Nat.pow_succ]; omega, show 2 ^ (i + 1) / 2 = 2 ^ i by rw [Nat.pow_succ]; omega, Nat.zero_mul, Nat.zero_xor]
    exact gact_mono n i (gT s) (by omega)
theorem gF_eq : gF = 2 ^ 80 ^^^ (2 ^ 62 ^^^ (2 ^ 51 ^^^ (2 ^ 38 ^^^ (2 ^ 23 ^^^ (2 ^ 13 ^^^ 2 ^ 0))))) := by decide
theorem gA_F {s : Nat} (h : s < g80) : gA gF s = 0 := by
  unfold gA
  rw [gF_eq, gact_xor, gact_xor, gact_xor, gact_xor, gact_xor, gact_xor, gact_mono _ _ _ (by decide), gact_mono _ _ _ (by decide), gact_mono _ _ _ (by decide), gact_mono _ _ _ (by decide), gact_mono _ _ _ (by decide), gact_mono _ _ _ (by decide), gact_mono _ _ _ (by decide), g_cayley h]
  exact Nat.xor_self _
def gX (b : Nat) : Nat := (2 * b) ^^^ (2 * b / g80 * gF)
theorem gX_lt {b : Nat} (h : b < g80) : gX b < g80 := by
  unfold gX
  have hq : 2 * b / g80 = 0 ∨ 2 * b / g80 = 1 := by unfold g80 at *; omega
  rcases hq with e | e
  · rw [e, Nat.zero_mul, Nat.xor_zero]
    unfold g80 at *
    omega
  · rw [e, Nat.one_mul, g80_eq]
    have hb : 2 ^ 80 ≤ 2 * b ∧ 2 * b < 2 ^ 81 := by unfold g80 at *; omega
    refine Nat.lt_pow_two_of_testBit _ fun i hi => ?_
    rw [Nat.testBit_xor]
    by_cases c : i = 80
    · subst c
      have h1 : (2 * b).testBit 80 = true := by
        rw [Nat.testBit_eq_decide_div_mod_eq, decide_eq_true_eq]
        have : 2 * b / 2 ^ 80 = 1 := by omega
        omega
      rw [h1, show gF.testBit 80 = true by decide]
      rfl
    · rw [Nat.testBit_lt_two_pow (Nat.lt_of_lt_of_le hb.2 (Nat.pow_le_pow_right (by decide) (by omega))), Nat.testBit_lt_two_pow (Nat.lt_of_lt_of_le (show gF < 2 ^ 81 by decide) (Nat.pow_le_pow_right (by decide) (by omega)))]
      rfl
theorem gA_twice {b s : Nat} (h : b < g80) : gA (2 * b) s = gA b (gT s) := by
  unfold gA
  show (2 * b % 2 * s) ^^^ gact 80 (2 * b / 2) (gT s) = gact 81 b (gT s)
  rw [show 2 * b % 2 = 0 by omega, show 2 * b / 2 = b by omega, Nat.zero_mul, Nat.zero_xor]
  exact (gact_fuel 80 1 b (gT s) (by rw [← g80_eq]; exact h)).symm
theorem gA_X {b s : Nat} (h : b < g80) (hs : s < g80) : gA (gX b) s = gT (gA b s) := by
  have e1 : gA (gX b) s = gA (2 * b) s := by
    unfold gX
    show gact 81 _ s = gact 81 _ s
    rw [gact_xor]
    have hq : 2 * b / g80 = 0 ∨ 2 * b / g80 = 1 := by unfold g80 at *; omega
    rcases hq with e | e
    · rw [e, Nat.zero_mul, gact_zero, Nat.xor_zero]
    · have h0 : gact 81 gF s = 0 := gA_F hs
      rw [e, Nat.one_mul, h0, Nat.xor_zero]
  rw [e1, gA_twice h]
  exact gact_turn 81 b hs
/-- Products of polynomials. -/
def gmul : Nat → Nat → Nat → Nat
  | 0, _, _ => 0
  | n + 1, a, b => (a % 2 * b) ^^^ gmul n (a / 2) (gX b)
theorem gmul_lt : ∀ (n a : Nat) {b : Nat}, b < g80 → gmul n a b < g80
  | 0, _, _, _ => by show 0 < g80; decide
  | n + 1, a, b, h => xor80 (bit_mul_lt h) (gmul_lt n (a / 2) (gX_lt h))
theorem gmul_act : ∀ (n a : Nat) {b s : Nat}, b < g80 → s < g80 → gA (gmul n a b) s = gact n a (gA b s)
  | 0, a, b, s, _, _ => gact_zero 81 s
  | n + 1, a, b, s, h, hs => by
    show gact 81 ((a % 2 * b) ^^^ gmul n (a / 2) (gX b)) s = (a % 2 * gA b s) ^^^ gact n (a / 2) (gT (gA b s))
    have ih := gmul_act n (a / 2) (gX_lt h) hs
    rw [gA_X h hs] at ih
    rw [gact_xor, ← ih]
    have e : gact 81 (a % 2 * b) s = a % 2 * gA b s := by
      rcases Nat.mod_two_eq_zero_or_one a with e | e
      · rw [e, Nat.zero_mul, Nat.zero_mul, gact_zero]
      · rw [e, Nat.one_mul, Nat.one_mul]; rfl
    rw [e]
    rfl
theorem gmul_A {a b s : Nat} (ha : a < g80) (hb : b < g80) (hs : s < g80) : gA (gmul 80 a b) s = gA a (gA b s) := by
  rw [gmul_act 80 a hb hs]
  exact (gact_fuel 80 1 a _ (by rw [← g80_eq]; exact ha)).symm
theorem gA_lt (a : Nat) {s : Nat} (h : s < g80) : gA a s < g80 := gact_lt 81 a h
theorem gA_one {s : Nat} : gA 1 s = s := gact_mono 81 0 s (by decide)
theorem gA_two {s : Nat} : gA 2 s = gT s := gact_mono 81 1 s (by decide)
/-- Powers: c stands for m turns, its power e for m e turns. -/
def gpw : Nat → Nat → Nat → Nat
  | 0, _, _ => 1
  | n + 1, e, c => gmul 80 (e % 2 * c + (1 - e % 2)) (gpw n (e / 2) (gmul 80 c c))
theorem gpw_lt : ∀ (n e : Nat) {c : Nat}, c < g80 → gpw n e c < g80
  | 0, _, _, _ => by show 1 < g80; decide
  | n + 1, e, c, h => gmul_lt 80 _ (gpw_lt n (e / 2) (gmul_lt 80 c h))
theorem gpw_act : ∀ (n e c m : Nat), c < g80 → e < 2 ^ n → (∀ s, s < g80 → gA c s = gIt m s) → ∀ s, s < g80 → gA (gpw n e c) s = gIt (m * e) s
  | 0, e, c, m, _, h, _, s, _ => by
    obtain rfl : e = 0 := by rw [Nat.pow_zero] at h; omega
    exact gA_one
  | n + 1, e, c, m, hc, h, hm, s, hs => by
    have hq : gpw n (e / 2) (gmul 80 c c) < g80 := gpw_lt n _ (gmul_lt 80 c hc)
    have ih := gpw_act n (e / 2) (gmul 80 c c) (m + m) (gmul_lt 80 c hc) (by rw [Nat.pow_succ] at h; omega) (fun s hs => by rw [gmul_A hc hc hs, hm _ (gA_lt c hs), hm s hs, gIt_add]) s hs
    have hx : e % 2 * c + (1 - e % 2) < g80 := by
      rcases Nat.mod_two_eq_zero_or_one e with f | f
      · rw [f]; simp; decide
      · rw [f]; simp; exact hc
    show gA (gmul 80 (e % 2 * c + (1 - e % 2)) (gpw n (e / 2) (gmul 80 c c))) s = _
    rw [gmul_A hx hq hs, ih]
    rcases Nat.mod_two_eq_zero_or_one e with f | f
    · rw [f, Nat.zero_mul, Nat.zero_add, Nat.sub_zero, gA_one]
      congr 1
      have : e = 2 * (e / 2) := by omega
      conv => rhs; rw [this]
      rw [← Nat.two_mul, Nat.mul_assoc, Nat.mul_left_comm]
    · rw [f, Nat.one_mul, Nat.sub_self, Nat.add_zero, hm _ (gIt_lt _ hs), ← gIt_add]
      congr 1
      have : e = 2 * (e / 2) + 1 := by omega
      conv => rhs; rw [this]
      rw [Nat.mul_add, Nat.mul_one, ← Nat.two_mul, Nat.mul_assoc, Nat.mul_left_comm]
end Go.Proofs.YtdepkfdceidikaaGreatDoor
/-
  The register of 80 bits comes back behind 2^80 - 1 turns, and never before. Plain arithmetic, nothing of the program.
-/
namespace Go.Proofs.YtdepkfdceidikaaGreatDoor
set_option linter.unusedVariables false

def gN : Nat := 1208925819614629174706175
def gPs : List Nat := [3, 5, 5, 11, 17, 31, 41, 257, 61681, 4278255361]
theorem gPs_prod : prodL gPs = gN := by decide
theorem gp3 : Prm 3 := prm_small (by decide) (by decide)
theorem gp5 : Prm 5 := prm_small (by decide) (by decide)
theorem gp2' : Prm 2 := prm_small (by decide) (by decide)
theorem gp11 : Prm 11 := prm_small (by decide) (by decide)
theorem gp17 : Prm 17 := prm_small (by decide) (by decide)
theorem gp31 : Prm 31 := prm_small (by decide) (by decide)
theorem gp41 : Prm 41 := prm_small (by decide) (by decide)
theorem gp257 : Prm 257 := prm_cert (g := 3) [2, 2, 2, 2, 2, 2, 2, 2] 9 (by
  intro r hr
  simp only [List.mem_cons, List.not_mem_nil, or_false, or_self] at hr
  subst hr
  exact gp2') (by decide +kernel)
theorem gp65537 : Prm 65537 := prm_cert (g := 3) [2, 2, 2, 2, 2, 2, 2, 2, 2, 2, 2, 2, 2, 2, 2, 2] 17 (by
  intro r hr
  simp only [List.mem_cons, List.not_mem_nil, or_false, or_self] at hr
  subst hr
  exact gp2') (by decide +kernel)
theorem gp61681 : Prm 61681 := prm_cert (g := 29) [2, 2, 2, 2, 3, 5, 257] 16 (by
  intro r hr
  simp only [List.mem_cons, List.not_mem_nil, or_false] at hr
  rcases hr with rfl | rfl | rfl | rfl | rfl | rfl | rfl
  · exact gp2'
  · exact gp2'
  · exact gp2'
  · exact gp2'
  · exact gp3
  · exact gp5
  · exact gp257) (by decide +kernel)
theorem gpBig : Prm 4278255361 := prm_cert (g := 23) [2, 2, 2, 2, 2, 2, 2, 2, 3, 5, 17, 65537] 32 (by
  intro r hr
  simp only [List.mem_cons, List.not_mem_nil, or_false] at hr
  rcases hr with rfl | rfl | rfl | rfl | rfl | rfl | rfl | rfl | rfl | rfl | rfl | rfl
  · exact gp2'
  · exact gp2'
  · exact gp2'
  · exact gp2'
  · exact gp2'
  · exact gp2'
  · exact gp2'
  · exact gp2'
  · exact gp3
  · exact gp5
  · exact gp17
  · exact gp65537) (by decide +kernel)
theorem gPs_prm : ∀ r ∈ gPs, Prm r := by
  intro r hr
  simp only [gPs, List.mem_cons, List.not_mem_nil, or_false] at hr
  rcases hr with rfl | rfl | rfl | rfl | rfl | rfl | rfl | rfl | rfl | rfl
  · exact gp3
  · exact gp5
  · exact gp5
  · exact gp11
  · exact gp17
  · exact gp31
  · exact gp41
  · exact gp257
  · exact gp61681
  · exact gpBig
/-- The checks, reckoned. -/
theorem g_full : gpw 80 gN 2 = 1 := by decide +kernel
theorem g_at3 : gmul 80 626585978286512781477397 (gpw 80 (gN / 3) 2 ^^^ 1) = 1 := by decide +kernel
theorem g_at5 : gmul 80 847140029551063439083571 (gpw 80 (gN / 5) 2 ^^^ 1) = 1 := by decide +kernel
theorem g_at11 : gmul 80 423046615815031885923465 (gpw 80 (gN / 11) 2 ^^^ 1) = 1 := by decide +kernel
theorem g_at17 : gmul 80 1155896398307893314045777 (gpw 80 (gN / 17) 2 ^^^ 1) = 1 := by decide +kernel
theorem g_at31 : gmul 80 183502464077304913684533 (gpw 80 (gN / 31) 2 ^^^ 1) = 1 := by decide +kernel
theorem g_at41 : gmul 80 375760536490022064001342 (gpw 80 (gN / 41) 2 ^^^ 1) = 1 := by decide +kernel
theorem g_at257 : gmul 80 676331498297951284148691 (gpw 80 (gN / 257) 2 ^^^ 1) = 1 := by decide +kernel
theorem g_at61681 : gmul 80 396894167770810043337993 (gpw 80 (gN / 61681) 2 ^^^ 1) = 1 := by decide +kernel
theorem g_at4278255361 : gmul 80 273558259875724820181296 (gpw 80 (gN / 4278255361) 2 ^^^ 1) = 1 := by decide +kernel

theorem gA_it (s : Nat) (hs : s < g80) : gA 2 s = gIt 1 s := gA_two
theorem gIt_N {s : Nat} (h : s < g80) : gIt gN s = s := by
  have h1 := gpw_act 80 gN 2 1 (by decide) (by decide) gA_it s h
  rw [g_full, gA_one, Nat.one_mul] at h1
  exact h1.symm
theorem g_not {s u q : Nat} (h : s < g80) (hq : gN / q < 2 ^ 80) (hu : u < g80) (hc : gmul 80 u (gpw 80 (gN / q) 2 ^^^ 1) = 1) (hp : gIt (gN / q) s = s) : s = 0 := by
  have h1 := gpw_act 80 (gN / q) 2 1 (by decide) hq gA_it s h
  rw [Nat.one_mul, hp] at h1
  have hlt : gpw 80 (gN / q) 2 < g80 := gpw_lt 80 _ (by decide)
  have h2 : gA (gpw 80 (gN / q) 2 ^^^ 1) s = 0 := by
    have e := gact_xor 81 (gpw 80 (gN / q) 2) 1 s
    have h1' : gact 81 (gpw 80 (gN / q) 2) s = s := h1
    have h3 : gact 81 1 s = s := gA_one
    rw [h1', h3, Nat.xor_self] at e
    exact e
  have h3 := gmul_A (b := gpw 80 (gN / q) 2 ^^^ 1) hu (xor80 hlt (by decide)) h
  rw [hc, h2, gA_one] at h3
  rw [h3]
  exact gact_nil 81 u
theorem g_prime {s : Nat} (h : s < g80) {q : Nat} (hq : q ∈ gPs) (hp : gIt (gN / q) s = s) : s = 0 := by
  simp only [gPs, List.mem_cons, List.not_mem_nil, or_false] at hq
  rcases hq with rfl | rfl | rfl | rfl | rfl | rfl | rfl | rfl | rfl | rfl
  · exact g_not h (by decide) (by decide) g_at3 hp
  · exact g_not h (by decide) (by decide) g_at5 hp
  · exact g_not h (by decide) (by decide) g_at5 hp
  · exact g_not h (by decide) (by decide) g_at11 hp
  · exact g_not h (by decide) (by decide) g_at17 hp
  · exact g_not h (by decide) (by decide) g_at31 hp
  · exact g_not h (by decide) (by decide) g_at41 hp
  · exact g_not h (by decide) (by decide) g_at257 hp
  · exact g_not h (by decide) (by decide) g_at61681 hp
  · exact g_not h (by decide) (by decide) g_at4278255361 hp
theorem g_rest {s a b : Nat} (ha : gIt a s = s) (hb : gIt b s = s) : gIt (a % b) s = s := by
  have e : gIt a s = gIt (a % b) (gIt (b * (a / b)) s) := by rw [← gIt_add, Nat.div_add_mod]
  rw [gIt_mul b s _ hb, ha] at e
  exact e.symm
theorem g_gcd {s : Nat} (a b : Nat) : gIt a s = s → gIt b s = s → gIt (Nat.gcd a b) s = s := by
  induction a, b using Nat.gcd.induction with
  | H0 n => intro _ hb; rw [Nat.gcd_zero_left]; exact hb
  | H1 m n hm ih => intro ha hb; rw [Nat.gcd_rec]; exact ih (g_rest hb ha) ha
theorem g_order {s d : Nat} (h : s < g80) (h0 : s ≠ 0) (hd0 : 0 < d) (hd : d < gN) : gIt d s ≠ s := by
  intro hp
  have hg := g_gcd d gN hp (gIt_N h)
  have hdv := Nat.gcd_dvd_right d gN
  have hle := Nat.le_of_dvd hd0 (Nat.gcd_dvd_left d gN)
  generalize Nat.gcd d gN = g at *
  obtain ⟨m, hm⟩ := hdv
  have hm1 : 1 < m := by
    rcases Nat.lt_or_ge 1 m with h' | h'
    · exact h'
    · have : g * m ≤ g * 1 := Nat.mul_le_mul_left g h'
      omega
  obtain ⟨q, hq, ⟨k, hk⟩⟩ := prm_factor m m (Nat.le_refl _) hm1
  have hqm : q ∈ gPs := hq.mem gPs gPs_prm (by rw [gPs_prod, hm, hk]; exact ⟨g * k, by rw [Nat.mul_left_comm]⟩)
  refine h0 (g_prime h hqm ?_)
  have e : gN / q = g * k := by
    rw [hm, hk, Nat.mul_left_comm]
    exact Nat.mul_div_cancel_left _ (by have := hq.1; omega)
  rw [e]
  exact gIt_mul g s k hg
theorem gIt_ne {s : Nat} (h : s < g80) (h0 : s ≠ 0) {i : Nat} (hi : i ≤ gN) : gIt i s ≠ 0 := by
  intro e
  have := gIt_N h
  rw [show gN = i + (gN - i) by omega, gIt_add, e, gIt_zero] at this
  exact h0 this.symm
theorem gIt_inj {s i j : Nat} (h : s < g80) (h0 : s ≠ 0) (hi : i < gN) (hj : j < gN) (e : gIt i s = gIt j s) : i = j := by
  have key : ∀ i j, i < j → j < gN → gIt i s = gIt j s → False := by
    intro i j hij hj e
    have h1 : gIt (i + (gN - j)) s = s := by
      rw [gIt_add, e, ← gIt_add, show j + (gN - j) = gN by omega]
      exact gIt_N h
    exact g_order h h0 (by omega) (by omega) h1
  rcases Nat.lt_trichotomy i j with h' | h' | h'
  · exact (key i j h' hj e).elim
  · exact h'
  · exact (key j i h' hi e.symm).elim
/-- Each register but zero comes, from each. -/
theorem g_reach {s y : Nat} (h : s < g80) (h0 : s ≠ 0) (hy : y < g80) (hy0 : y ≠ 0) : ∃ k, gIt k s = y := by
  have hb : ∀ i, i < gN → gIt i s - 1 < gN := fun i hi => by
    have h1 := gIt_lt i h
    have h2 := gIt_ne h h0 (Nat.le_of_lt hi)
    unfold g80 at h1
    unfold gN
    omega
  obtain ⟨i, hi, e⟩ := pigeon gN (fun i => gIt i s - 1) hb (fun i j hi hj e => by
    have h2 := gIt_ne h h0 (Nat.le_of_lt hi)
    have h3 := gIt_ne h h0 (Nat.le_of_lt hj)
    have e' : gIt i s - 1 = gIt j s - 1 := e
    exact gIt_inj h h0 hi hj (by omega)) (y - 1) (by unfold g80 at hy; unfold gN; omega)
  have h2 := gIt_ne h h0 (Nat.le_of_lt hi)
  have e' : gIt i s - 1 = y - 1 := e
  exact ⟨i, by omega⟩
/-- Also by pairs of turns. -/
theorem g_reach2 {s y : Nat} (h : s < g80) (h0 : s ≠ 0) (hy : y < g80) (hy0 : y ≠ 0) : ∃ k, gIt (2 * k) s = y := by
  obtain ⟨j, e⟩ := g_reach h h0 hy hy0
  rcases Nat.mod_two_eq_zero_or_one j with f | f
  · exact ⟨j / 2, by rw [show 2 * (j / 2) = j by omega]; exact e⟩
  · refine ⟨(j + gN) / 2, ?_⟩
    rw [show 2 * ((j + gN) / 2) = gN + j by unfold gN; omega, gIt_add, gIt_N h]
    exact e
end Go.Proofs.YtdepkfdceidikaaGreatDoor
/-
  The next bit of a source, the bits behind it; that of any source's blocks of 254 bits one begins with 0, or with 1 and 0. Plain arithmetic, nothing of the program.
-/
namespace Go.Proofs.YtdepkfdceidikaaGreatDoor
set_option linter.unusedVariables false

theorem least {P : Nat → Prop} (h : ∃ n, P n) : ∃ n, P n ∧ ∀ m, m < n → ¬ P m := by
  obtain ⟨n, hn⟩ := h
  induction n using Nat.strongRecOn with
  | _ n ih =>
    by_cases c : ∃ m, m < n ∧ P m
    · obtain ⟨m, hm, hp⟩ := c
      exact ih m hm hp
    · exact ⟨n, hn, fun m hm hp => c ⟨m, hm, hp⟩⟩
/-- A register that is not zero. -/
structure GS (s : Nat) : Prop where
  lt : s < g80
  ne : s ≠ 0
theorem gT_ne {s : Nat} (h : GS s) : GS (gT s) := ⟨gT_lt h.lt, gIt_ne (i := 1) h.lt h.ne (by decide)⟩
theorem GS.it {s : Nat} (h : GS s) : ∀ n, GS (gIt n s)
  | 0 => h
  | n + 1 => GS.it (gT_ne h) n
theorem gtap_one : gtap 1 = true := by decide
theorem gtap_zero : gtap 0 = false := by decide
theorem gnx_ex {s : Nat} (h : GS s) : ∃ k, gtap (gIt (2 * k) s) = true := by
  obtain ⟨k, e⟩ := g_reach2 (y := 1) h.lt h.ne (by decide) (by decide)
  exact ⟨k, by rw [e]; exact gtap_one⟩
/-- How many pairs of turns are passed over. -/
noncomputable def gnx (s : Nat) : Nat := open Classical in if h : ∃ k, gtap (gIt (2 * k) s) = true then Classical.choose (least h) else 0
theorem gnx_spec {s : Nat} (h : GS s) : gtap (gIt (2 * gnx s) s) = true ∧ ∀ k, k < gnx s → gtap (gIt (2 * k) s) = false := by
  have hx := gnx_ex h
  have hs := Classical.choose_spec (least hx)
  have e : gnx s = Classical.choose (least hx) := by unfold gnx; rw [dif_pos hx]
  rw [← e] at hs
  refine ⟨hs.1, fun k hk => ?_⟩
  have := hs.2 k hk
  cases hb : gtap (gIt (2 * k) s)
  · rfl
  · exact absurd hb this
theorem gnx_eq {s k : Nat} (h : GS s) (h1 : gtap (gIt (2 * k) s) = true) (h2 : ∀ j, j < k → gtap (gIt (2 * j) s) = false) : gnx s = k := by
  obtain ⟨g1, g2⟩ := gnx_spec h
  rcases Nat.lt_trichotomy (gnx s) k with c | c | c
  · have := h2 _ c; rw [g1] at this; cases this
  · exact c
  · have := g2 _ c; rw [h1] at this; cases this
/-- The register of the pair that counts; the next bit; the register behind it; behind n bits. -/
noncomputable def ghd (s : Nat) : Nat := gIt (2 * gnx s) s
noncomputable def gbit (s : Nat) : Bool := gtap (gT (ghd s))
noncomputable def gnext (s : Nat) : Nat := gIt 2 (ghd s)
noncomputable def gns : Nat → Nat → Nat
  | 0, s => s
  | n + 1, s => gns n (gnext s)
theorem GS.hd {s : Nat} (h : GS s) : GS (ghd s) := h.it _
theorem GS.next {s : Nat} (h : GS s) : GS (gnext s) := h.hd.it 2
theorem GS.ns : ∀ (n : Nat) {s : Nat}, GS s → GS (gns n s)
  | 0, _, h => h
  | n + 1, _, h => GS.ns n h.next
theorem gns_add : ∀ (m n s : Nat), gns (m + n) s = gns n (gns m s)
  | 0, n, s => by rw [Nat.zero_add]; rfl
  | m + 1, n, s => by rw [Nat.add_right_comm]; exact gns_add m n (gnext s)
theorem ghd_tap {s : Nat} (h : GS s) : gtap (ghd s) = true := (gnx_spec h).1
theorem ghd_self {s : Nat} (h : GS s) (ht : gtap s = true) : ghd s = s := by
  have e : gnx s = 0 := gnx_eq h ht (fun j hj => by omega)
  unfold ghd
  rw [e]
  rfl
/-- From one register that counts to the next. -/
noncomputable def gR (y : Nat) : Nat := ghd (gIt 2 y)
noncomputable def gRn : Nat → Nat → Nat
  | 0, y => y
  | n + 1, y => gRn n (gR y)
theorem gRn_add : ∀ (m n y : Nat), gRn (m + n) y = gRn n (gRn m y)
  | 0, n, y => by rw [Nat.zero_add]; rfl
  | m + 1, n, y => by rw [Nat.add_right_comm]; exact gRn_add m n (gR y)
theorem gRn_mul (m y : Nat) : ∀ k, gRn m y = y → gRn (m * k) y = y
  | 0, _ => rfl
  | k + 1, h => by rw [Nat.mul_succ, gRn_add, gRn_mul m y k h, h]
theorem ghd_ns : ∀ (n s : Nat), ghd (gns n s) = gRn n (ghd s)
  | 0, _ => rfl
  | n + 1, s => ghd_ns n (gnext s)
structure GC (y : Nat) : Prop where
  s : GS y
  t : gtap y = true
theorem GC.hd {s : Nat} (h : GS s) : GC (ghd s) := ⟨h.hd, ghd_tap h⟩
theorem GC.R {y : Nat} (h : GC y) : GC (gR y) := GC.hd (h.s.it 2)
theorem GC.Rn : ∀ (n : Nat) {y : Nat}, GC y → GC (gRn n y)
  | 0, _, h => h
  | n + 1, _, h => GC.Rn n h.R
/-- Whoever counts comes, from whoever counts. -/
theorem gR_step : ∀ (k : Nat) {y z : Nat}, GC y → GC z → gIt (2 * k) y = z → ∃ m, gRn m y = z := by
  intro k
  induction k using Nat.strongRecOn with
  | _ k ih =>
    intro y z hy hz e
    rcases Nat.eq_zero_or_pos k with h0 | h0
    · subst h0
      exact ⟨0, e⟩
    · have e1 : gIt (2 * (k - 1)) (gIt 2 y) = z := by
        rw [← gIt_add, show 2 + 2 * (k - 1) = 2 * k by omega]
        exact e
      have hy1 := hy.s.it 2
      have hle : gnx (gIt 2 y) ≤ k - 1 := by
        rcases Nat.lt_or_ge (k - 1) (gnx (gIt 2 y)) with c | c
        · have := (gnx_spec hy1).2 _ c
          rw [e1, hz.t] at this
          cases this
        · exact c
      have e2 : gIt (2 * (k - 1 - gnx (gIt 2 y))) (gR y) = z := by
        show gIt _ (gIt (2 * gnx (gIt 2 y)) (gIt 2 y)) = z
        rw [← gIt_add, show 2 * gnx (gIt 2 y) + 2 * (k - 1 - gnx (gIt 2 y)) = 2 * (k - 1) by omega]
        exact e1
      obtain ⟨m, hm⟩ := ih _ (by omega) hy.R hz e2
      exact ⟨m + 1, hm⟩
theorem gR_reach {y z : Nat} (hy : GC y) (hz : GC z) : ∃ m, gRn m y = z := by
  obtain ⟨k, e⟩ := g_reach2 hy.s.lt hy.s.ne hz.s.lt hz.s.ne
  exact gR_step k hy hz e
/-- Counting by maps. -/
theorem inj_le {c M : Nat} (f : Nat → Nat) (hf : ∀ i, i < c → f i < M) (hi : ∀ i j, i < c → j < c → f i = f j → i = j) : c ≤ M := by
  rcases Nat.lt_or_ge M c with h | h
  · obtain ⟨i, h1, h2⟩ := pigeon (M + 1) f (fun i hi' => Nat.lt_succ_of_lt (hf i (by omega))) (fun i j h1 h2 e => hi i j (by omega) (by omega) e) M (by omega)
    have := hf i (by omega)
    omega
  · exact h
theorem surj_le {c M : Nat} (f : Nat → Nat) (hs : ∀ y, y < M → ∃ i, i < c ∧ f i = y) : M ≤ c := by
  have hg : ∀ y, ∃ i, y < M → i < c ∧ f i = y := fun y => by
    by_cases h : y < M
    · obtain ⟨i, h1⟩ := hs y h
      exact ⟨i, fun _ => h1⟩
    · exact ⟨0, fun h' => absurd h' h⟩
  let g : Nat → Nat := fun y => Classical.choose (hg y)
  have hgs : ∀ y, y < M → g y < c ∧ f (g y) = y := fun y => Classical.choose_spec (hg y)
  refine inj_le g (fun y hy => (hgs y hy).1) fun i j hi hj e => ?_
  have h1 := (hgs i hi).2
  have h2 := (hgs j hj).2
  rw [e] at h1
  exact h1.symm.trans h2
/-- Of two registers that differ in their first bit alone just one counts. -/
theorem gtap_flip (v : Nat) : gtap (2 * v + 1) = !gtap (2 * v) := by
  have h : ∀ i, (2 * v + 1).testBit (i + 1) = (2 * v).testBit (i + 1) := fun i => by
    rw [Nat.testBit_succ, Nat.testBit_succ, show (2 * v + 1) / 2 = v by omega, show 2 * v / 2 = v by omega]
  have h1 : (2 * v + 1).testBit 0 = true := by rw [Nat.testBit_zero, decide_eq_true_eq]; omega
  have h2 : (2 * v).testBit 0 = false := by rw [Nat.testBit_zero, decide_eq_false_iff_not]; omega
  unfold gtap
  rw [h 61, h 50, h 37, h 22, h 12, h1, h2]
  cases (2 * v).testBit (61 + 1) <;> cases (2 * v).testBit (50 + 1) <;> cases (2 * v).testBit (37 + 1) <;> cases (2 * v).testBit (22 + 1) <;> cases (2 * v).testBit (12 + 1) <;> rfl
theorem gC_half {x y : Nat} (hx : gtap x = true) (hy : gtap y = true) (e : x / 2 = y / 2) : x = y := by
  have h := gtap_flip (x / 2)
  have hx2 : x = 2 * (x / 2) ∨ x = 2 * (x / 2) + 1 := by omega
  have hy2 : y = 2 * (x / 2) ∨ y = 2 * (x / 2) + 1 := by omega
  rcases hx2 with a | a <;> rcases hy2 with b | b
  · omega
  · rw [b] at hy; rw [a] at hx; rw [h, hx] at hy; cases hy
  · rw [b] at hy; rw [a] at hx; rw [h, hy] at hx; cases hx
  · omega
def gH : Nat := 604462909807314587353088
theorem gC_of {v : Nat} (hv : v < gH) : ∃ x, GC x ∧ x / 2 = v := by
  have h := gtap_flip v
  unfold gH at hv
  cases c : gtap (2 * v)
  · rw [c] at h
    exact ⟨2 * v + 1, ⟨⟨by unfold g80; omega, by omega⟩, h⟩, by omega⟩
  · refine ⟨2 * v, ⟨⟨by unfold g80; omega, fun e => ?_⟩, c⟩, by omega⟩
    rw [e, gtap_zero] at c
    cases c
/-- Whoever counts comes back behind 2^79 bits. -/
theorem gR_full {y : Nat} (hy : GC y) : gRn gH y = y := by
  obtain ⟨m0, hm0⟩ := gR_reach hy.R hy
  obtain ⟨c, ⟨hc0, hc⟩, hmin⟩ := least (P := fun c => 0 < c ∧ gRn c y = y) ⟨m0 + 1, by omega, hm0⟩
  have hdist : ∀ i j, i < c → j < c → gRn i y = gRn j y → i = j := by
    have key : ∀ i j, i < j → j < c → gRn i y = gRn j y → False := by
      intro i j hij hj e
      refine hmin (i + (c - j)) (by omega) ⟨by omega, ?_⟩
      rw [gRn_add, e, ← gRn_add, show j + (c - j) = c by omega]
      exact hc
    intro i j hi hj e
    rcases Nat.lt_trichotomy i j with h' | h' | h'
    · exact (key i j h' hj e).elim
    · exact h'
    · exact (key j i h' hi e.symm).elim
  have h1 : c ≤ gH := inj_le (fun i => gRn i y / 2) (fun i _ => by
    have := (GC.Rn i hy).s.lt
    show gRn i y / 2 < gH
    unfold g80 at this
    unfold gH
    omega) (fun i j hi hj e => hdist i j hi hj (gC_half (GC.Rn i hy).t (GC.Rn j hy).t e))
  have h2 : gH ≤ c := surj_le (fun i => gRn i y / 2) (fun v hv => by
    obtain ⟨x, hx, e⟩ := gC_of hv
    obtain ⟨m, hm⟩ := gR_reach hy hx
    refine ⟨m % c, Nat.mod_lt _ hc0, ?_⟩
    show gRn (m % c) y / 2 = v
    have e2 : gRn m y = gRn (m % c) (gRn (c * (m / c)) y) := by rw [← gRn_add, Nat.div_add_mod]
    rw [gRn_mul c y _ hc] at e2
    rw [← e2, hm, e])
  rw [show gH = c by omega]
  exact hc
def gI127 : Nat := 149925839834097712611199
theorem gI127_ok : 254 * gI127 = 2 + gH * 63 := by decide
theorem g_blocks {y : Nat} (hy : GC y) : ∃ j, gRn (254 * j) y = 1 ∨ gRn (254 * j + 1) y = 1 := by
  have h1 : GC 1 := ⟨⟨by decide, by decide⟩, gtap_one⟩
  obtain ⟨t, ht⟩ := gR_reach hy h1
  have key : ∀ r, gRn (254 * (r * gI127)) y = gRn (2 * r) y := fun r => by
    have e : 254 * (r * gI127) = gH * (63 * r) + 2 * r := by
      rw [Nat.mul_left_comm, gI127_ok, Nat.mul_add, Nat.mul_comm r 2, Nat.add_comm, Nat.mul_comm r, Nat.mul_assoc]
    rw [e, gRn_add, gRn_mul gH y _ (gR_full hy)]
  refine ⟨t / 2 * gI127, ?_⟩
  rcases Nat.mod_two_eq_zero_or_one t with f | f
  · left
    rw [key, show 2 * (t / 2) = t by omega]
    exact ht
  · right
    rw [gRn_add, key, ← gRn_add, show 2 * (t / 2) + 1 = t by omega]
    exact ht
theorem g_zero {s : Nat} (h : GS s) : ∃ j, gbit (gns (254 * j) s) = false ∨ gbit (gns (254 * j + 1) s) = false := by
  have h0 : gtap (gT 1) = false := by decide
  obtain ⟨j, e | e⟩ := g_blocks (GC.hd h)
  · exact ⟨j, Or.inl (by unfold gbit; rw [ghd_ns, e]; exact h0)⟩
  · exact ⟨j, Or.inr (by unfold gbit; rw [ghd_ns, e]; exact h0)⟩
/-- The number of n next bits, the highest one first. -/
noncomputable def gval : Nat → Nat → Nat
  | 0, _ => 0
  | n + 1, s => (gbit s).toNat * 2 ^ n + gval n (gnext s)
theorem bool_le (b : Bool) : b.toNat ≤ 1 := by cases b <;> decide
theorem gval_lt : ∀ (n s : Nat), gval n s < 2 ^ n
  | 0, _ => by show 0 < 2 ^ 0; decide
  | n + 1, s => by
    show (gbit s).toNat * 2 ^ n + gval n (gnext s) < _
    have h1 := gval_lt n (gnext s)
    have h2 : (gbit s).toNat * 2 ^ n ≤ 1 * 2 ^ n := Nat.mul_le_mul_right _ (bool_le _)
    rw [Nat.pow_succ]
    omega
/-- One bit more at the end. -/
theorem gval_last : ∀ (n s : Nat), gval (n + 1) s = 2 * gval n s + (gbit (gns n s)).toNat
  | 0, s => by
    show (gbit s).toNat * 2 ^ 0 + 0 = 2 * 0 + (gbit s).toNat
    rw [Nat.pow_zero, Nat.mul_one, Nat.add_zero, Nat.mul_zero, Nat.zero_add]
  | n + 1, s => by
    show (gbit s).toNat * 2 ^ (n + 1) + gval (n + 1) (gnext s) = 2 * ((gbit s).toNat * 2 ^ n + gval n (gnext s)) + (gbit (gns n (gnext s))).toNat
    rw [gval_last n (gnext s), Nat.mul_add, Nat.pow_succ]
    have : (gbit s).toNat * (2 ^ n * 2) = 2 * ((gbit s).toNat * 2 ^ n) := by rw [Nat.mul_comm (2 ^ n), Nat.mul_left_comm]
    omega
/-- Of a source's blocks of 254 bits one is small. -/
theorem g_small {s : Nat} (h : GS s) : ∃ j, gval 254 (gns (254 * j) s) < 2 ^ 253 + 2 ^ 252 := by
  obtain ⟨j, e⟩ := g_zero h
  refine ⟨j, ?_⟩
  rw [gns_add] at e
  generalize gns (254 * j) s = x at *
  show (gbit x).toNat * 2 ^ 253 + ((gbit (gnext x)).toNat * 2 ^ 252 + gval 252 (gnext (gnext x))) < _
  have h2 := gval_lt 252 (gnext (gnext x))
  have hb := bool_le (gbit x)
  have hc := bool_le (gbit (gnext x))
  generalize gval 252 (gnext (gnext x)) = v at *
  rcases e with e | e
  · rw [e]
    have : (gbit (gnext x)).toNat * 2 ^ 252 ≤ 1 * 2 ^ 252 := Nat.mul_le_mul_right _ hc
    simp only [Bool.toNat_false, Nat.zero_mul]
    have e2 : (2 : Nat) ^ 253 = 2 ^ 252 * 2 := rfl
    omega
  · have e' : gbit (gnext x) = false := e
    rw [e']
    have : (gbit x).toNat * 2 ^ 253 ≤ 1 * 2 ^ 253 := Nat.mul_le_mul_right _ hb
    simp only [Bool.toNat_false, Nat.zero_mul]
    omega
end Go.Proofs.YtdepkfdceidikaaGreatDoor
