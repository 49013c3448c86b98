import Derived.Test.YtdepkfdceidikaaGreatDoorFNum
/-
  Primes, and certificates of them (Lucas, Pratt): plain arithmetic, nothing of the program.
-/
namespace Go.Proofs.YtdepkfdceidikaaGreatDoor

/-- A prime. -/
def Prm (p : Nat) : Prop := 1 < p ∧ ∀ d, d ∣ p → d = 1 ∨ d = p

theorem prm_factor : ∀ (n m : Nat), m ≤ n → 1 < m → ∃ q, Prm q ∧ q ∣ m
  | 0, m, h, h1 => by omega
  | n + 1, m, h, h1 => by
    by_cases hp : ∀ d, d ∣ m → d = 1 ∨ d = m
    · exact ⟨m, ⟨h1, hp⟩, Nat.dvd_refl m⟩
    · obtain ⟨d, hd⟩ := Classical.not_forall.1 hp
      have hdm : d ∣ m := Classical.byContradiction fun h' => hd fun h'' => absurd h'' h'
      have hne : ¬ (d = 1 ∨ d = m) := fun h' => hd fun _ => h'
      have hle := Nat.le_of_dvd (by omega) hdm
      have h0 : d ≠ 0 := by rintro rfl; have := Nat.eq_zero_of_zero_dvd hdm; omega
      obtain ⟨q, hq, hqd⟩ := prm_factor n d (by omega) (by omega)
      exact ⟨q, hq, Nat.dvd_trans hqd hdm⟩
theorem Prm.dvd_mul {q a b : Nat} (hq : Prm q) (h : q ∣ a * b) : q ∣ a ∨ q ∣ b := by
  rcases hq.2 (Nat.gcd q a) (Nat.gcd_dvd_left q a) with h1 | h1
  · exact Or.inr (Nat.Coprime.dvd_of_dvd_mul_left h1 h)
  · exact Or.inl (h1 ▸ Nat.gcd_dvd_right q a)
def prodL : List Nat → Nat
  | [] => 1
  | a :: l => a * prodL l
theorem Prm.mem {q : Nat} (hq : Prm q) : ∀ l : List Nat, (∀ r ∈ l, Prm r) → q ∣ prodL l → q ∈ l
  | [], _, h => by
    have := Nat.eq_one_of_dvd_one h
    have := hq.1
    omega
  | a :: l, hl, h => by
    rcases hq.dvd_mul h with h1 | h1
    · rcases (hl a (by simp)).2 q h1 with h2 | h2
      · have := hq.1; omega
      · rw [h2]; simp
    · have := hq.mem l (fun r hr => hl r (by simp [hr])) h1
      simp [this]

/-- Whoever maps the numbers below n into themselves, no two to one, comes to each. -/
theorem pigeon : ∀ (n : Nat) (f : Nat → Nat), (∀ i, i < n → f i < n) → (∀ i j, i < n → j < n → f i = f j → i = j) → ∀ y, y < n → ∃ i, i < n ∧ f i = y
  | 0, _, _, _, y, hy => by omega
  | n + 1, f, hf, hi, y, hy => by
    have hv := hf n (by omega)
    have main := pigeon n (fun i => if f i = n then f n else f i)
      (fun i h => by
        have h1 := hf i (by omega)
        show (if f i = n then f n else f i) < n
        split
        · rename_i e
          have : f n ≠ n := fun e' => by have := hi i n (by omega) (by omega) (e.trans e'.symm); omega
          omega
        · omega)
      (fun i j h h' e => by
        have e : (if f i = n then f n else f i) = (if f j = n then f n else f j) := e
        by_cases a : f i = n <;> by_cases b : f j = n
        · exact hi i j (by omega) (by omega) (a.trans b.symm)
        · rw [if_pos a, if_neg b] at e
          have := hi n j (by omega) (by omega) e; omega
        · rw [if_neg a, if_pos b] at e
          have := hi i n (by omega) (by omega) e; omega
        · rw [if_neg a, if_neg b] at e
          exact hi i j (by omega) (by omega) e)
    by_cases h1 : y = f n
    · exact ⟨n, by omega, h1.symm⟩
    · by_cases h2 : y = n
      · obtain ⟨i, hin, e⟩ := main (f n) (by omega)
        have e : (if f i = n then f n else f i) = f n := e
        by_cases a : f i = n
        · exact ⟨i, by omega, a.trans h2.symm⟩
        · rw [if_neg a] at e
          have := hi i n (by omega) (by omega) e; omega
      · obtain ⟨i, hin, e⟩ := main y (by omega)
        have e : (if f i = n then f n else f i) = y := e
        by_cases a : f i = n
        · rw [if_pos a] at e; exact absurd e.symm h1
        · rw [if_neg a] at e; exact ⟨i, by omega, e⟩

theorem pow_one_mod {p g : Nat} (hp : 1 < p) {a : Nat} (h : g ^ a % p = 1) (k : Nat) : g ^ (a * k) % p = 1 := by
  rw [Nat.pow_mul, Nat.pow_mod, h, Nat.one_pow, Nat.mod_eq_of_lt hp]
theorem pow_rest {p g : Nat} (hp : 1 < p) {a b : Nat} (ha : g ^ a % p = 1) (hb : g ^ b % p = 1) : g ^ (a % b) % p = 1 := by
  have h : g ^ (b * (a / b) + a % b) % p = 1 := by rw [Nat.div_add_mod]; exact ha
  rw [Nat.pow_add, Nat.mul_mod, pow_one_mod hp hb, Nat.one_mul, Nat.mod_mod] at h
  exact h
theorem pow_gcd {p g : Nat} (hp : 1 < p) : ∀ (a b : Nat), g ^ a % p = 1 → g ^ b % p = 1 → g ^ (Nat.gcd a b) % p = 1 := by
  intro a b
  induction a, b using Nat.gcd.induction with
  | H0 n => intro _ h; rw [Nat.gcd_zero_left]; exact h
  | H1 m n hm ih =>
    intro h1 h2
    rw [Nat.gcd_rec]
    exact ih (pow_rest hp h2 h1) h1

/-- A number one of whose powers is 1, and no earlier one: its powers are all there is. -/
theorem lucas {p g : Nat} (l : List Nat) (hp : 1 < p) (hl : ∀ r ∈ l, Prm r) (hprod : prodL l = p - 1) (h1 : g ^ (p - 1) % p = 1) (hne : ∀ r ∈ l, g ^ ((p - 1) / r) % p ≠ 1) :
    ∀ x, 0 < x → x < p → x ^ (p - 1) % p = 1 := by
  -- no power of a smaller exponent is 1
  have least : ∀ d, 0 < d → d < p - 1 → g ^ d % p ≠ 1 := by
    intro d h0 hd e
    have hg := pow_gcd hp d (p - 1) e h1
    have hgd : Nat.gcd d (p - 1) ≤ d := Nat.le_of_dvd h0 (Nat.gcd_dvd_left _ _)
    have hg0 : 0 < Nat.gcd d (p - 1) := Nat.gcd_pos_of_pos_left _ h0
    obtain ⟨m, hm⟩ := Nat.gcd_dvd_right d (p - 1)
    generalize Nat.gcd d (p - 1) = k at *
    have hm1 : 1 < m := by
      rcases Nat.lt_or_ge 1 m with h | h
      · exact h
      · have : k * m ≤ k * 1 := Nat.mul_le_mul_left k h
        omega
    obtain ⟨q, hq, t, ht⟩ := prm_factor m m (Nat.le_refl _) hm1
    have hqn : q ∣ prodL l := by rw [hprod, hm, ht]; exact ⟨k * t, by rw [Nat.mul_left_comm]⟩
    have hmem := hq.mem l hl hqn
    refine hne q hmem ?_
    have : (p - 1) / q = k * t := by
      rw [hm, ht, Nat.mul_left_comm]
      exact Nat.mul_div_cancel_left _ (by have := hq.1; omega)
    rw [this]
    exact pow_one_mod hp hg t
  -- no power is 0
  have hz : ∀ i, i ≤ p - 1 → g ^ i % p ≠ 0 := by
    intro i hi e
    have : g ^ (i + (p - 1 - i)) % p = 0 := by rw [Nat.pow_add, Nat.mul_mod, e, Nat.zero_mul, Nat.zero_mod]
    rw [show i + (p - 1 - i) = p - 1 by omega, h1] at this
    omega
  have inj : ∀ i j, i < p - 1 → j < p - 1 → i ≤ j → g ^ i % p = g ^ j % p → i = j := by
    intro i j hi hj hij e
    rcases Nat.lt_or_ge i j with hlt | hge
    · exfalso
      refine least (j - i) (by omega) (by omega) ?_
      have e2 : g ^ (j + (p - 1 - i)) % p = g ^ (i + (p - 1 - i)) % p := by
        rw [Nat.pow_add, Nat.pow_add, Nat.mul_mod, ← e, ← Nat.mul_mod]
      rw [show i + (p - 1 - i) = p - 1 by omega, h1, show j + (p - 1 - i) = (p - 1) + (j - i) by omega, Nat.pow_add, Nat.mul_mod, h1, Nat.one_mul, Nat.mod_mod] at e2
      exact e2
    · omega
  intro x hx0 hx
  obtain ⟨i, hi, e⟩ := pigeon (p - 1) (fun i => g ^ i % p - 1)
    (fun i h => by
      have h1 := hz i (by omega)
      have h2 := Nat.mod_lt (g ^ i) (show 0 < p by omega)
      show g ^ i % p - 1 < p - 1
      omega)
    (fun i j h h' e => by
      have a := hz i (by omega)
      have b := hz j (by omega)
      have e : g ^ i % p - 1 = g ^ j % p - 1 := e
      have e' : g ^ i % p = g ^ j % p := by omega
      rcases Nat.le_total i j with hij | hij
      · exact inj i j h h' hij e'
      · exact (inj j i h' h hij e'.symm).symm)
    (x - 1) (by omega)
  have e : g ^ i % p - 1 = x - 1 := e
  have hzi := hz i (by omega)
  have hxe : x = g ^ i % p := by omega
  rw [hxe, ← Nat.pow_mod, ← Nat.pow_mul, Nat.mul_comm]
  exact pow_one_mod hp h1 i
theorem prm_of {p : Nat} (hp : 1 < p) (h : ∀ x, 0 < x → x < p → x ^ (p - 1) % p = 1) : Prm p := by
  refine ⟨hp, fun d hd => ?_⟩
  have hle := Nat.le_of_dvd (by omega) hd
  rcases Nat.lt_or_ge d p with hlt | hge
  · left
    have h0 : 0 < d := by
      rcases Nat.eq_zero_or_pos d with h0 | h0
      · subst h0; have := Nat.eq_zero_of_zero_dvd hd; omega
      · exact h0
    have e := h d h0 hlt
    have hdp : d ∣ d ^ (p - 1) := by
      obtain ⟨k, hk⟩ : ∃ k, p - 1 = k + 1 := ⟨p - 2, by omega⟩
      rw [hk, Nat.pow_succ]; exact Nat.dvd_mul_left _ _
    have h1 : d ∣ d ^ (p - 1) % p := (Nat.dvd_mod_iff hd).2 hdp
    rw [e] at h1
    exact Nat.eq_one_of_dvd_one h1
  · exact Or.inr (by omega)
/-- By trying all. -/
theorem prm_small {p : Nat} (hp : 1 < p) (h : ((List.range p).all fun d => decide (d ≤ 1) || decide (p % d ≠ 0)) = true) : Prm p := by
  refine ⟨hp, fun d hd => ?_⟩
  have hle := Nat.le_of_dvd (by omega) hd
  rcases Nat.lt_or_ge d p with hlt | hge
  · left
    have := (List.all_eq_true.1 h) d (List.mem_range.2 hlt)
    simp only [Bool.or_eq_true, decide_eq_true_eq] at this
    rcases this with h' | h'
    · have h0 : d ≠ 0 := by rintro rfl; have := Nat.eq_zero_of_zero_dvd hd; omega
      omega
    · exact absurd (Nat.mod_eq_zero_of_dvd hd) h'
  · exact Or.inr (by omega)
/-- The certificate, reckoned. -/
theorem cert {p g : Nat} (l : List Nat) (f : Nat) (hl : ∀ r ∈ l, Prm r) (h : (decide (1 < p) && decide (p < 2 ^ f) && decide (prodL l = p - 1) && decide (pm p f g (p - 1) = 1) && l.all fun r => decide (pm p f g ((p - 1) / r) ≠ 1)) = true) :
    ∀ x, 0 < x → x < p → x ^ (p - 1) % p = 1 := by
  simp only [Bool.and_eq_true, decide_eq_true_eq, List.all_eq_true] at h
  obtain ⟨⟨⟨⟨hp, hf⟩, hprod⟩, h1⟩, h2⟩ := h
  refine lucas (g := g) l hp hl hprod ?_ ?_
  · rw [← pm_eq p f g (p - 1) (by omega)]; exact h1
  · intro r hr e
    refine h2 r hr ?_
    rw [pm_eq p f g ((p - 1) / r) (Nat.lt_of_le_of_lt (Nat.div_le_self _ _) (by omega))]; exact e
theorem prm_cert {p g : Nat} (l : List Nat) (f : Nat) (hl : ∀ r ∈ l, Prm r) (h : (decide (1 < p) && decide (p < 2 ^ f) && decide (prodL l = p - 1) && decide (pm p f g (p - 1) = 1) && l.all fun r => decide (pm p f g ((p - 1) / r) ≠ 1)) = true) : Prm p := by
  have h' := h
  simp only [Bool.and_eq_true, decide_eq_true_eq] at h'
  exact prm_of h'.1.1.1.1 (cert (g := g) l f hl h)
end Go.Proofs.YtdepkfdceidikaaGreatDoor
/-
  Fermat's little theorem for the field's prime, by a tree of certificates (Lucas, Pratt): plain arithmetic, nothing of the program.
-/
namespace Go.Proofs.YtdepkfdceidikaaGreatDoor

theorem prm_2 : Prm 2 := prm_small (by decide) (by decide)
theorem prm_3 : Prm 3 := prm_small (by decide) (by decide)
theorem prm_13 : Prm 13 := prm_small (by decide) (by decide)
theorem prm_29 : Prm 29 := prm_small (by decide) (by decide)
theorem prm_5 : Prm 5 := prm_small (by decide) (by decide)
theorem prm_7 : Prm 7 := prm_small (by decide) (by decide)
theorem prm_491 : Prm 491 :=
  prm_cert (g := 2) [2, 5, 7, 7] 9 (by
    intro r hr
    simp only [List.mem_cons, List.not_mem_nil, or_false] at hr
    rcases hr with rfl | rfl | rfl | rfl
    · exact prm_2
    · exact prm_5
    · exact prm_7
    · exact prm_7) (by kernel_rfl)
theorem prm_983 : Prm 983 :=
  prm_cert (g := 5) [2, 491] 10 (by
    intro r hr
    simp only [List.mem_cons, List.not_mem_nil, or_false] at hr
    rcases hr with rfl | rfl
    · exact prm_2
    · exact prm_491) (by kernel_rfl)
theorem prm_11 : Prm 11 := prm_small (by decide) (by decide)
theorem prm_5501 : Prm 5501 :=
  prm_cert (g := 2) [2, 2, 5, 5, 5, 11] 13 (by
    intro r hr
    simp only [List.mem_cons, List.not_mem_nil, or_false] at hr
    rcases hr with rfl | rfl | rfl | rfl | rfl | rfl
    · exact prm_2
    · exact prm_2
    · exact prm_5
    · exact prm_5
    · exact prm_5
    · exact prm_11) (by kernel_rfl)
theorem prm_11003 : Prm 11003 :=
  prm_cert (g := 2) [2, 5501] 14 (by
    intro r hr
    simp only [List.mem_cons, List.not_mem_nil, or_false] at hr
    rcases hr with rfl | rfl
    · exact prm_2
    · exact prm_5501) (by kernel_rfl)
theorem prm_449 : Prm 449 :=
  prm_cert (g := 3) [2, 2, 2, 2, 2, 2, 7] 9 (by
    intro r hr
    simp only [List.mem_cons, List.not_mem_nil, or_false] at hr
    rcases hr with rfl | rfl | rfl | rfl | rfl | rfl | rfl
    · exact prm_2
    · exact prm_2
    · exact prm_2
    · exact prm_2
    · exact prm_2
    · exact prm_2
    · exact prm_7) (by kernel_rfl)
theorem prm_237073 : Prm 237073 :=
  prm_cert (g := 15) [2, 2, 2, 2, 3, 11, 449] 18 (by
    intro r hr
    simp only [List.mem_cons, List.not_mem_nil, or_false] at hr
    rcases hr with rfl | rfl | rfl | rfl | rfl | rfl | rfl
    · exact prm_2
    · exact prm_2
    · exact prm_2
    · exact prm_2
    · exact prm_3
    · exact prm_11
    · exact prm_449) (by kernel_rfl)
theorem prm_41 : Prm 41 := prm_small (by decide) (by decide)
theorem prm_3691 : Prm 3691 :=
  prm_cert (g := 2) [2, 3, 3, 5, 41] 12 (by
    intro r hr
    simp only [List.mem_cons, List.not_mem_nil, or_false] at hr
    rcases hr with rfl | rfl | rfl | rfl | rfl
    · exact prm_2
    · exact prm_3
    · exact prm_3
    · exact prm_5
    · exact prm_41) (by kernel_rfl)
theorem prm_17 : Prm 17 := prm_small (by decide) (by decide)
theorem prm_4999 : Prm 4999 :=
  prm_cert (g := 3) [2, 3, 7, 7, 17] 13 (by
    intro r hr
    simp only [List.mem_cons, List.not_mem_nil, or_false] at hr
    rcases hr with rfl | rfl | rfl | rfl | rfl
    · exact prm_2
    · exact prm_3
    · exact prm_7
    · exact prm_7
    · exact prm_17) (by kernel_rfl)
theorem prm_405928799 : Prm 405928799 :=
  prm_cert (g := 22) [2, 11, 3691, 4999] 29 (by
    intro r hr
    simp only [List.mem_cons, List.not_mem_nil, or_false] at hr
    rcases hr with rfl | rfl | rfl | rfl
    · exact prm_2
    · exact prm_11
    · exact prm_3691
    · exact prm_4999) (by kernel_rfl)
theorem prm_53 : Prm 53 := prm_small (by decide) (by decide)
theorem prm_107 : Prm 107 :=
  prm_cert (g := 2) [2, 53] 7 (by
    intro r hr
    simp only [List.mem_cons, List.not_mem_nil, or_false] at hr
    rcases hr with rfl | rfl
    · exact prm_2
    · exact prm_53) (by kernel_rfl)
theorem prm_661 : Prm 661 :=
  prm_cert (g := 2) [2, 2, 3, 5, 11] 10 (by
    intro r hr
    simp only [List.mem_cons, List.not_mem_nil, or_false] at hr
    rcases hr with rfl | rfl | rfl | rfl | rfl
    · exact prm_2
    · exact prm_2
    · exact prm_3
    · exact prm_5
    · exact prm_11) (by kernel_rfl)
theorem prm_31 : Prm 31 := prm_small (by decide) (by decide)
theorem prm_93001 : Prm 93001 :=
  prm_cert (g := 14) [2, 2, 2, 3, 5, 5, 5, 31] 17 (by
    intro r hr
    simp only [List.mem_cons, List.not_mem_nil, or_false] at hr
    rcases hr with rfl | rfl | rfl | rfl | rfl | rfl | rfl | rfl
    · exact prm_2
    · exact prm_2
    · exact prm_2
    · exact prm_3
    · exact prm_5
    · exact prm_5
    · exact prm_5
    · exact prm_31) (by kernel_rfl)
theorem prm_12048837557 : Prm 12048837557 :=
  prm_cert (g := 2) [2, 2, 7, 7, 661, 93001] 34 (by
    intro r hr
    simp only [List.mem_cons, List.not_mem_nil, or_false] at hr
    rcases hr with rfl | rfl | rfl | rfl | rfl | rfl
    · exact prm_2
    · exact prm_2
    · exact prm_7
    · exact prm_7
    · exact prm_661
    · exact prm_93001) (by kernel_rfl)
theorem prm_5156902474397 : Prm 5156902474397 :=
  prm_cert (g := 2) [2, 2, 107, 12048837557] 43 (by
    intro r hr
    simp only [List.mem_cons, List.not_mem_nil, or_false] at hr
    rcases hr with rfl | rfl | rfl | rfl
    · exact prm_2
    · exact prm_2
    · exact prm_107
    · exact prm_12048837557) (by kernel_rfl)
theorem prm_1670836401704629 : Prm 1670836401704629 :=
  prm_cert (g := 2) [2, 2, 3, 3, 3, 3, 5156902474397] 51 (by
    intro r hr
    simp only [List.mem_cons, List.not_mem_nil, or_false] at hr
    rcases hr with rfl | rfl | rfl | rfl | rfl | rfl | rfl
    · exact prm_2
    · exact prm_2
    · exact prm_3
    · exact prm_3
    · exact prm_3
    · exact prm_3
    · exact prm_5156902474397) (by kernel_rfl)
theorem prm_137 : Prm 137 :=
  prm_cert (g := 3) [2, 2, 2, 17] 8 (by
    intro r hr
    simp only [List.mem_cons, List.not_mem_nil, or_false] at hr
    rcases hr with rfl | rfl | rfl | rfl
    · exact prm_2
    · exact prm_2
    · exact prm_2
    · exact prm_17) (by kernel_rfl)
theorem prm_823 : Prm 823 :=
  prm_cert (g := 3) [2, 3, 137] 10 (by
    intro r hr
    simp only [List.mem_cons, List.not_mem_nil, or_false] at hr
    rcases hr with rfl | rfl | rfl
    · exact prm_2
    · exact prm_3
    · exact prm_137) (by kernel_rfl)
theorem prm_19 : Prm 19 := prm_small (by decide) (by decide)
theorem prm_47 : Prm 47 := prm_small (by decide) (by decide)
theorem prm_37 : Prm 37 := prm_small (by decide) (by decide)
theorem prm_223 : Prm 223 :=
  prm_cert (g := 3) [2, 3, 37] 8 (by
    intro r hr
    simp only [List.mem_cons, List.not_mem_nil, or_false] at hr
    rcases hr with rfl | rfl | rfl
    · exact prm_2
    · exact prm_3
    · exact prm_37) (by kernel_rfl)
theorem prm_20963 : Prm 20963 :=
  prm_cert (g := 2) [2, 47, 223] 15 (by
    intro r hr
    simp only [List.mem_cons, List.not_mem_nil, or_false] at hr
    rcases hr with rfl | rfl | rfl
    · exact prm_2
    · exact prm_47
    · exact prm_223) (by kernel_rfl)
theorem prm_41927 : Prm 41927 :=
  prm_cert (g := 5) [2, 20963] 16 (by
    intro r hr
    simp only [List.mem_cons, List.not_mem_nil, or_false] at hr
    rcases hr with rfl | rfl
    · exact prm_2
    · exact prm_20963) (by kernel_rfl)
theorem prm_1593227 : Prm 1593227 :=
  prm_cert (g := 2) [2, 19, 41927] 21 (by
    intro r hr
    simp only [List.mem_cons, List.not_mem_nil, or_false] at hr
    rcases hr with rfl | rfl | rfl
    · exact prm_2
    · exact prm_19
    · exact prm_41927) (by kernel_rfl)
theorem prm_83 : Prm 83 := prm_small (by decide) (by decide)
theorem prm_379 : Prm 379 :=
  prm_cert (g := 2) [2, 3, 3, 3, 7] 9 (by
    intro r hr
    simp only [List.mem_cons, List.not_mem_nil, or_false] at hr
    rcases hr with rfl | rfl | rfl | rfl | rfl
    · exact prm_2
    · exact prm_3
    · exact prm_3
    · exact prm_3
    · exact prm_7) (by kernel_rfl)
theorem prm_409 : Prm 409 :=
  prm_cert (g := 21) [2, 2, 2, 3, 17] 9 (by
    intro r hr
    simp only [List.mem_cons, List.not_mem_nil, or_false] at hr
    rcases hr with rfl | rfl | rfl | rfl | rfl
    · exact prm_2
    · exact prm_2
    · exact prm_2
    · exact prm_3
    · exact prm_17) (by kernel_rfl)
theorem prm_1637 : Prm 1637 :=
  prm_cert (g := 2) [2, 2, 409] 11 (by
    intro r hr
    simp only [List.mem_cons, List.not_mem_nil, or_false] at hr
    rcases hr with rfl | rfl | rfl
    · exact prm_2
    · exact prm_2
    · exact prm_409) (by kernel_rfl)
theorem prm_229 : Prm 229 :=
  prm_cert (g := 6) [2, 2, 3, 19] 8 (by
    intro r hr
    simp only [List.mem_cons, List.not_mem_nil, or_false] at hr
    rcases hr with rfl | rfl | rfl | rfl
    · exact prm_2
    · exact prm_2
    · exact prm_3
    · exact prm_19) (by kernel_rfl)
theorem prm_71 : Prm 71 := prm_small (by decide) (by decide)
theorem prm_853 : Prm 853 :=
  prm_cert (g := 2) [2, 2, 3, 71] 10 (by
    intro r hr
    simp only [List.mem_cons, List.not_mem_nil, or_false] at hr
    rcases hr with rfl | rfl | rfl | rfl
    · exact prm_2
    · exact prm_2
    · exact prm_3
    · exact prm_71) (by kernel_rfl)
theorem prm_639533339 : Prm 639533339 :=
  prm_cert (g := 2) [2, 229, 853, 1637] 30 (by
    intro r hr
    simp only [List.mem_cons, List.not_mem_nil, or_false] at hr
    rcases hr with rfl | rfl | rfl | rfl
    · exact prm_2
    · exact prm_229
    · exact prm_853
    · exact prm_1637) (by kernel_rfl)
theorem prm_65865678001877903 : Prm 65865678001877903 :=
  prm_cert (g := 5) [2, 83, 379, 1637, 639533339] 56 (by
    intro r hr
    simp only [List.mem_cons, List.not_mem_nil, or_false] at hr
    rcases hr with rfl | rfl | rfl | rfl | rfl
    · exact prm_2
    · exact prm_83
    · exact prm_379
    · exact prm_1637
    · exact prm_639533339) (by kernel_rfl)
theorem prm_13818364434197438864469338081 : Prm 13818364434197438864469338081 :=
  prm_cert (g := 3) [2, 2, 2, 2, 2, 5, 823, 1593227, 65865678001877903] 94 (by
    intro r hr
    simp only [List.mem_cons, List.not_mem_nil, or_false] at hr
    rcases hr with rfl | rfl | rfl | rfl | rfl | rfl | rfl | rfl | rfl
    · exact prm_2
    · exact prm_2
    · exact prm_2
    · exact prm_2
    · exact prm_2
    · exact prm_5
    · exact prm_823
    · exact prm_1593227
    · exact prm_65865678001877903) (by kernel_rfl)
/-- Fermat's little theorem, for the field. -/
theorem fermat_p : ∀ x, 0 < x → x < pN → x ^ (pN - 1) % pN = 1 :=
  cert (g := 5) [2, 2, 2, 2, 2, 2, 2, 2, 2, 2, 2, 2, 2, 2, 2, 2, 2, 2, 2, 2, 2, 2, 2, 2, 2, 2, 2, 2, 3, 3, 13, 29, 983, 11003, 237073, 405928799, 1670836401704629, 13818364434197438864469338081] 254 (by
    intro r hr
    simp only [List.mem_cons, List.not_mem_nil, or_false] at hr
    rcases hr with rfl | rfl | rfl | rfl | rfl | rfl | rfl | rfl | rfl | rfl | rfl | rfl | rfl | rfl | rfl | rfl | rfl | rfl | rfl | rfl | rfl | rfl | rfl | rfl | rfl | rfl | rfl | rfl | rfl | rfl | rfl | rfl | rfl | rfl | rfl | rfl | rfl | rfl
    · exact prm_2
    · exact prm_2
    · exact prm_2
    · exact prm_2
    · exact prm_2
    · exact prm_2
    · exact prm_2
    · exact prm_2
    · exact prm_2
    · exact prm_2
    · exact prm_2
    · exact prm_2
    · exact prm_2
    · exact prm_2
    · exact prm_2
    · exact prm_2
    · exact prm_2
    · exact prm_2
    · exact prm_2
    · exact prm_2
    · exact prm_2
    · exact prm_2
    · exact prm_2
    · exact prm_2
    · exact prm_2
    · exact prm_2
    · exact prm_2
    · exact prm_2
    · exact prm_3
    · exact prm_3
    · exact prm_13
    · exact prm_29
    · exact prm_983
    · exact prm_11003
    · exact prm_237073
    · exact prm_405928799
    · exact prm_1670836401704629
    · exact prm_13818364434197438864469338081) (by kernel_rfl)
theorem inv_p {x : Nat} (h0 : 0 < x) (hx : x < pN) : x * (x ^ (pN - 2) % pN) % pN = 1 := by
  rw [Nat.mul_mod_mod, ← Nat.pow_succ', show (pN - 2).succ = pN - 1 by decide]
  exact fermat_p x h0 hx
end Go.Proofs.YtdepkfdceidikaaGreatDoor
