/-
  Gauss's sign of a number modulo an odd one (Jacobi's symbol, by counting), its laws, and that it tells the squares of a prime: plain arithmetic, nothing of the program.
-/
import Derived.Test.YtfonpmahcdmajaaDoorPrm
namespace Go.Proofs.YtfonpmahcdmajaaDoor

/-- The numbers from m down to 1. -/
def jL : Nat → List Nat
  | 0 => []
  | m + 1 => (m + 1) :: jL m
theorem mem_jL : ∀ {m k : Nat}, k ∈ jL m ↔ 1 ≤ k ∧ k ≤ m
  | 0, k => by simp [jL]; omega
  | m + 1, k => by
    rw [jL, List.mem_cons, mem_jL]
    omega
theorem nodup_jL : ∀ m, (jL m).Nodup
  | 0 => List.nodup_nil
  | m + 1 => by
    rw [jL, List.nodup_cons]
    refine ⟨fun h => ?_, nodup_jL m⟩
    have := mem_jL.1 h
    omega
/-- A sum over a list. -/
def jS (f : Nat → Nat) : List Nat → Nat
  | [] => 0
  | a :: l => f a + jS f l
theorem jS_perm (f : Nat → Nat) {l l' : List Nat} (h : l.Perm l') : jS f l = jS f l' := by
  induction h with
  | nil => rfl
  | cons x _ ih => rw [jS, jS, ih]
  | swap x y l => simp only [jS]; omega
  | trans _ _ h1 h2 => exact h1.trans h2
theorem jS_map (f g : Nat → Nat) : ∀ l : List Nat, jS f (l.map g) = jS (fun k => f (g k)) l
  | [] => rfl
  | a :: l => by rw [List.map_cons, jS, jS, jS_map f g l]
theorem jS_add (f g : Nat → Nat) : ∀ l : List Nat, jS (fun k => f k + g k) l = jS f l + jS g l
  | [] => rfl
  | a :: l => by rw [jS, jS, jS, jS_add f g l]; omega
theorem jS_congr {f g : Nat → Nat} : ∀ {l : List Nat}, (∀ k ∈ l, f k = g k) → jS f l = jS g l
  | [], _ => rfl
  | a :: l, h => by
    rw [jS, jS, h a (by simp), jS_congr fun k hk => h k (by simp [hk])]
theorem jS_par {f g : Nat → Nat} : ∀ {l : List Nat}, (∀ k ∈ l, f k % 2 = g k % 2) → jS f l % 2 = jS g l % 2
  | [], _ => rfl
  | a :: l, h => by
    have h1 := h a (by simp)
    have h2 := jS_par (l := l) fun k hk => h k (by simp [hk])
    rw [jS, jS]; omega
theorem jS_zero : ∀ l : List Nat, jS (fun _ => 0) l = 0
  | [] => rfl
  | a :: l => by rw [jS, jS_zero l]
theorem jS_const (c : Nat) : ∀ m : Nat, jS (fun _ => c) (jL m) = m * c
  | 0 => by rw [Nat.zero_mul]; rfl
  | m + 1 => by rw [jL, jS, jS_const c m, Nat.succ_mul]; omega
theorem jS_comm (f : Nat → Nat → Nat) (m : List Nat) : ∀ l : List Nat, jS (fun a => jS (fun b => f a b) m) l = jS (fun b => jS (fun a => f a b) l) m
  | [] => by
    show 0 = _
    have : (fun b => jS (fun a => f a b) []) = fun _ => 0 := rfl
    rw [this, jS_zero]
  | a :: l => by
    rw [jS, jS_comm f m l, ← jS_add]
    rfl
/-- How many multiples there are. -/
theorem jS_div (n x : Nat) (hn : 0 < n) : ∀ h : Nat, jS (fun l => if n * l ≤ x then 1 else 0) (jL h) = min h (x / n)
  | 0 => by simp [jL, jS]
  | h + 1 => by
    rw [jL, jS, jS_div n x hn h]
    have e : n * (h + 1) ≤ x ↔ h + 1 ≤ x / n := by rw [Nat.le_div_iff_mul_le hn, Nat.mul_comm]
    by_cases c : h + 1 ≤ x / n
    · rw [if_pos (e.2 c)]; omega
    · rw [if_neg (fun c' => c (e.1 c'))]; omega

/-- Whether a multiple lies in the upper half; how far it is from the next multiple of the modulus. -/
def jg (a n k : Nat) : Nat := if n < 2 * (a * k % n) then 1 else 0
def ja (a n k : Nat) : Nat := if n < 2 * (a * k % n) then n - a * k % n else a * k % n
/-- Gauss's count. -/
def jG (a n : Nat) : Nat := jS (jg a n) (jL (n / 2))

theorem jg_rest {a b n : Nat} (h : a % n = b % n) (k : Nat) : jg a n k = jg b n k := by
  unfold jg
  rw [Nat.mul_mod, h, ← Nat.mul_mod]
theorem jG_rest {a b n : Nat} (h : a % n = b % n) : jG a n = jG b n :=
  jS_congr fun k _ => jg_rest h k
theorem jG_sub {a n : Nat} (h : n ≤ a) : jG (a - n) n = jG a n := by
  refine jG_rest ?_
  rw [← Nat.mod_eq_sub_mod h]
theorem jG_one (a : Nat) : jG a 1 = 0 := rfl

theorem j_nz {a n k : Nat} (hc : Nat.gcd n a = 1) (h0 : 0 < k) (h : k < n) : a * k % n ≠ 0 := by
  intro e
  have d : n ∣ k := Nat.Coprime.dvd_of_dvd_mul_left hc (Nat.dvd_of_mod_eq_zero e)
  have := Nat.le_of_dvd h0 d
  omega
theorem j_inj {a n k l : Nat} (hc : Nat.gcd n a = 1) (hl : l < n) (hkl : k ≤ l) (e : a * k % n = a * l % n) : k = l := by
  have d : n ∣ a * l - a * k := Nat.dvd_of_mod_eq_zero (Nat.sub_mod_eq_zero_of_mod_eq e.symm)
  rw [← Nat.mul_sub] at d
  have d := Nat.Coprime.dvd_of_dvd_mul_left hc d
  rcases Nat.eq_zero_or_pos (l - k) with h | h
  · omega
  · have := Nat.le_of_dvd h d; omega
theorem ja_range {a n k : Nat} (ho : n % 2 = 1) (hc : Nat.gcd n a = 1) (h0 : 1 ≤ k) (h : k ≤ n / 2) : 1 ≤ ja a n k ∧ ja a n k ≤ n / 2 := by
  have h1 := j_nz hc (show 0 < k by omega) (show k < n by omega)
  have h2 := Nat.mod_lt (a * k) (show 0 < n by omega)
  unfold ja
  split <;> omega
theorem ja_inj {a n k l : Nat} (ho : n % 2 = 1) (hc : Nat.gcd n a = 1) (hk0 : 1 ≤ k) (hk : k ≤ n / 2) (hl0 : 1 ≤ l) (hl : l ≤ n / 2) (e : ja a n k = ja a n l) : k = l := by
  have same : a * k % n = a * l % n → k = l := by
    intro e
    rcases Nat.le_total k l with h | h
    · exact j_inj hc (by omega) h e
    · exact (j_inj hc (by omega) h e.symm).symm
  have opp : a * k % n + a * l % n = n → k = l := by
    intro e
    exfalso
    have : a * (k + l) % n = 0 := by rw [Nat.mul_add, Nat.add_mod, e, Nat.mod_self]
    exact j_nz hc (by omega) (by omega) this
  have h2 := Nat.mod_lt (a * k) (show 0 < n by omega)
  have h3 := Nat.mod_lt (a * l) (show 0 < n by omega)
  unfold ja at e
  split at e <;> split at e
  · exact same (by omega)
  · exact opp (by omega)
  · exact opp (by omega)
  · exact same e
theorem ja_perm {a n : Nat} (ho : n % 2 = 1) (hc : Nat.gcd n a = 1) : ((jL (n / 2)).map (ja a n)).Perm (jL (n / 2)) := by
  refine (List.perm_ext_iff_of_nodup ?_ (nodup_jL _)).2 ?_
  · unfold List.Nodup
    rw [List.pairwise_map]
    refine List.Pairwise.imp_of_mem ?_ (nodup_jL (n / 2))
    intro k l hk hl hne e
    have hk := mem_jL.1 hk
    have hl := mem_jL.1 hl
    exact hne (ja_inj ho hc hk.1 hk.2 hl.1 hl.2 e)
  · intro y
    rw [List.mem_map]
    constructor
    · rintro ⟨k, hk, rfl⟩
      have hk := mem_jL.1 hk
      exact mem_jL.2 (ja_range ho hc hk.1 hk.2)
    · intro hy
      have hy := mem_jL.1 hy
      obtain ⟨i, hi, e⟩ := pigeon (n / 2) (fun i => ja a n (i + 1) - 1)
        (fun i h => by
          have := ja_range (k := i + 1) ho hc (by omega) (by omega)
          show ja a n (i + 1) - 1 < n / 2
          omega)
        (fun i j h h' e => by
          have e : ja a n (i + 1) - 1 = ja a n (j + 1) - 1 := e
          have h1 := ja_range (k := i + 1) ho hc (by omega) (by omega)
          have h2 := ja_range (k := j + 1) ho hc (by omega) (by omega)
          have := ja_inj (k := i + 1) (l := j + 1) ho hc (by omega) (by omega) (by omega) (by omega) (by omega)
          omega)
        (y - 1) (by omega)
      have e : ja a n (i + 1) - 1 = y - 1 := e
      have h1 := ja_range (k := i + 1) ho hc (by omega) (by omega)
      exact ⟨i + 1, mem_jL.2 (by omega), by omega⟩

/-- Signs of products multiply. -/
theorem jg_mul {a b n k : Nat} (ho : n % 2 = 1) (ha : Nat.gcd n a = 1) (hb : Nat.gcd n b = 1) (h0 : 1 ≤ k) (h : k ≤ n / 2) :
    jg (a * b) n k % 2 = (jg b n k + jg a n (ja b n k)) % 2 := by
  have hr := ja_range ho hb h0 h
  have hnz := j_nz ha (show 0 < ja b n k by omega) (show ja b n k < n by omega)
  have hlt := Nat.mod_lt (b * k) (show 0 < n by omega)
  have e1 : a * b * k % n = a * (b * k % n) % n := by
    rw [Nat.mul_assoc, Nat.mul_mod, Nat.mul_mod a (b * k % n), Nat.mod_mod]
  unfold jg
  rw [e1]
  by_cases c : n < 2 * (b * k % n)
  · have e2 : ja b n k = n - b * k % n := by unfold ja; rw [if_pos c]
    rw [e2] at hnz ⊢
    rw [if_pos c]
    generalize b * k % n = y at *
    -- a (n - y) and a y together are a multiple
    have e3 : (a * (n - y) + a * y) % n = 0 := by
      rw [← Nat.mul_add, Nat.sub_add_cancel (by omega), Nat.mul_mod_left]
    rw [Nat.add_mod] at e3
    have l1 := Nat.mod_lt (a * (n - y)) (show 0 < n by omega)
    have l2 := Nat.mod_lt (a * y) (show 0 < n by omega)
    generalize a * (n - y) % n = u at *
    generalize a * y % n = v at *
    have e4 : u + v = n := by
      rcases Nat.lt_or_ge (u + v) n with h5 | h5
      · rw [Nat.mod_eq_of_lt h5] at e3; omega
      · rw [Nat.mod_eq_sub_mod h5, Nat.mod_eq_of_lt (by omega)] at e3; omega
    by_cases c1 : n < 2 * v <;> by_cases c2 : n < 2 * u <;> simp only [c1, c2, if_true, if_false] <;> omega
  · have e2 : ja b n k = b * k % n := by unfold ja; rw [if_neg c]
    rw [e2, if_neg c, Nat.zero_add]
theorem jG_mul {a b n : Nat} (ho : n % 2 = 1) (ha : Nat.gcd n a = 1) (hb : Nat.gcd n b = 1) : jG (a * b) n % 2 = (jG a n + jG b n) % 2 := by
  have h1 : jG (a * b) n % 2 = jS (fun k => jg b n k + jg a n (ja b n k)) (jL (n / 2)) % 2 :=
    jS_par fun k hk => by
      have := mem_jL.1 hk
      exact jg_mul ho ha hb this.1 this.2
  rw [h1, jS_add, ← jS_map (jg a n) (ja b n), jS_perm _ (ja_perm ho hb), Nat.add_comm]
  rfl
theorem jG_two_count (n : Nat) : ∀ m : Nat, 2 * m < n → jS (jg 2 n) (jL m) = m - n / 4
  | 0, _ => by simp [jL, jS]
  | m + 1, h => by
    rw [jL, jS, jG_two_count n m (by omega)]
    unfold jg
    rw [Nat.mod_eq_of_lt h]
    by_cases c : n < 2 * (2 * (m + 1))
    · rw [if_pos c]; omega
    · rw [if_neg c]; omega
theorem jG_two {n : Nat} (ho : n % 2 = 1) : jG 2 n % 2 = if n % 8 = 3 ∨ n % 8 = 5 then 1 else 0 := by
  unfold jG
  rw [jG_two_count n (n / 2) (by omega)]
  by_cases c : n % 8 = 3 ∨ n % 8 = 5
  · rw [if_pos c]; omega
  · rw [if_neg c]; omega
/-- A half. -/
theorem jG_half {b n : Nat} (ho : n % 2 = 1) (hb : Nat.gcd n b = 1) : jG (2 * b) n % 2 = ((if n % 8 = 3 ∨ n % 8 = 5 then 1 else 0) + jG b n) % 2 := by
  have h2 : Nat.gcd n 2 = 1 := by rw [Nat.gcd_comm, Nat.gcd_rec, ho, Nat.gcd_one_left]
  rw [jG_mul ho h2 hb, Nat.add_mod, jG_two ho, ← Nat.add_mod_left]
  split <;> omega

/-- Eisenstein's sum. -/
theorem jG_floor {a n : Nat} (ho : n % 2 = 1) (hao : a % 2 = 1) (hc : Nat.gcd n a = 1) : jG a n % 2 = jS (fun k => a * k / n) (jL (n / 2)) % 2 := by
  have h1 : jS (fun k => k) (jL (n / 2)) % 2 = jS (fun k => (a * k / n + jg a n k) + ja a n k) (jL (n / 2)) % 2 := by
    refine jS_par fun k hk => ?_
    have hk := mem_jL.1 hk
    have hlt := Nat.mod_lt (a * k) (show 0 < n by omega)
    have e := Nat.mod_add_div (a * k) n
    have e1 : (a * k) % 2 = k % 2 := by rw [Nat.mul_mod, hao, Nat.one_mul, Nat.mod_mod]
    have e2 : (n * (a * k / n)) % 2 = (a * k / n) % 2 := by rw [Nat.mul_mod, ho, Nat.one_mul, Nat.mod_mod]
    unfold jg ja
    generalize a * k % n = r at *
    generalize n * (a * k / n) = t at *
    generalize a * k / n = f at *
    by_cases c : n < 2 * r
    · rw [if_pos c, if_pos c]; omega
    · rw [if_neg c, if_neg c]; omega
  rw [jS_add, jS_add] at h1
  have h2 : jS (ja a n) (jL (n / 2)) = jS (fun k => k) (jL (n / 2)) := by
    have := jS_map (fun k => k) (ja a n) (jL (n / 2))
    rw [jS_perm _ (ja_perm ho hc)] at this
    exact this.symm
  rw [h2] at h1
  unfold jG
  have : jS (fun k => jg a n k) (jL (n / 2)) = jS (jg a n) (jL (n / 2)) := rfl
  omega
/-- Eisenstein's rectangle. -/
theorem j_lattice {a n : Nat} (ho : n % 2 = 1) (hao : a % 2 = 1) (hc : Nat.gcd n a = 1) :
    jS (fun k => a * k / n) (jL (n / 2)) + jS (fun l => n * l / a) (jL (a / 2)) = n / 2 * (a / 2) := by
  have b : ∀ a n k : Nat, a % 2 = 1 → n % 2 = 1 → k ≤ n / 2 → a * k / n ≤ a / 2 := by
    intro a n k ha hn hk
    have h1 : a * k / n < a / 2 + 1 := by
      rw [Nat.div_lt_iff_lt_mul (by omega)]
      have h2 : a * k ≤ a * (n / 2) := Nat.mul_le_mul_left a hk
      have ea : a = 2 * (a / 2) + 1 := by omega
      have en : n = 2 * (n / 2) + 1 := by omega
      generalize a / 2 = h at *
      generalize n / 2 = m at *
      subst ea; subst en
      have : (2 * h + 1) * m = 2 * (h * m) + m := by rw [Nat.add_mul, Nat.one_mul, Nat.mul_assoc]
      have : (h + 1) * (2 * m + 1) = 2 * (h * m) + h + 2 * m + 1 := by
        rw [Nat.add_mul, Nat.mul_add, Nat.one_mul, Nat.mul_one, Nat.mul_left_comm]; omega
      omega
    omega
  have e1 : jS (fun k => a * k / n) (jL (n / 2)) = jS (fun k => jS (fun l => if n * l ≤ a * k then 1 else 0) (jL (a / 2))) (jL (n / 2)) := by
    refine jS_congr fun k hk => ?_
    have hk := mem_jL.1 hk
    have := b a n k hao ho hk.2
    show _ = jS (fun l => if n * l ≤ a * k then 1 else 0) (jL (a / 2))
    rw [jS_div n (a * k) (by omega) (a / 2)]
    omega
  have e2 : jS (fun l => n * l / a) (jL (a / 2)) = jS (fun l => jS (fun k => if a * k ≤ n * l then 1 else 0) (jL (n / 2))) (jL (a / 2)) := by
    refine jS_congr fun l hl => ?_
    have hl := mem_jL.1 hl
    have := b n a l ho hao hl.2
    show _ = jS (fun k => if a * k ≤ n * l then 1 else 0) (jL (n / 2))
    rw [jS_div a (n * l) (by omega) (n / 2)]
    omega
  rw [e1, e2, jS_comm (fun l k => if a * k ≤ n * l then 1 else 0), ← jS_add]
  have e3 : jS (fun k => jS (fun l => if n * l ≤ a * k then 1 else 0) (jL (a / 2)) + jS (fun l => if a * k ≤ n * l then 1 else 0) (jL (a / 2))) (jL (n / 2)) = jS (fun _ => a / 2) (jL (n / 2)) := by
    refine jS_congr fun k hk => ?_
    have hk := mem_jL.1 hk
    show jS (fun l => if n * l ≤ a * k then 1 else 0) (jL (a / 2)) + jS (fun l => if a * k ≤ n * l then 1 else 0) (jL (a / 2)) = a / 2
    rw [← jS_add]
    have : jS (fun l => (if n * l ≤ a * k then 1 else 0) + if a * k ≤ n * l then 1 else 0) (jL (a / 2)) = jS (fun _ => 1) (jL (a / 2)) := by
      refine jS_congr fun l hl => ?_
      have hne : n * l ≠ a * k := by
        intro e
        refine j_nz hc (show 0 < k by omega) (show k < n by omega) ?_
        rw [← e, Nat.mul_mod_right]
      show (if n * l ≤ a * k then 1 else 0) + (if a * k ≤ n * l then 1 else 0) = 1
      by_cases c : n * l ≤ a * k
      · rw [if_pos c, if_neg (by omega)]
      · rw [if_neg c, if_pos (by omega)]
    rw [this, jS_const]; omega
  rw [e3, jS_const]
/-- The law of reciprocity. -/
theorem jG_swap {a n : Nat} (ho : n % 2 = 1) (hao : a % 2 = 1) (hc : Nat.gcd n a = 1) : (jG a n + jG n a) % 2 = if a % 4 = 3 ∧ n % 4 = 3 then 1 else 0 := by
  have h1 := jG_floor ho hao hc
  have h2 := jG_floor hao ho (by rwa [Nat.gcd_comm] at hc)
  have h3 := j_lattice ho hao hc
  have h4 : (jG a n + jG n a) % 2 = n / 2 * (a / 2) % 2 := by rw [← h3]; omega
  rw [h4, Nat.mul_mod]
  by_cases c : a % 4 = 3 ∧ n % 4 = 3
  · rw [if_pos c, show n / 2 % 2 = 1 by omega, show a / 2 % 2 = 1 by omega]
  · rw [if_neg c]
    have : n / 2 % 2 = 0 ∨ a / 2 % 2 = 0 := by omega
    rcases this with h | h
    · rw [h, Nat.zero_mul]
    · rw [h, Nat.mul_zero]

/-- A product over a list. -/
def jP (f : Nat → Int) : List Nat → Int
  | [] => 1
  | a :: l => f a * jP f l
theorem jP_perm (f : Nat → Int) {l l' : List Nat} (h : l.Perm l') : jP f l = jP f l' := by
  induction h with
  | nil => rfl
  | cons x _ ih => rw [jP, jP, ih]
  | swap x y l => simp only [jP]; rw [Int.mul_left_comm]
  | trans _ _ h1 h2 => exact h1.trans h2
theorem jP_map (f : Nat → Int) (g : Nat → Nat) : ∀ l : List Nat, jP f (l.map g) = jP (fun k => f (g k)) l
  | [] => rfl
  | a :: l => by rw [List.map_cons, jP, jP, jP_map f g l]
theorem jP_pow (a : Int) : ∀ l : List Nat, jP (fun k => a * (k : Int)) l = a ^ l.length * jP (fun k => (k : Int)) l
  | [] => by simp [jP]
  | k :: l => by
    rw [jP, jP, jP_pow a l, List.length_cons, Int.pow_succ]
    simp only [Int.mul_assoc, Int.mul_left_comm]
theorem jP_sign (s f : Nat → Nat) : ∀ l : List Nat, jP (fun k => (-1) ^ s k * (f k : Int)) l = (-1) ^ jS s l * jP (fun k => (f k : Int)) l
  | [] => by simp [jP, jS]
  | k :: l => by
    rw [jP, jP, jS, jP_sign s f l, Int.pow_add]
    simp only [Int.mul_assoc, Int.mul_left_comm]
theorem jP_alike {r : Int} {f g : Nat → Int} : ∀ {l : List Nat}, (∀ k ∈ l, r ∣ f k - g k) → r ∣ jP f l - jP g l
  | [], _ => by rw [jP, jP, Int.sub_self]; exact Int.dvd_zero r
  | k :: l, h => by
    have h1 := h k (by simp)
    have h2 := jP_alike (l := l) fun k hk => h k (by simp [hk])
    rw [jP, jP, show f k * jP f l - g k * jP g l = (f k - g k) * jP f l + g k * (jP f l - jP g l) by rw [Int.sub_mul, Int.mul_sub]; omega]
    exact Int.dvd_add (Int.dvd_mul_of_dvd_left h1) (Int.dvd_mul_of_dvd_right h2)
theorem jL_len : ∀ m, (jL m).length = m
  | 0 => rfl
  | m + 1 => by rw [jL, List.length_cons, jL_len m]
def jF : Nat → Nat
  | 0 => 1
  | m + 1 => (m + 1) * jF m
theorem jP_fact : ∀ m : Nat, jP (fun k => (k : Int)) (jL m) = (jF m : Int)
  | 0 => rfl
  | m + 1 => by rw [jL, jP, jP_fact m, jF, Int.natCast_mul]
theorem jF_prm {p : Nat} (hp : Prm p) : ∀ m, m < p → ¬ p ∣ jF m
  | 0, _, h => by have := Nat.eq_one_of_dvd_one h; have := hp.1; omega
  | m + 1, hm, h => by
    rcases hp.dvd_mul h with h1 | h1
    · have := Nat.le_of_dvd (by omega) h1; omega
    · exact jF_prm hp m (by omega) h1
/-- Gauss: the power whose exponent is half is the sign. -/
theorem gauss {p a : Nat} (hp : Prm p) (ho : p % 2 = 1) (h0 : 0 < a) (h : a < p) : (p : Int) ∣ (a : Int) ^ (p / 2) - (-1) ^ jG a p := by
  have hc : Nat.gcd p a = 1 := by
    rcases hp.2 _ (Nat.gcd_dvd_left p a) with h1 | h1
    · exact h1
    · have := Nat.le_of_dvd h0 (h1 ▸ Nat.gcd_dvd_right p a); omega
  have h1 : (p : Int) ∣ jP (fun k => (a : Int) * (k : Int)) (jL (p / 2)) - jP (fun k => (-1) ^ jg a p k * ((ja a p k : Nat) : Int)) (jL (p / 2)) := by
    refine jP_alike fun k hk => ?_
    have hlt := Nat.mod_lt (a * k) (show 0 < p by omega)
    have e := Nat.mod_add_div (a * k) p
    show (p : Int) ∣ (a : Int) * (k : Int) - (-1) ^ jg a p k * ((ja a p k : Nat) : Int)
    rw [← Int.natCast_mul]
    unfold jg ja
    by_cases c : p < 2 * (a * k % p)
    · rw [if_pos c, if_pos c]
      refine ⟨((a * k / p : Nat) : Int) + 1, ?_⟩
      rw [Int.mul_add, ← Int.natCast_mul]
      generalize p * (a * k / p) = t at *
      rw [show (-1 : Int) ^ 1 = -1 by rfl]
      omega
    · rw [if_neg c, if_neg c]
      refine ⟨((a * k / p : Nat) : Int), ?_⟩
      rw [← Int.natCast_mul]
      generalize p * (a * k / p) = t at *
      rw [show (-1 : Int) ^ 0 = 1 by rfl]
      omega
  rw [jP_pow, jP_sign, ← jP_map (fun k => (k : Int)) (ja a p), jP_perm _ (ja_perm ho hc), jP_fact, jL_len] at h1
  rw [← Int.sub_mul] at h1
  have h2 : (p : Int).natAbs ∣ (((a : Int) ^ (p / 2) - (-1) ^ jG a p) * (jF (p / 2) : Int)).natAbs := Int.natAbs_dvd_natAbs.2 h1
  rw [Int.natAbs_mul, Int.natAbs_natCast, Int.natAbs_natCast] at h2
  rcases hp.dvd_mul h2 with h3 | h3
  · exact Int.ofNat_dvd_left.2 h3
  · exact absurd h3 (jF_prm hp _ (by omega))
theorem neg_one_par : ∀ k : Nat, (-1 : Int) ^ k = if k % 2 = 0 then 1 else -1
  | 0 => rfl
  | k + 1 => by
    rw [Int.pow_succ, neg_one_par k]
    by_cases c : k % 2 = 0
    · rw [if_pos c, if_neg (by omega)]; rfl
    · rw [if_neg c, if_pos (by omega)]; rfl
/-- The squares of a prime, told by the sign. -/
theorem gauss_one {p a : Nat} (hp : Prm p) (ho : p % 2 = 1) (h0 : 0 < a) (h : a < p) : a ^ (p / 2) % p = 1 ↔ jG a p % 2 = 0 := by
  have h1 := gauss hp ho h0 h
  have hp1 := hp.1
  rw [neg_one_par, ← Int.natCast_pow] at h1
  obtain ⟨t, ht⟩ := h1
  have e := Nat.mod_add_div (a ^ (p / 2)) p
  have hlt := Nat.mod_lt (a ^ (p / 2)) (show 0 < p by omega)
  by_cases c : jG a p % 2 = 0
  · rw [if_pos c] at ht
    refine ⟨fun _ => c, fun _ => ?_⟩
    have h2 : ((a ^ (p / 2) : Nat) : Int) % (p : Int) = 1 := by
      rw [show ((a ^ (p / 2) : Nat) : Int) = 1 + (p : Int) * t by omega, Int.add_mul_emod_self_left, Int.emod_eq_of_lt (by omega) (by omega)]
    exact_mod_cast h2
  · rw [if_neg c] at ht
    refine ⟨fun h3 => ?_, fun h3 => absurd h3 c⟩
    exfalso
    have h2 : ((a ^ (p / 2) : Nat) : Int) % (p : Int) = (p : Int) - 1 := by
      rw [show ((a ^ (p / 2) : Nat) : Int) = ((p : Int) - 1) + (p : Int) * (t - 1) by rw [Int.mul_sub]; omega, Int.add_mul_emod_self_left, Int.emod_eq_of_lt (by omega) (by omega)]
    have h4 : ((a ^ (p / 2) % p : Nat) : Int) = (p : Int) - 1 := by rw [← h2]; simp
    rw [h3] at h4
    omega
end Go.Proofs.YtfonpmahcdmajaaDoor
