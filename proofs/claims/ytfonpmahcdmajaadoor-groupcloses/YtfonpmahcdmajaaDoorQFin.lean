import Derived.Test.YtfonpmahcdmajaaDoorQPrm
/-
  The greater prime is one: plain arithmetic, nothing of the program.
-/
namespace Go.Proofs.YtfonpmahcdmajaaDoor

theorem prm_all_two : ∀ l ∈ L_two, Prm l := by
  intro l hl
  have h : l ∈ cs_two.map (·.1) := by
    have h2 : (L_two.all fun l => (cs_two.map (·.1)).contains l) = true := by kernel_rfl
    exact List.contains_iff_mem.mp (List.all_eq_true.mp h2 l hl)
  have e : cs_two.map (·.1) = [2, 3, 5, 58502243, 500905890761075075179, 3851, 4332967] := by kernel_rfl
  rw [e] at h
  simp only [List.mem_cons, List.not_mem_nil, or_false] at h
  rcases h with rfl | rfl | rfl | rfl | rfl | rfl | rfl
  · exact qrm_2
  · exact qrm_3
  · exact qrm_5
  · exact qrm_58502243
  · exact qrm_500905890761075075179
  · exact qrm_3851
  · exact qrm_4332967
theorem rest_two {r : Nat} (hr : Prm r) (h : r ∣ qN) : ∃ p ∈ pe_two, r % f_two = p.2 := by
  refine order (F := 197) hr h g_two L_two cs_two pe_two (by decide) prm_all_two (by kernel_rfl) (of_decide_eq_true (by kernel_rfl)) ?_ (of_decide_eq_true (by kernel_rfl)) h1_two ?_ ?_ ?_ hp_two
  · have h2 : (g_two.all fun c => decide (c ≤ qN)) = true := by kernel_rfl
    exact fun c hc => of_decide_eq_true (List.all_eq_true.mp h2 c hc)
  · intro l hl
    have h2 : (L_two.all fun l => (cs_two.map (·.1)).contains l) = true := by kernel_rfl
    have h3 := List.contains_iff_mem.mp (List.all_eq_true.mp h2 l hl)
    obtain ⟨c, hc, e⟩ := List.mem_map.mp h3
    exact ⟨c, hc, e⟩
  · exact fun c hc => eq_of_beq (List.all_eq_true.mp hc_two c hc)
  · intro p hp
    have h2 := List.all_eq_true.mp he_two p hp
    rw [Bool.and_eq_true] at h2
    exact ⟨of_decide_eq_true h2.1, eq_of_beq h2.2⟩
theorem prm_all_six : ∀ l ∈ L_six, Prm l := by
  intro l hl
  have h : l ∈ cs_six.map (·.1) := by
    have h2 : (L_six.all fun l => (cs_six.map (·.1)).contains l) = true := by kernel_rfl
    exact List.contains_iff_mem.mp (List.all_eq_true.mp h2 l hl)
  have e : cs_six.map (·.1) = [7, 13, 73, 199, 313, 18661, 290866399, 182088203053, 22834869333004942403899] := by kernel_rfl
  rw [e] at h
  simp only [List.mem_cons, List.not_mem_nil, or_false] at h
  rcases h with rfl | rfl | rfl | rfl | rfl | rfl | rfl | rfl | rfl
  · exact qrm_7
  · exact qrm_13
  · exact qrm_73
  · exact qrm_199
  · exact qrm_313
  · exact qrm_18661
  · exact qrm_290866399
  · exact qrm_182088203053
  · exact qrm_22834869333004942403899
theorem rest_six {r : Nat} (hr : Prm r) (h : r ∣ qN) : ∃ p ∈ pe_six, r % f_six = p.2 := by
  refine order (F := 183) hr h g_six L_six cs_six pe_six (by decide) prm_all_six (by kernel_rfl) (of_decide_eq_true (by kernel_rfl)) ?_ (of_decide_eq_true (by kernel_rfl)) h1_six ?_ ?_ ?_ hp_six
  · have h2 : (g_six.all fun c => decide (c ≤ qN)) = true := by kernel_rfl
    exact fun c hc => of_decide_eq_true (List.all_eq_true.mp h2 c hc)
  · intro l hl
    have h2 : (L_six.all fun l => (cs_six.map (·.1)).contains l) = true := by kernel_rfl
    have h3 := List.contains_iff_mem.mp (List.all_eq_true.mp h2 l hl)
    obtain ⟨c, hc, e⟩ := List.mem_map.mp h3
    exact ⟨c, hc, e⟩
  · exact fun c hc => eq_of_beq (List.all_eq_true.mp hc_six c hc)
  · intro p hp
    have h2 := List.all_eq_true.mp he_six p hp
    rw [Bool.and_eq_true] at h2
    exact ⟨of_decide_eq_true h2.1, eq_of_beq h2.2⟩
end Go.Proofs.YtfonpmahcdmajaaDoor
/-
  Both great primes are primes: plain arithmetic, nothing of the program.
-/
namespace Go.Proofs.YtfonpmahcdmajaaDoor

/-- Two rests, and what they leave together. -/
theorem same_of_two {F G s c : Nat} (hg : Nat.gcd F G = 1) (hs : s < F * G) (hc : c < F * G) (h1 : s % F = c % F) (h2 : s % G = c % G) : s = c := by
  have main : ∀ x y : Nat, y < F * G → x % F = y % F → x % G = y % G → x ≤ y → x = y := by
    intro x y hy e1 e2 hle
    have d1 : F ∣ y - x := Nat.dvd_of_mod_eq_zero (Nat.sub_mod_eq_zero_of_mod_eq e1.symm)
    have d2 : G ∣ y - x := Nat.dvd_of_mod_eq_zero (Nat.sub_mod_eq_zero_of_mod_eq e2.symm)
    have d := Nat.Coprime.mul_dvd_of_dvd_of_dvd hg d1 d2
    rcases Nat.eq_zero_or_pos (y - x) with h | h
    · omega
    · have := Nat.le_of_dvd h d; omega
  rcases Nat.le_total s c with h | h
  · exact main s c hc h1 h2 h
  · exact (main c s hs h1.symm h2.symm h).symm
/-- A number with no prime divisor up to its root is a prime. -/
theorem prm_root {N : Nat} (h1 : 1 < N) (h : ∀ r, Prm r → r ∣ N → ¬ r * r ≤ N) : Prm N := by
  refine ⟨h1, fun d hd => ?_⟩
  obtain ⟨e, he⟩ := hd
  rcases Nat.lt_or_ge 1 d with h2 | h2
  · rcases Nat.lt_or_ge 1 e with h3 | h3
    · exfalso
      have key : ∀ m, 1 < m → m ∣ N → m * m ≤ N → False := by
        intro m hm hmd hmm
        obtain ⟨r, hr, hrm⟩ := prm_factor m m (Nat.le_refl _) hm
        have hle := Nat.le_of_dvd (by omega) hrm
        exact h r hr (Nat.dvd_trans hrm hmd) (Nat.le_trans (Nat.mul_le_mul hle hle) hmm)
      rcases Nat.le_total d e with h4 | h4
      · exact key d h2 ⟨e, he⟩ (by rw [he]; exact Nat.mul_le_mul_left d h4)
      · exact key e h3 ⟨d, by rw [he, Nat.mul_comm]⟩ (by rw [he]; exact Nat.mul_le_mul_right e h4)
    · right
      rcases Nat.eq_zero_or_pos e with h4 | h4
      · subst h4; omega
      · have : e = 1 := by omega
        subst this; omega
  · left
    rcases Nat.eq_zero_or_pos d with h4 | h4
    · subst h4; omega
    · omega
def mix (a b : Nat) : Nat := a + f_two * (((b + (f_six - a % f_six)) * 5773574190149295415829178265348120918006669742087493035) % f_six)
/-- No candidate divides. -/
def tried : Bool := pe_two.all fun p => pe_six.all fun s => decide (mix p.2 s.2 % f_two = p.2) && (decide (mix p.2 s.2 % f_six = s.2) && (decide (mix p.2 s.2 < f_two * f_six) &&
  (List.range 24).all fun x => decide (mix p.2 s.2 + f_two * f_six * x ≤ 1) || (decide (qN < (mix p.2 s.2 + f_two * f_six * x) * (mix p.2 s.2 + f_two * f_six * x)) || decide (qN % (mix p.2 s.2 + f_two * f_six * x) ≠ 0))))
theorem tried_true : tried = true := by kernel_rfl
theorem gcd_one : Nat.gcd f_two f_six = 1 := by kernel_rfl
theorem wide24 : qN < (f_two * f_six * 24) * (f_two * f_six * 24) := of_decide_eq_true (by kernel_rfl)
theorem prm_q : Prm qN := by
  refine prm_root (of_decide_eq_true (by kernel_rfl)) ?_
  intro r hr hd hle
  obtain ⟨p, hp, e1⟩ := rest_two hr hd
  obtain ⟨s, hs, e2⟩ := rest_six hr hd
  have t := List.all_eq_true.mp (List.all_eq_true.mp tried_true p hp) s hs
  simp only [Bool.and_eq_true, Bool.or_eq_true, decide_eq_true_eq, List.all_eq_true, List.mem_range] at t
  obtain ⟨c1, c2, c3, c4⟩ := t
  have hpos : 0 < f_two * f_six := of_decide_eq_true (by kernel_rfl)
  have hc : r % (f_two * f_six) = mix p.2 s.2 := by
    refine same_of_two gcd_one (Nat.mod_lt _ hpos) c3 ?_ ?_
    · rw [Nat.mod_mod_of_dvd _ ⟨f_six, rfl⟩, e1, c1]
    · rw [Nat.mod_mod_of_dvd _ ⟨f_two, Nat.mul_comm _ _⟩, e2, c2]
  have hr2 := Nat.mod_add_div r (f_two * f_six)
  rw [hc] at hr2
  have h24 : r / (f_two * f_six) < 24 := by
    rw [Nat.div_lt_iff_lt_mul hpos]
    rcases Nat.lt_or_ge r (24 * (f_two * f_six)) with h | h
    · exact h
    · exfalso
      have := Nat.mul_le_mul h h
      have h2 := wide24
      rw [Nat.mul_comm 24] at this
      exact absurd (Nat.lt_of_lt_of_le h2 (Nat.le_trans this hle)) (Nat.lt_irrefl _)
  have := c4 _ h24
  rw [hr2] at this
  rcases this with h | h | h
  · have := hr.1; omega
  · omega
  · exact h (Nat.mod_eq_zero_of_dvd hd)
def pNN : Nat := 2 * qN + 1
theorem prm_p : Prm pNN := prm_cert (g := 7) [2, qN] 768 (by
  intro r hr
  simp only [List.mem_cons, List.not_mem_nil, or_false] at hr
  rcases hr with rfl | rfl
  · exact qrm_2
  · exact prm_q) (by kernel_rfl)
/-- Fermat's little theorem. -/
theorem fermat_prm {r : Nat} (hr : Prm r) (x : Nat) (h0 : 0 < x) (h : x < r) : x ^ (r - 1) % r = 1 := by
  have h1 := fermat_int hr x
  have e : (x : Int) ^ r - x = ((x * (x ^ (r - 1) - 1) : Nat) : Int) := by
    have hp : 1 ≤ x ^ (r - 1) := Nat.pow_pos h0
    rw [Int.natCast_mul, Int.natCast_sub hp, Int.mul_sub]
    have : x ^ r = x * x ^ (r - 1) := by
      rw [Nat.mul_comm, ← Nat.pow_succ]; congr 1; have := hr.1; omega
    rw [← Int.natCast_mul, ← this]
    simp
  rw [e] at h1
  have h2 := Int.natCast_dvd_natCast.mp h1
  rcases hr.dvd_mul h2 with h3 | h3
  · have := Nat.le_of_dvd h0 h3; omega
  · obtain ⟨k, hk⟩ := h3
    have hp : 1 ≤ x ^ (r - 1) := Nat.pow_pos h0
    have : x ^ (r - 1) = 1 + r * k := by omega
    rw [this, Nat.add_mul_mod_self_left, Nat.mod_eq_of_lt hr.1]
end Go.Proofs.YtfonpmahcdmajaaDoor
