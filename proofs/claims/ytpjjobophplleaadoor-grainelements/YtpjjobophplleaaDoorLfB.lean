/-
  The register of 80 bits comes back behind 2^80 - 1 turns, and never before. Plain arithmetic, nothing of the program.
-/
import Derived.Test.YtpjjobophplleaaDoorLfA
namespace Go.Proofs.YtpjjobophplleaaDoor
set_option linter.unusedVariables false

def gN : Nat := 1208925819614629174706175
def gPs : List Nat := [3, 5, 5, 11, 17, 31, 41, 257, 61681, 4278255361]
theorem gPs_prod : prodL gPs = gN := by decide
theorem gp3 : Prm 3 := prm_small (by decide) (by decide)
theorem gp5 : Prm 5 := prm_small (by decide) (by decide)
theorem gp2' : Prm 2 := prm_small (by decide) (by decide)
theorem gp11 : Prm 11 := prm_small (by decide) (by decide)
theorem gp17 : Prm 17 := prm_small (by decide) (by decide)
theorem gp31 : Prm 31 := prm_small (by decide) (by decide)
theorem gp41 : Prm 41 := prm_small (by decide) (by decide)
theorem gp257 : Prm 257 := prm_cert (g := 3) [2, 2, 2, 2, 2, 2, 2, 2] 9 (by
  intro r hr
  simp only [List.mem_cons, List.not_mem_nil, or_false, or_self] at hr
  subst hr
  exact gp2') (by decide +kernel)
theorem gp65537 : Prm 65537 := prm_cert (g := 3) [2, 2, 2, 2, 2, 2, 2, 2, 2, 2, 2, 2, 2, 2, 2, 2] 17 (by
  intro r hr
  simp only [List.mem_cons, List.not_mem_nil, or_false, or_self] at hr
  subst hr
  exact gp2') (by decide +kernel)
theorem gp61681 : Prm 61681 := prm_cert (g := 29) [2, 2, 2, 2, 3, 5, 257] 16 (by
  intro r hr
  simp only [List.mem_cons, List.not_mem_nil, or_false] at hr
  rcases hr with rfl | rfl | rfl | rfl | rfl | rfl | rfl
  · exact gp2'
  · exact gp2'
  · exact gp2'
  · exact gp2'
  · exact gp3
  · exact gp5
  · exact gp257) (by decide +kernel)
theorem gpBig : Prm 4278255361 := prm_cert (g := 23) [2, 2, 2, 2, 2, 2, 2, 2, 3, 5, 17, 65537] 32 (by
  intro r hr
  simp only [List.mem_cons, List.not_mem_nil, or_false] at hr
  rcases hr with rfl | rfl | rfl | rfl | rfl | rfl | rfl | rfl | rfl | rfl | rfl | rfl
  · exact gp2'
  · exact gp2'
  · exact gp2'
  · exact gp2'
  · exact gp2'
  · exact gp2'
  · exact gp2'
  · exact gp2'
  · exact gp3
  · exact gp5
  · exact gp17
  · exact gp65537) (by decide +kernel)
theorem gPs_prm : ∀ r ∈ gPs, Prm r := by
  intro r hr
  simp only [gPs, List.mem_cons, List.not_mem_nil, or_false] at hr
  rcases hr with rfl | rfl | rfl | rfl | rfl | rfl | rfl | rfl | rfl | rfl
  · exact gp3
  · exact gp5
  · exact gp5
  · exact gp11
  · exact gp17
  · exact gp31
  · exact gp41
  · exact gp257
  · exact gp61681
  · exact gpBig
/-- The checks, reckoned. -/
theorem g_full : gpw 80 gN 2 = 1 := by decide +kernel
theorem g_at3 : gmul 80 626585978286512781477397 (gpw 80 (gN / 3) 2 ^^^ 1) = 1 := by decide +kernel
theorem g_at5 : gmul 80 847140029551063439083571 (gpw 80 (gN / 5) 2 ^^^ 1) = 1 := by decide +kernel
theorem g_at11 : gmul 80 423046615815031885923465 (gpw 80 (gN / 11) 2 ^^^ 1) = 1 := by decide +kernel
theorem g_at17 : gmul 80 1155896398307893314045777 (gpw 80 (gN / 17) 2 ^^^ 1) = 1 := by decide +kernel
theorem g_at31 : gmul 80 183502464077304913684533 (gpw 80 (gN / 31) 2 ^^^ 1) = 1 := by decide +kernel
theorem g_at41 : gmul 80 375760536490022064001342 (gpw 80 (gN / 41) 2 ^^^ 1) = 1 := by decide +kernel
theorem g_at257 : gmul 80 676331498297951284148691 (gpw 80 (gN / 257) 2 ^^^ 1) = 1 := by decide +kernel
theorem g_at61681 : gmul 80 396894167770810043337993 (gpw 80 (gN / 61681) 2 ^^^ 1) = 1 := by decide +kernel
theorem g_at4278255361 : gmul 80 273558259875724820181296 (gpw 80 (gN / 4278255361) 2 ^^^ 1) = 1 := by decide +kernel

theorem gA_it (s : Nat) (hs : s < g80) : gA 2 s = gIt 1 s := gA_two
theorem gIt_N {s : Nat} (h : s < g80) : gIt gN s = s := by
  have h1 := gpw_act 80 gN 2 1 (by decide) (by decide) gA_it s h
  rw [g_full, gA_one, Nat.one_mul] at h1
  exact h1.symm
theorem g_not {s u q : Nat} (h : s < g80) (hq : gN / q < 2 ^ 80) (hu : u < g80) (hc : gmul 80 u (gpw 80 (gN / q) 2 ^^^ 1) = 1) (hp : gIt (gN / q) s = s) : s = 0 := by
  have h1 := gpw_act 80 (gN / q) 2 1 (by decide) hq gA_it s h
  rw [Nat.one_mul, hp] at h1
  have hlt : gpw 80 (gN / q) 2 < g80 := gpw_lt 80 _ (by decide)
  have h2 : gA (gpw 80 (gN / q) 2 ^^^ 1) s = 0 := by
    have e := gact_xor 81 (gpw 80 (gN / q) 2) 1 s
    have h1' : gact 81 (gpw 80 (gN / q) 2) s = s := h1
    have h3 : gact 81 1 s = s := gA_one
    rw [h1', h3, Nat.xor_self] at e
    exact e
  have h3 := gmul_A (b := gpw 80 (gN / q) 2 ^^^ 1) hu (xor80 hlt (by decide)) h
  rw [hc, h2, gA_one] at h3
  rw [h3]
  exact gact_nil 81 u
theorem g_prime {s : Nat} (h : s < g80) {q : Nat} (hq : q ∈ gPs) (hp : gIt (gN / q) s = s) : s = 0 := by
  simp only [gPs, List.mem_cons, List.not_mem_nil, or_false] at hq
  rcases hq with rfl | rfl | rfl | rfl | rfl | rfl | rfl | rfl | rfl | rfl
  · exact g_not h (by decide) (by decide) g_at3 hp
  · exact g_not h (by decide) (by decide) g_at5 hp
  · exact g_not h (by decide) (by decide) g_at5 hp
  · exact g_not h (by decide) (by decide) g_at11 hp
  · exact g_not h (by decide) (by decide) g_at17 hp
  · exact g_not h (by decide) (by decide) g_at31 hp
  · exact g_not h (by decide) (by decide) g_at41 hp
  · exact g_not h (by decide) (by decide) g_at257 hp
  · exact g_not h (by decide) (by decide) g_at61681 hp
  · exact g_not h (by decide) (by decide) g_at4278255361 hp
theorem g_rest {s a b : Nat} (ha : gIt a s = s) (hb : gIt b s = s) : gIt (a % b) s = s := by
  have e : gIt a s = gIt (a % b) (gIt (b * (a / b)) s) := by rw [← gIt_add, Nat.div_add_mod]
  rw [gIt_mul b s _ hb, ha] at e
  exact e.symm
theorem g_gcd {s : Nat} (a b : Nat) : gIt a s = s → gIt b s = s → gIt (Nat.gcd a b) s = s := by
  induction a, b using Nat.gcd.induction with
  | H0 n => intro _ hb; rw [Nat.gcd_zero_left]; exact hb
  | H1 m n hm ih => intro ha hb; rw [Nat.gcd_rec]; exact ih (g_rest hb ha) ha
theorem g_order {s d : Nat} (h : s < g80) (h0 : s ≠ 0) (hd0 : 0 < d) (hd : d < gN) : gIt d s ≠ s := by
  intro hp
  have hg := g_gcd d gN hp (gIt_N h)
  have hdv := Nat.gcd_dvd_right d gN
  have hle := Nat.le_of_dvd hd0 (Nat.gcd_dvd_left d gN)
  generalize Nat.gcd d gN = g at *
  obtain ⟨m, hm⟩ := hdv
  have hm1 : 1 < m := by
    rcases Nat.lt_or_ge 1 m with h' | h'
    · exact h'
    · have : g * m ≤ g * 1 := Nat.mul_le_mul_left g h'
      omega
  obtain ⟨q, hq, ⟨k, hk⟩⟩ := prm_factor m m (Nat.le_refl _) hm1
  have hqm : q ∈ gPs := hq.mem gPs gPs_prm (by rw [gPs_prod, hm, hk]; exact ⟨g * k, by rw [Nat.mul_left_comm]⟩)
  refine h0 (g_prime h hqm ?_)
  have e : gN / q = g * k := by
    rw [hm, hk, Nat.mul_left_comm]
    exact Nat.mul_div_cancel_left _ (by have := hq.1; omega)
  rw [e]
  exact gIt_mul g s k hg
theorem gIt_ne {s : Nat} (h : s < g80) (h0 : s ≠ 0) {i : Nat} (hi : i ≤ gN) : gIt i s ≠ 0 := by
  intro e
  have := gIt_N h
  rw [show gN = i + (gN - i) by omega, gIt_add, e, gIt_zero] at this
  exact h0 this.symm
theorem gIt_inj {s i j : Nat} (h : s < g80) (h0 : s ≠ 0) (hi : i < gN) (hj : j < gN) (e : gIt i s = gIt j s) : i = j := by
  have key : ∀ i j, i < j → j < gN → gIt i s = gIt j s → False := by
    intro i j hij hj e
    have h1 : gIt (i + (gN - j)) s = s := by
      rw [gIt_add, e, ← gIt_add, show j + (gN - j) = gN by omega]
      exact gIt_N h
    exact g_order h h0 (by omega) (by omega) h1
  rcases Nat.lt_trichotomy i j with h' | h' | h'
  · exact (key i j h' hj e).elim
  · exact h'
  · exact (key j i h' hi e.symm).elim
/-- Each register but zero comes, from each. -/
theorem g_reach {s y : Nat} (h : s < g80) (h0 : s ≠ 0) (hy : y < g80) (hy0 : y ≠ 0) : ∃ k, gIt k s = y := by
  have hb : ∀ i, i < gN → gIt i s - 1 < gN := fun i hi => by
    have h1 := gIt_lt i h
    have h2 := gIt_ne h h0 (Nat.le_of_lt hi)
    unfold g80 at h1
    unfold gN
    omega
  obtain ⟨i, hi, e⟩ := pigeon gN (fun i => gIt i s - 1) hb (fun i j hi hj e => by
    have h2 := gIt_ne h h0 (Nat.le_of_lt hi)
    have h3 := gIt_ne h h0 (Nat.le_of_lt hj)
    have e' : gIt i s - 1 = gIt j s - 1 := e
    exact gIt_inj h h0 hi hj (by omega)) (y - 1) (by unfold g80 at hy; unfold gN; omega)
  have h2 := gIt_ne h h0 (Nat.le_of_lt hi)
  have e' : gIt i s - 1 = y - 1 := e
  exact ⟨i, by omega⟩
/-- Also by pairs of turns. -/
theorem g_reach2 {s y : Nat} (h : s < g80) (h0 : s ≠ 0) (hy : y < g80) (hy0 : y ≠ 0) : ∃ k, gIt (2 * k) s = y := by
  obtain ⟨j, e⟩ := g_reach h h0 hy hy0
  rcases Nat.mod_two_eq_zero_or_one j with f | f
  · exact ⟨j / 2, by rw [show 2 * (j / 2) = j by omega]; exact e⟩
  · refine ⟨(j + gN) / 2, ?_⟩
    rw [show 2 * ((j + gN) / 2) = gN + j by unfold gN; omega, gIt_add, gIt_N h]
    exact e
end Go.Proofs.YtpjjobophplleaaDoor
