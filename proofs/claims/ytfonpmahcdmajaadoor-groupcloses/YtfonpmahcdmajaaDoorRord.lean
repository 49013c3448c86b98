/-
  What a prime divisor leaves, divided by the order of a root: plain arithmetic, nothing of the program.
-/
import Derived.Test.YtfonpmahcdmajaaDoorRprd
namespace Go.Proofs.YtfonpmahcdmajaaDoor

theorem sh_mul {r : Int} {v : Sq} {t : Nat} (h : Alk r (sh t v) v) : ∀ k, Alk r (sh (t * k) v) v
  | 0 => Alk.refl _ _
  | k + 1 => by
    rw [Nat.mul_succ, ← sh_sh]
    exact (h.lin (sh_lin (t * k))).trans (sh_mul h k)
theorem sh_rest {r : Int} {v : Sq} {a b : Nat} (ha : Alk r (sh a v) v) (hb : Alk r (sh b v) v) : Alk r (sh (a % b) v) v := by
  have h1 := (sh_mul hb (a / b)).lin (sh_lin (a % b))
  rw [sh_sh, Nat.mod_add_div] at h1
  exact h1.symm.trans ha
theorem sh_gcd {r : Int} {v : Sq} (a b : Nat) : Alk r (sh a v) v → Alk r (sh b v) v → Alk r (sh (Nat.gcd a b) v) v := by
  induction a, b using Nat.gcd.induction with
  | H0 n => intro _ h; rwa [Nat.gcd_zero_left]
  | H1 m n hm ih => intro ha hb; rw [Nat.gcd_rec]; exact ih (sh_rest hb ha) ha
theorem nil_alk {r : Int} {u v : Sq} (h : Alk r u v) (hu : Nil r u) : Nil r v := fun n => by
  have := Int.dvd_sub (hu n) (h n)
  rwa [show ∀ a b : Int, a - (a - b) = b by intros; omega] at this
theorem sh_inj {r : Int} {g : List Nat} {f : Nat} {L : List Nat} (hL : ∀ l ∈ L, Prm l) (hp : prodL L = f)
    (hf : ∀ w, Rec r g w → Alk r (sh f w) w) (hl : ∀ l ∈ L, ∀ w, Rec r g w → Alk r (sh (f / l) w) w → Nil r w)
    {a b : Nat} (hab : a < b) (hb : b < f) {w : Sq} (hw : Rec r g w) (h : Alk r (sh b w) (sh a w)) : Nil r w := by
  have hv := hw.sh a
  have h1 : Alk r (sh (b - a) (sh a w)) (sh a w) := by rwa [sh_sh, Nat.sub_add_cancel (by omega)]
  have h2 := sh_gcd (b - a) f h1 (hf _ hv)
  obtain ⟨m, hm⟩ := Nat.gcd_dvd_right (b - a) f
  have hle := Nat.le_of_dvd (by omega) (Nat.gcd_dvd_left (b - a) f)
  generalize Nat.gcd (b - a) f = t at *
  have hm1 : 1 < m := by
    rcases Nat.lt_or_ge 1 m with h | h
    · exact h
    · exfalso
      have : t * m ≤ t * 1 := Nat.mul_le_mul_left t h
      omega
  obtain ⟨q, hq, k, hk⟩ := prm_factor m m (Nat.le_refl _) hm1
  have hqf : q ∣ prodL L := by rw [hp, hm, hk]; exact ⟨t * k, by rw [Nat.mul_left_comm]⟩
  have hqL := hq.mem L hL hqf
  have e : f / q = t * k := by
    rw [hm, hk, Nat.mul_left_comm]
    exact Nat.mul_div_cancel_left _ (by have := hq.1; omega)
  have h3 := hl q hqL _ hv (by rw [e]; exact sh_mul h2 k)
  have h4 : Nil r (sh f w) := by
    rw [show f = (f - a) + a by omega, ← sh_sh]
    exact fun n => h3 (n + (f - a))
  exact nil_alk (hf w hw) h4

/-- A sequence that keeps the recurrence: its windows. -/
def win (g : List Nat) : Nat → Nat → Int
  | 0, j => if j = 0 then 1 else 0
  | n + 1, j => if j + 1 < g.length then win g n (j + 1) else actS 1 g (fun i => win g n i) 0
theorem win_u (g : List Nat) : ∀ (j n : Nat), j < g.length → win g n j = win g (n + j) 0
  | 0, n, _ => rfl
  | j + 1, n, h => by
    have := win_u g j (n + 1) (by omega)
    rw [show n + (j + 1) = n + 1 + j by omega, ← this]
    rw [win, if_pos h]
theorem act_congr : ∀ (l : List Nat) (u v : Sq) (m n : Nat), (∀ j, j < l.length → u (m + j) = v (n + j)) → actS 1 l u m = actS 1 l v n
  | [], _, _, _, _, _ => rfl
  | c :: l, u, v, m, n, h => by
    have h0 := h 0 (by simp)
    have ih := act_congr l u v (m + 1) (n + 1) fun j hj => by
      have := h (j + 1) (by simp; omega)
      rwa [show m + 1 + j = m + (j + 1) by omega, show n + 1 + j = n + (j + 1) by omega]
    simp only [actS, ih]
    simp only [Nat.add_zero] at h0
    rw [h0]
theorem win_rec (r : Int) {g : List Nat} (h0 : 0 < g.length) : Rec r g (fun n => win g n 0) := by
  intro n
  have e : win g (n + g.length) 0 = win g (n + 1) (g.length - 1) := by
    rw [win_u g (g.length - 1) (n + 1) (by omega)]; congr 1; omega
  have e2 : win g (n + 1) (g.length - 1) = actS 1 g (fun n => win g n 0) n := by
    rw [win, if_neg (by omega)]
    exact act_congr g _ _ 0 n fun j hj => by rw [Nat.zero_add]; exact win_u g j n hj
  simp only [sh]
  rw [e, e2, Int.sub_self]
  exact Int.dvd_zero r

/-- What r leaves, divided by f, is among the given ones. -/
theorem order {r N f F : Nat} (hr : Prm r) (hN : r ∣ N) (g L : List Nat) (cs : List (Nat × List Nat)) (pe : List (List Nat × Nat))
    (h2 : 2 ≤ g.length) (hL : ∀ l ∈ L, Prm l) (hp : prodL L = f) (hF : f < 2 ^ F) (hgN : ∀ c ∈ g, c ≤ N) (hN1 : 1 ≤ N)
    (h1 : pwm N g F (xl g) f = one g)
    (hLc : ∀ l ∈ L, ∃ c ∈ cs, c.1 = l)
    (hc : ∀ c ∈ cs, mulm N g c.2 (addm N (pwm N g F (xl g) (f / c.1)) ((N - 1) :: zrs g.tail)) = one g)
    (he : ∀ p ∈ pe, p.2 < f ∧ addm N p.1 (pwm N g F (xl g) p.2) = zrs g)
    (hprod : prT N g (pe.map (·.1)) = cst N g g) : ∃ p ∈ pe, r % f = p.2 := by
  have h0 : 0 < g.length := by omega
  have hf : ∀ w, Rec r g w → Alk r (sh f w) w := by
    intro w hw
    have h := pwx_alk hN h2 hw F f hF
    rw [h1, one_act h0] at h
    exact h.symm
  have hl : ∀ l ∈ L, ∀ w, Rec r g w → Alk r (sh (f / l) w) w → Nil r w := by
    intro l hlL w hw hs
    obtain ⟨c, hcc, rfl⟩ := hLc l hlL
    have hx := pwx_alk hN h2 hw F (f / c.1) (Nat.lt_of_le_of_lt (Nat.div_le_self _ _) hF)
    have hxl := pwm_len N h0 F (xl g) (f / c.1) (xl_len h2)
    have hbl : (addm N (pwm N g F (xl g) (f / c.1)) ((N - 1) :: zrs g.tail)).length = g.length := by
      have : ((N - 1) :: zrs g.tail).length = g.length := by simp [zrs]; omega
      rw [addm_len _ _ _ (by rw [hxl, this]), this]
    have hm := mulm_alk hN hbl h0 hw c.2
    rw [hc c hcc, one_act h0] at hm
    refine nil_alk hm.symm ?_
    have hz : Alk r (actS 1 (addm N (pwm N g F (xl g) (f / c.1)) ((N - 1) :: zrs g.tail)) w) (fun _ => 0) := by
      refine (addm_alk hN _ _ w).trans ?_
      refine (Alk.add (hx.trans hs) (Alk.refl _ _)).trans ?_
      intro n
      simp only [actS, zrs_act]
      obtain ⟨q, hq⟩ := hN
      refine ⟨q * w n, ?_⟩
      rw [Int.ofNat_sub hN1, hq, Int.natCast_mul, Int.sub_mul, Int.mul_assoc]
      simp only [Int.natCast_one, Int.one_mul]
      omega
    have hz2 := hz.lin (actS_lin 1 c.2)
    intro n
    have := hz2 n
    rwa [act_zero, Int.sub_zero] at this
  refine Classical.byContradiction fun hno => ?_
  have hno : ∀ p ∈ pe, r % f ≠ p.2 := fun p hpp e => hno ⟨p, hpp, e⟩
  have hu := win_rec (r : Int) h0
  have hz : Nil r (evT r (prT N g (pe.map (·.1))) (fun n => win g n 0)) := by
    rw [hprod]
    intro n
    have ha := cst_alk hN h0 r (fun n => win g n 0) g n hgN
    have hb := hu.frob hr n
    simp only [sh] at hb
    have := Int.dvd_add ha hb
    rwa [show ∀ a b c : Int, a + b - c + (c - b) = a by intros; omega] at this
  have hnil := prT_nil hN h0 r hu (pe.map (·.1)) ?_ hz
  · have h3 := hnil 0
    simp only [win, if_true] at h3
    have h4 : r ∣ 1 := Int.natCast_dvd_natCast.mp h3
    have := Nat.le_of_dvd (by omega) h4
    have := hr.1
    omega
  · intro p hpp w hw hs
    obtain ⟨q, hq, rfl⟩ := List.mem_map.mp hpp
    obtain ⟨hqf, hqa⟩ := he q hq
    have hx := pwx_alk hN h2 hw F q.2 (Nat.lt_trans hqf hF)
    have ha := addm_alk hN q.1 (pwm N g F (xl g) q.2) w
    rw [hqa] at ha
    have hfp : 0 < f := by omega
    have hlike : Alk r (sh (r % f) w) (sh q.2 w) := by
      have hr1 : Alk r (sh r w) (sh (r % f) w) := by
        have h5 := (sh_mul (hf w hw) (r / f)).lin (sh_lin (r % f))
        rwa [sh_sh, Nat.mod_add_div] at h5
      refine hr1.symm.trans ?_
      intro n
      have k1 := hs n
      have k2 := ha n
      have k3 := hx n
      rw [zrs_act] at k2
      have k4 := Int.dvd_add (Int.dvd_add k1 k2) k3
      rwa [show ∀ a b c d : Int, a + b + (0 - (b + c)) + (c - d) = a - d by intros; omega] at k4
    rcases Nat.lt_or_ge (r % f) q.2 with hlt | hge
    · exact sh_inj hL hp hf hl hlt hqf hw hlike.symm
    · have := hno q hq
      exact sh_inj hL hp hf hl (by omega) (Nat.mod_lt _ hfp) hw hlike
end Go.Proofs.YtfonpmahcdmajaaDoor
