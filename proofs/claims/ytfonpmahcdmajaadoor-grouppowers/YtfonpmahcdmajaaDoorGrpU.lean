import Derived.Test.YtfonpmahcdmajaaDoorQPrm
import Derived.Test.YtfonpmahcdmajaaDoorGrpS
import Derived.Test.YtfonpmahcdmajaaDoorFrob
/-
  The greater prime is one: plain arithmetic, nothing of the program.
-/
namespace Go.Proofs.YtfonpmahcdmajaaDoor

theorem prm_all_two : ∀ l ∈ L_two, Prm l := by
  intro l hl
  have h : l ∈ cs_two.map (·.1) := by
    have h2 : (L_two.all fun l => (cs_two.map (·.1)).contains l) = true := by kernel_rfl
    exact List.contains_iff_mem.mp (List.all_eq_true.mp h2 l hl)
  have e : cs_two.map (·.1) = [2, 3, 5, 58502243, 500905890761075075179, 3851, 4332967] := by kernel_rfl
  rw [e] at h
  simp only [List.mem_cons, List.not_mem_nil, or_false] at h
  rcases h with rfl | rfl | rfl | rfl | rfl | rfl | rfl
  · exact qrm_2
  · exact qrm_3
  · exact qrm_5
  · exact qrm_58502243
  · exact qrm_500905890761075075179
  · exact qrm_3851
  · exact qrm_4332967
theorem rest_two {r : Nat} (hr : Prm r) (h : r ∣ qN) : ∃ p ∈ pe_two, r % f_two = p.2 := by
  refine order (F := 197) hr h g_two L_two cs_two pe_two (by decide) prm_all_two (by kernel_rfl) (of_decide_eq_true (by kernel_rfl)) ?_ (of_decide_eq_true (by kernel_rfl)) h1_two ?_ ?_ ?_ hp_two
  · have h2 : (g_two.all fun c => decide (c ≤ qN)) = true := by kernel_rfl
    exact fun c hc => of_decide_eq_true (List.all_eq_true.mp h2 c hc)
  · intro l hl
    have h2 : (L_two.all fun l => (cs_two.map (·.1)).contains l) = true := by kernel_rfl
    have h3 := List.contains_iff_mem.mp (List.all_eq_true.mp h2 l hl)
    obtain ⟨c, hc, e⟩ := List.mem_map.mp h3
    exact ⟨c, hc, e⟩
  · exact fun c hc => eq_of_beq (List.all_eq_true.mp hc_two c hc)
  · intro p hp
    have h2 := List.all_eq_true.mp he_two p hp
    rw [Bool.and_eq_true] at h2
    exact ⟨of_decide_eq_true h2.1, eq_of_beq h2.2⟩
theorem prm_all_six : ∀ l ∈ L_six, Prm l := by
  intro l hl
  have h : l ∈ cs_six.map (·.1) := by
    have h2 : (L_six.all fun l => (cs_six.map (·.1)).contains l) = true := by kernel_rfl
    exact List.contains_iff_mem.mp (List.all_eq_true.mp h2 l hl)
  have e : cs_six.map (·.1) = [7, 13, 73, 199, 313, 18661, 290866399, 182088203053, 22834869333004942403899] := by kernel_rfl
  rw [e] at h
  simp only [List.mem_cons, List.not_mem_nil, or_false] at h
  rcases h with rfl | rfl | rfl | rfl | rfl | rfl | rfl | rfl | rfl
  · exact qrm_7
  · exact qrm_13
  · exact qrm_73
  · exact qrm_199
  · exact qrm_313
  · exact qrm_18661
  · exact qrm_290866399
  · exact qrm_182088203053
  · exact qrm_22834869333004942403899
theorem rest_six {r : Nat} (hr : Prm r) (h : r ∣ qN) : ∃ p ∈ pe_six, r % f_six = p.2 := by
  refine order (F := 183) hr h g_six L_six cs_six pe_six (by decide) prm_all_six (by kernel_rfl) (of_decide_eq_true (by kernel_rfl)) ?_ (of_decide_eq_true (by kernel_rfl)) h1_six ?_ ?_ ?_ hp_six
  · have h2 : (g_six.all fun c => decide (c ≤ qN)) = true := by kernel_rfl
    exact fun c hc => of_decide_eq_true (List.all_eq_true.mp h2 c hc)
  · intro l hl
    have h2 : (L_six.all fun l => (cs_six.map (·.1)).contains l) = true := by kernel_rfl
    have h3 := List.contains_iff_mem.mp (List.all_eq_true.mp h2 l hl)
    obtain ⟨c, hc, e⟩ := List.mem_map.mp h3
    exact ⟨c, hc, e⟩
  · exact fun c hc => eq_of_beq (List.all_eq_true.mp hc_six c hc)
  · intro p hp
    have h2 := List.all_eq_true.mp he_six p hp
    rw [Bool.and_eq_true] at h2
    exact ⟨of_decide_eq_true h2.1, eq_of_beq h2.2⟩
end Go.Proofs.YtfonpmahcdmajaaDoor
/-
  Both great primes are primes: plain arithmetic, nothing of the program.
-/
namespace Go.Proofs.YtfonpmahcdmajaaDoor

/-- Two rests, and what they leave together. -/
theorem same_of_two {F G s c : Nat} (hg : Nat.gcd F G = 1) (hs : s < F * G) (hc : c < F * G) (h1 : s % F = c % F) (h2 : s % G = c % G) : s = c := by
  have main : ∀ x y : Nat, y < F * G → x % F = y % F → x % G = y % G → x ≤ y → x = y := by
    intro x y hy e1 e2 hle
    have d1 : F ∣ y - x := Nat.dvd_of_mod_eq_zero (Nat.sub_mod_eq_zero_of_mod_eq e1.symm)
    have d2 : G ∣ y - x := Nat.dvd_of_mod_eq_zero (Nat.sub_mod_eq_zero_of_mod_eq e2.symm)
    have d := Nat.Coprime.mul_dvd_of_dvd_of_dvd hg d1 d2
    rcases Nat.eq_zero_or_pos (y - x) with h | h
    · omega
    · have := Nat.le_of_dvd h d; omega
  rcases Nat.le_total s c with h | h
  · exact main s c hc h1 h2 h
  · exact (main c s hs h1.symm h2.symm h).symm
/-- A number with no prime divisor up to its root is a prime. -/
theorem prm_root {N : Nat} (h1 : 1 < N) (h : ∀ r, Prm r → r ∣ N → ¬ r * r ≤ N) : Prm N := by
  refine ⟨h1, fun d hd => ?_⟩
  obtain ⟨e, he⟩ := hd
  rcases Nat.lt_or_ge 1 d with h2 | h2
  · rcases Nat.lt_or_ge 1 e with h3 | h3
    · exfalso
      have key : ∀ m, 1 < m → m ∣ N → m * m ≤ N → False := by
        intro m hm hmd hmm
        obtain ⟨r, hr, hrm⟩ := prm_factor m m (Nat.le_refl _) hm
        have hle := Nat.le_of_dvd (by omega) hrm
        exact h r hr (Nat.dvd_trans hrm hmd) (Nat.le_trans (Nat.mul_le_mul hle hle) hmm)
      rcases Nat.le_total d e with h4 | h4
      · exact key d h2 ⟨e, he⟩ (by rw [he]; exact Nat.mul_le_mul_left d h4)
      · exact key e h3 ⟨d, by rw [he, Nat.mul_comm]⟩ (by rw [he]; exact Nat.mul_le_mul_right e h4)
    · right
      rcases Nat.eq_zero_or_pos e with h4 | h4
      · subst h4; omega
      · have : e = 1 := by omega
        subst this; omega
  · left
    rcases Nat.eq_zero_or_pos d with h4 | h4
    · subst h4; omega
    · omega
def mix (a b : Nat) : Nat := a + f_two * (((b + (f_six - a % f_six)) * 5773574190149295415829178265348120918006669742087493035) % f_six)
/-- No candidate divides. -/
def tried : Bool := pe_two.all fun p => pe_six.all fun s => decide (mix p.2 s.2 % f_two = p.2) && (decide (mix p.2 s.2 % f_six = s.2) && (decide (mix p.2 s.2 < f_two * f_six) &&
  (List.range 24).all fun x => decide (mix p.2 s.2 + f_two * f_six * x ≤ 1) || (decide (qN < (mix p.2 s.2 + f_two * f_six * x) * (mix p.2 s.2 + f_two * f_six * x)) || decide (qN % (mix p.2 s.2 + f_two * f_six * x) ≠ 0))))
theorem tried_true : tried = true := by kernel_rfl
theorem gcd_one : Nat.gcd f_two f_six = 1 := by kernel_rfl
theorem wide24 : qN < (f_two * f_six * 24) * (f_two * f_six * 24) := of_decide_eq_true (by kernel_rfl)
theorem prm_q : Prm qN := by
  refine prm_root (of_decide_eq_true (by kernel_rfl)) ?_
  intro r hr hd hle
  obtain ⟨p, hp, e1⟩ := rest_two hr hd
  obtain ⟨s, hs, e2⟩ := rest_six hr hd
  have t := List.all_eq_true.mp (List.all_eq_true.mp tried_true p hp) s hs
  simp only [Bool.and_eq_true, Bool.or_eq_true, decide_eq_true_eq, List.all_eq_true, List.mem_range] at t
  obtain ⟨c1, c2, c3, c4⟩ := t
  have hpos : 0 < f_two * f_six := of_decide_eq_true (by kernel_rfl)
  have hc : r % (f_two * f_six) = mix p.2 s.2 := by
    refine same_of_two gcd_one (Nat.mod_lt _ hpos) c3 ?_ ?_
    · rw [Nat.mod_mod_of_dvd _ ⟨f_six, rfl⟩, e1, c1]
    · rw [Nat.mod_mod_of_dvd _ ⟨f_two, Nat.mul_comm _ _⟩, e2, c2]
  have hr2 := Nat.mod_add_div r (f_two * f_six)
  rw [hc] at hr2
  have h24 : r / (f_two * f_six) < 24 := by
    rw [Nat.div_lt_iff_lt_mul hpos]
    rcases Nat.lt_or_ge r (24 * (f_two * f_six)) with h | h
    · exact h
    · exfalso
      have := Nat.mul_le_mul h h
      have h2 := wide24
      rw [Nat.mul_comm 24] at this
      exact absurd (Nat.lt_of_lt_of_le h2 (Nat.le_trans this hle)) (Nat.lt_irrefl _)
  have := c4 _ h24
  rw [hr2] at this
  rcases this with h | h | h
  · have := hr.1; omega
  · omega
  · exact h (Nat.mod_eq_zero_of_dvd hd)
def pNN : Nat := 2 * qN + 1
theorem prm_p : Prm pNN := prm_cert (g := 7) [2, qN] 768 (by
  intro r hr
  simp only [List.mem_cons, List.not_mem_nil, or_false] at hr
  rcases hr with rfl | rfl
  · exact qrm_2
  · exact prm_q) (by kernel_rfl)
/-- Fermat's little theorem. -/
theorem fermat_prm {r : Nat} (hr : Prm r) (x : Nat) (h0 : 0 < x) (h : x < r) : x ^ (r - 1) % r = 1 := by
  have h1 := fermat_int hr x
  have e : (x : Int) ^ r - x = ((x * (x ^ (r - 1) - 1) : Nat) : Int) := by
    have hp : 1 ≤ x ^ (r - 1) := Nat.pow_pos h0
    rw [Int.natCast_mul, Int.natCast_sub hp, Int.mul_sub]
    have : x ^ r = x * x ^ (r - 1) := by
      rw [Nat.mul_comm, ← Nat.pow_succ]; congr 1; have := hr.1; omega
    rw [← Int.natCast_mul, ← this]
    simp
  rw [e] at h1
  have h2 := Int.natCast_dvd_natCast.mp h1
  rcases hr.dvd_mul h2 with h3 | h3
  · have := Nat.le_of_dvd h0 h3; omega
  · obtain ⟨k, hk⟩ := h3
    have hp : 1 ≤ x ^ (r - 1) := Nat.pow_pos h0
    have : x ^ (r - 1) = 1 + r * k := by omega
    rw [this, Nat.add_mul_mod_self_left, Nat.mod_eq_of_lt hr.1]
end Go.Proofs.YtfonpmahcdmajaaDoor
/-
  avouchref05.Read: what the call does; squares told by powers and by the sign.
-/
namespace Go.Proofs.YtfonpmahcdmajaaDoor
open Go.RowKit
set_option linter.unusedVariables false

theorem bigP_pN : bigP = pNN := by kernel_rfl
theorem bigQ_qN : bigQ = qN := by kernel_rfl
theorem prm_bigP : Prm bigP := by rw [bigP_pN]; exact prm_p
theorem prm_bigQ : Prm bigQ := by rw [bigQ_qN]; exact prm_q
theorem half_bigP : bigP / 2 = bigQ := by decide +kernel
theorem cop_bigP {X : Nat} (h0 : 0 < X) (h : X < bigP) : Nat.gcd bigP X = 1 := by
  rcases prm_bigP.2 _ (Nat.gcd_dvd_left bigP X) with h1 | h1
  · exact h1
  · have := Nat.le_of_dvd h0 (h1 ▸ Nat.gcd_dvd_right bigP X); omega
/-- Euler's criterion, by Gauss's sign. -/
theorem euler {X : Nat} (h0 : 0 < X) (h : X < bigP) : X ^ bigQ % bigP = 1 ↔ jG X bigP % 2 = 0 := by
  have := gauss_one prm_bigP (by decide +kernel) h0 h
  rwa [half_bigP] at this
theorem zero_pow_q : ¬ 0 ^ bigQ % bigP = 1 := by
  rw [Nat.zero_pow (by decide +kernel)]
  decide +kernel

set_option maxRecDepth 20000 in
theorem r5Read_err (A : Option Addr) (n c : Nat) (bs : List Nat) (w : World) (ha : Rd8 w w.heap.size A n bs) (E : Int) (hE : Hid (rdE true bs = E)) (he : (E != 0) = true) :
    Calls Tryd.prog 17 #[.slice A n c] w fun e w' => ∃ r, e = .returned (.tuple #[r, .int .i64 E]) ∧ Dg w' r 0 ∧ Below w.heap.size w w' := by
  go_enter Tryd.func17, Tryd.ntmps17
  go_wp2_with fail
  refine (refRead_c true A n c bs w ha).mono ?_
  rintro e w1 ⟨r, rfl, hr, b1⟩
  rw [hE.out]
  clear hr ha
  go_wp2
  go_ret2
  exact ⟨_, rfl, Dg.nil _, b1⟩
set_option maxRecDepth 20000 in
theorem r5Read_zero (A : Option Addr) (n c : Nat) (bs : List Nat) (w : World) (ha : Rd8 w w.heap.size A n bs) (hE : Hid (rdE true bs = 0)) (hN : Hid (rdN true bs = 0)) :
    Calls Tryd.prog 17 #[.slice A n c] w fun e w' => ∃ r, e = .returned (.tuple #[r, .int .i64 4]) ∧ Dg w' r 0 ∧ Below w.heap.size w w' := by
  go_enter Tryd.func17, Tryd.ntmps17
  go_wp2_with fail
  refine (refRead_c true A n c bs w ha).mono ?_
  rintro e w1 ⟨r, rfl, hr, b1⟩
  rw [hE.out]
  rw [hN.out] at hr
  obtain ⟨A1, c1, rfl⟩ := hr.zero_
  clear hr ha
  go_wp2
  go_ret2
  exact ⟨_, rfl, Dg.nil _, b1⟩
set_option maxRecDepth 20000 in
theorem r5Read_pos (A : Option Addr) (n c : Nat) (bs : List Nat) (w : World) (ha : Rd8 w w.heap.size A n bs) (N : Nat) (hE : Hid (rdE true bs = 0)) (hN : Hid (rdN true bs = N)) (h0 : Hid (0 < N)) (hc : Hid (Nat.gcd bigP N = 1)) (T : Nat) (hT : Hid (jG N bigP % 2 = T)) :
    Calls Tryd.prog 17 #[.slice A n c] w fun e w' => ∃ r, e = .returned (.tuple #[r, .int .i64 (if T = 0 then 0 else 4)]) ∧ Dg w' r (if T = 0 then N else 0) ∧ Below w.heap.size w w' := by
  obtain ⟨E2, hE2⟩ : ∃ E2 : Int, E2 = if T = 0 then 0 else 4 := ⟨_, rfl⟩
  obtain ⟨M, hM⟩ : ∃ M : Nat, M = if T = 0 then N else 0 := ⟨_, rfl⟩
  rw [← hE2, ← hM]
  have F0 : Hid (false = decide (T = 0) → E2 = 4 ∧ M = 0) := by
    intro h
    have c : ¬ T = 0 := by simpa using h.symm
    rw [hE2, hM, if_neg c, if_neg c]
    exact ⟨rfl, rfl⟩
  have F1 : Hid (true = decide (T = 0) → E2 = 0 ∧ M = N) := by
    intro h
    have c : T = 0 := by simpa using h.symm
    rw [hE2, hM, if_pos c, if_pos c]
    exact ⟨rfl, rfl⟩
  clear hE2 hM
  go_enter Tryd.func17, Tryd.ntmps17
  go_wp2_with fail
  refine (refRead_c true A n c bs w ha).mono ?_
  rintro e w1 ⟨r, rfl, hr, b1⟩
  rw [hE.out]
  rw [hN.out] at hr
  have HR := hid hr
  obtain ⟨b, off, m, cm, d, rfl, hm, _, _, _⟩ := hr.open_ h0.out
  have i0 : ((m : Int) == 0) = false := by simp; omega
  clear hr ha hm
  go_wp2_with fail
  have CS := square_c _ N w1 HR.out hc.out T hT
  obtain ⟨q, hq⟩ : ∃ q, q = decide (T = 0) := ⟨_, rfl⟩
  rw [← hq] at CS
  have HQ := hid hq
  clear hq
  refine CS.mono ?_
  rintro e w2 ⟨rfl, b2⟩
  have R := hid (And.intro (HR.out.up b2) (bchain b1 b2))
  clear CS HR b1 b2 hT hc h0 hN hE
  cases q
  · obtain ⟨rfl, rfl⟩ := F0.out HQ.out
    clear F0 F1 HQ
    go_wp2
    go_ret2
    exact ⟨_, rfl, Dg.nil _, R.out.2⟩
  · obtain ⟨rfl, rfl⟩ := F1.out HQ.out
    clear F0 F1 HQ
    go_wp2
    go_ret2
    exact ⟨_, rfl, R.out.1, R.out.2⟩
theorem r5Read_c (A : Option Addr) (n c : Nat) (bs : List Nat) (w : World) (ha : Rd8 w w.heap.size A n bs) :
    Calls Tryd.prog 17 #[.slice A n c] w fun e w' => ∃ r, e = .returned (.tuple #[r, .int .i64 (eE bs)]) ∧ Dg w' r (eN bs) ∧ Below w.heap.size w w' := by
  by_cases hE : rdE true bs = 0
  · have hlt : rdN true bs < bigP := by
      rcases rd_cases true bs with ⟨_, e1, _⟩ | ⟨_, _, e1, _⟩ | ⟨_, h, e1, _⟩
      · rw [e1]; decide
      · rw [e1]; decide
      · rw [e1]; exact h
    by_cases hN : rdN true bs = 0
    · have e1 : eE bs = 4 := by unfold eE; rw [if_pos hE, hN, if_neg zero_pow_q]
      have e2 : eN bs = 0 := by unfold eN; rw [if_neg (by rw [e1]; decide)]
      rw [e1, e2]
      exact r5Read_zero A n c bs w ha hE hN
    · have h := r5Read_pos A n c bs w ha _ hE rfl (hid (Nat.pos_of_ne_zero hN)) (hid (cop_bigP (Nat.pos_of_ne_zero hN) hlt)) _ rfl
      have he := euler (Nat.pos_of_ne_zero hN) hlt
      by_cases hT : jG (rdN true bs) bigP % 2 = 0
      · have e1 : eE bs = 0 := by unfold eE; rw [if_pos hE, if_pos (he.2 hT)]
        have e2 : eN bs = rdN true bs := by unfold eN; rw [if_pos e1]
        rw [if_pos hT, if_pos hT] at h
        rw [e1, e2]
        exact h
      · have e1 : eE bs = 4 := by unfold eE; rw [if_pos hE, if_neg (fun h => hT (he.1 h))]
        have e2 : eN bs = 0 := by unfold eN; rw [if_neg (by rw [e1]; decide)]
        rw [if_neg hT, if_neg hT] at h
        rw [e1, e2]
        exact h
  · have e1 : eE bs = rdE true bs := by unfold eE; rw [if_neg hE]
    have e2 : eN bs = 0 := by unfold eN; rw [if_neg (by rw [e1]; exact hE)]
    rw [e1, e2]
    exact r5Read_err A n c bs w ha _ rfl (by simpa using hE)
end Go.Proofs.YtfonpmahcdmajaaDoor
/-
  A number laid into a new variable of any type of twelve words.
-/
namespace Go.Proofs.YtfonpmahcdmajaaDoor
open Go.RowKit
set_option linter.unusedVariables false

theorem layT (w : World) (t : TypeId) (X : Nat) :
    ∃ w1, (storeCells ⟨w.heap.size, 0, none⟩ (cellsOf64 (ds X))).run Tryd.prog (w.alloc (z12 t)) = .ok () w1 ∧ BlkW w1 w.heap.size t (ds X) ∧ Below w.heap.size w w1 := by
  have hA := z12_new w t
  have hb0 := (Below.refl w.heap.size w).alloc (Nat.le_refl _) (z12 t)
  obtain ⟨s1, r1⟩ := num_storedT (X := X) hA
  refine ⟨_, s1, ⟨?_, ds_lt X⟩, below_cells (Nat.le_refl _) _ _ _ hb0⟩
  have key : ∀ (l old done : List Nat) (v : World), v.heap[w.heap.size]? = some (.cells (cellsOf64 (done ++ old)).toArray t (0, 0)) → l.length = old.length →
      (v.setCells w.heap.size done.length (cellsOf64 l)).heap[w.heap.size]? = some (.cells (cellsOf64 (done ++ l)).toArray t (0, 0)) := by
    intro l
    induction l with
    | nil =>
      intro old done v h hl
      have : old = [] := List.eq_nil_of_length_eq_zero (by simpa using hl.symm)
      subst this
      exact h
    | cons x l ih =>
      intro old done v h hl
      match old, hl with
      | y :: old, hl =>
        have h' : (v.setCell ⟨w.heap.size, done.length, none⟩ (.int .u64 (x : Int))).heap[w.heap.size]? = some (.cells (cellsOf64 ((done ++ [x]) ++ old)).toArray t (0, 0)) := by
          simp [World.setCell, Array.getElem?_modify, h, cellsOf64]
        have ih' := ih old (done ++ [x]) _ h' (by simpa using hl)
        rw [List.length_append, List.length_singleton, List.append_assoc] at ih'
        exact ih'
  exact key (ds X) (List.replicate 12 0) [] (w.alloc (z12 t)) hA.heap (by rw [ds_len, List.length_replicate])
end Go.Proofs.YtfonpmahcdmajaaDoor
