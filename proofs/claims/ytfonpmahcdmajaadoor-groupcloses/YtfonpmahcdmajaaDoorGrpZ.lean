import Derived.Test.YtfonpmahcdmajaaDoorGrpS
import Derived.Test.YtfonpmahcdmajaaDoorFrob
import Derived.Test.YtfonpmahcdmajaaDoorQFin
/-
  avouchref05.Read: what the call does; squares told by powers and by the sign.
-/
namespace Go.Proofs.YtfonpmahcdmajaaDoor
open Go.RowKit
set_option linter.unusedVariables false

theorem bigP_pN : bigP = pNN := by kernel_rfl
theorem bigQ_qN : bigQ = qN := by kernel_rfl
theorem prm_bigP : Prm bigP := by rw [bigP_pN]; exact prm_p
theorem prm_bigQ : Prm bigQ := by rw [bigQ_qN]; exact prm_q
theorem half_bigP : bigP / 2 = bigQ := by decide +kernel
theorem cop_bigP {X : Nat} (h0 : 0 < X) (h : X < bigP) : Nat.gcd bigP X = 1 := by
  rcases prm_bigP.2 _ (Nat.gcd_dvd_left bigP X) with h1 | h1
  · exact h1
  · have := Nat.le_of_dvd h0 (h1 ▸ Nat.gcd_dvd_right bigP X); omega
/-- Euler's criterion, by Gauss's sign. -/
theorem euler {X : Nat} (h0 : 0 < X) (h : X < bigP) : X ^ bigQ % bigP = 1 ↔ jG X bigP % 2 = 0 := by
  have := gauss_one prm_bigP (by decide +kernel) h0 h
  rwa [half_bigP] at this
theorem zero_pow_q : ¬ 0 ^ bigQ % bigP = 1 := by
  rw [Nat.zero_pow (by decide +kernel)]
  decide +kernel

set_option maxRecDepth 20000 in
theorem r5Read_err (A : Option Addr) (n c : Nat) (bs : List Nat) (w : World) (ha : Rd8 w w.heap.size A n bs) (E : Int) (hE : Hid (rdE true bs = E)) (he : (E != 0) = true) :
    Calls Tryd.prog 17 #[.slice A n c] w fun e w' => ∃ r, e = .returned (.tuple #[r, .int .i64 E]) ∧ Dg w' r 0 ∧ Below w.heap.size w w' := by
  go_enter Tryd.func17, Tryd.ntmps17
  go_wp2_with fail
  refine (refRead_c true A n c bs w ha).mono ?_
  rintro e w1 ⟨r, rfl, hr, b1⟩
  rw [hE.out]
  clear hr ha
  go_wp2
  go_ret2
  exact ⟨_, rfl, Dg.nil _, b1⟩
set_option maxRecDepth 20000 in
theorem r5Read_zero (A : Option Addr) (n c : Nat) (bs : List Nat) (w : World) (ha : Rd8 w w.heap.size A n bs) (hE : Hid (rdE true bs = 0)) (hN : Hid (rdN true bs = 0)) :
    Calls Tryd.prog 17 #[.slice A n c] w fun e w' => ∃ r, e = .returned (.tuple #[r, .int .i64 4]) ∧ Dg w' r 0 ∧ Below w.heap.size w w' := by
  go_enter Tryd.func17, Tryd.ntmps17
  go_wp2_with fail
  refine (refRead_c true A n c bs w ha).mono ?_
  rintro e w1 ⟨r, rfl, hr, b1⟩
  rw [hE.out]
  rw [hN.out] at hr
  obtain ⟨A1, c1, rfl⟩ := hr.zero_
  clear hr ha
  go_wp2
  go_ret2
  exact ⟨_, rfl, Dg.nil _, b1⟩
set_option maxRecDepth 20000 in
theorem r5Read_pos (A : Option Addr) (n c : Nat) (bs : List Nat) (w : World) (ha : Rd8 w w.heap.size A n bs) (N : Nat) (hE : Hid (rdE true bs = 0)) (hN : Hid (rdN true bs = N)) (h0 : Hid (0 < N)) (hc : Hid (Nat.gcd bigP N = 1)) (T : Nat) (hT : Hid (jG N bigP % 2 = T)) :
    Calls Tryd.prog 17 #[.slice A n c] w fun e w' => ∃ r, e = .returned (.tuple #[r, .int .i64 (if T = 0 then 0 else 4)]) ∧ Dg w' r (if T = 0 then N else 0) ∧ Below w.heap.size w w' := by
  obtain ⟨E2, hE2⟩ : ∃ E2 : Int, E2 = if T = 0 then 0 else 4 := ⟨_, rfl⟩
  obtain ⟨M, hM⟩ : ∃ M : Nat, M = if T = 0 then N else 0 := ⟨_, rfl⟩
  rw [← hE2, ← hM]
  have F0 : Hid (false = decide (T = 0) → E2 = 4 ∧ M = 0) := by
    intro h
    have c : ¬ T = 0 := by simpa using h.symm
    rw [hE2, hM, if_neg c, if_neg c]
    exact ⟨rfl, rfl⟩
  have F1 : Hid (true = decide (T = 0) → E2 = 0 ∧ M = N) := by
    intro h
    have c : T = 0 := by simpa using h.symm
    rw [hE2, hM, if_pos c, if_pos c]
    exact ⟨rfl, rfl⟩
  clear hE2 hM
  go_enter Tryd.func17, Tryd.ntmps17
  go_wp2_with fail
  refine (refRead_c true A n c bs w ha).mono ?_
  rintro e w1 ⟨r, rfl, hr, b1⟩
  rw [hE.out]
  rw [hN.out] at hr
  have HR := hid hr
  obtain ⟨b, off, m, cm, d, rfl, hm, _, _, _⟩ := hr.open_ h0.out
  have i0 : ((m : Int) == 0) = false := by simp; omega
  clear hr ha hm
  go_wp2_with fail
  have CS := square_c _ N w1 HR.out hc.out T hT
  obtain ⟨q, hq⟩ : ∃ q, q = decide (T = 0) := ⟨_, rfl⟩
  rw [← hq] at CS
  have HQ := hid hq
  clear hq
  refine CS.mono ?_
  rintro e w2 ⟨rfl, b2⟩
  have R := hid (And.intro (HR.out.up b2) (bchain b1 b2))
  clear CS HR b1 b2 hT hc h0 hN hE
  cases q
  · obtain ⟨rfl, rfl⟩ := F0.out HQ.out
    clear F0 F1 HQ
    go_wp2
    go_ret2
    exact ⟨_, rfl, Dg.nil _, R.out.2⟩
  · obtain ⟨rfl, rfl⟩ := F1.out HQ.out
    clear F0 F1 HQ
    go_wp2
    go_ret2
    exact ⟨_, rfl, R.out.1, R.out.2⟩
theorem r5Read_c (A : Option Addr) (n c : Nat) (bs : List Nat) (w : World) (ha : Rd8 w w.heap.size A n bs) :
    Calls Tryd.prog 17 #[.slice A n c] w fun e w' => ∃ r, e = .returned (.tuple #[r, .int .i64 (eE bs)]) ∧ Dg w' r (eN bs) ∧ Below w.heap.size w w' := by
  by_cases hE : rdE true bs = 0
  · have hlt : rdN true bs < bigP := by
      rcases rd_cases true bs with ⟨_, e1, _⟩ | ⟨_, _, e1, _⟩ | ⟨_, h, e1, _⟩
      · rw [e1]; decide
      · rw [e1]; decide
      · rw [e1]; exact h
    by_cases hN : rdN true bs = 0
    · have e1 : eE bs = 4 := by unfold eE; rw [if_pos hE, hN, if_neg zero_pow_q]
      have e2 : eN bs = 0 := by unfold eN; rw [if_neg (by rw [e1]; decide)]
      rw [e1, e2]
      exact r5Read_zero A n c bs w ha hE hN
    · have h := r5Read_pos A n c bs w ha _ hE rfl (hid (Nat.pos_of_ne_zero hN)) (hid (cop_bigP (Nat.pos_of_ne_zero hN) hlt)) _ rfl
      have he := euler (Nat.pos_of_ne_zero hN) hlt
      by_cases hT : jG (rdN true bs) bigP % 2 = 0
      · have e1 : eE bs = 0 := by unfold eE; rw [if_pos hE, if_pos (he.2 hT)]
        have e2 : eN bs = rdN true bs := by unfold eN; rw [if_pos e1]
        rw [if_pos hT, if_pos hT] at h
        rw [e1, e2]
        exact h
      · have e1 : eE bs = 4 := by unfold eE; rw [if_pos hE, if_neg (fun h => hT (he.1 h))]
        have e2 : eN bs = 0 := by unfold eN; rw [if_neg (by rw [e1]; decide)]
        rw [if_neg hT, if_neg hT] at h
        rw [e1, e2]
        exact h
  · have e1 : eE bs = rdE true bs := by unfold eE; rw [if_neg hE]
    have e2 : eN bs = 0 := by unfold eN; rw [if_neg (by rw [e1]; exact hE)]
    rw [e1, e2]
    exact r5Read_err A n c bs w ha _ rfl (by simpa using hE)
end Go.Proofs.YtfonpmahcdmajaaDoor
/-
  A number laid into a new variable of any type of twelve words.
-/
namespace Go.Proofs.YtfonpmahcdmajaaDoor
open Go.RowKit
set_option linter.unusedVariables false

theorem layT (w : World) (t : TypeId) (X : Nat) :
    ∃ w1, (storeCells ⟨w.heap.size, 0, none⟩ (cellsOf64 (ds X))).run Tryd.prog (w.alloc (z12 t)) = .ok () w1 ∧ BlkW w1 w.heap.size t (ds X) ∧ Below w.heap.size w w1 := by
  have hA := z12_new w t
  have hb0 := (Below.refl w.heap.size w).alloc (Nat.le_refl _) (z12 t)
  obtain ⟨s1, r1⟩ := num_storedT (X := X) hA
  refine ⟨_, s1, ⟨?_, ds_lt X⟩, below_cells (Nat.le_refl _) _ _ _ hb0⟩
  have key : ∀ (l old done : List Nat) (v : World), v.heap[w.heap.size]? = some (.cells (cellsOf64 (done ++ old)).toArray t (0, 0)) → l.length = old.length →
      (v.setCells w.heap.size done.length (cellsOf64 l)).heap[w.heap.size]? = some (.cells (cellsOf64 (done ++ l)).toArray t (0, 0)) := by
    intro l
    induction l with
    | nil =>
      intro old done v h hl
      have : old = [] := List.eq_nil_of_length_eq_zero (by simpa using hl.symm)
      subst this
      exact h
    | cons x l ih =>
      intro old done v h hl
      match old, hl with
      | y :: old, hl =>
        have h' : (v.setCell ⟨w.heap.size, done.length, none⟩ (.int .u64 (x : Int))).heap[w.heap.size]? = some (.cells (cellsOf64 ((done ++ [x]) ++ old)).toArray t (0, 0)) := by
          simp [World.setCell, Array.getElem?_modify, h, cellsOf64]
        have ih' := ih old (done ++ [x]) _ h' (by simpa using hl)
        rw [List.length_append, List.length_singleton, List.append_assoc] at ih'
        exact ih'
  exact key (ds X) (List.replicate 12 0) [] (w.alloc (z12 t)) hA.heap (by rw [ds_len, List.length_replicate])
end Go.Proofs.YtfonpmahcdmajaaDoor
/-
  For GroupCloses: what squares' powers, opposites and inverses are; bytes as a value of their own.
-/
namespace Go.Proofs.YtfonpmahcdmajaaDoor
open Go.RowKit
set_option linter.unusedVariables false

theorem q_twice : 2 * bigQ = bigP - 1 := by decide +kernel
theorem sq_pow (X : Nat) (h : X * X % bigP ≠ 0) : (X * X % bigP) ^ bigQ % bigP = 1 := by
  have h0 : X % bigP ≠ 0 := by
    intro e
    rw [Nat.mul_mod, e, Nat.zero_mul, Nat.zero_mod] at h
    exact h rfl
  rw [← Nat.pow_mod, ← Nat.pow_two, ← Nat.pow_mul, q_twice, Nat.pow_mod]
  exact fermat_prm prm_bigP _ (Nat.pos_of_ne_zero h0) (Nat.mod_lt _ (by decide))
/-- The opposite of an element is none. -/
theorem opp_pow {x : Nat} (h0 : 0 < x) (hx : x < bigP) (h : x ^ bigQ % bigP = 1) : ¬ (bigP - x) ^ bigQ % bigP = 1 := by
  have e : bigP - x = (bigP - 1) * x % bigP := by
    have h1 : (bigP - 1) * x + x = bigP * x := by rw [Nat.sub_mul, Nat.one_mul]; exact Nat.sub_add_cancel (Nat.le_mul_of_pos_left x (by decide))
    have h2 : (bigP - 1) * x = bigP * (x - 1) + (bigP - x) := by
      have h3 : bigP * x = bigP * (x - 1) + bigP := by
        rw [← Nat.mul_succ]; congr 1; omega
      omega
    rw [h2, Nat.mul_add_mod, Nat.mod_eq_of_lt (by omega)]
  rw [e, ← Nat.pow_mod, Nat.mul_pow, Nat.mul_mod, h, Nat.mul_one, Nat.mod_mod]
  exact last_q
/-- A power of an element, and its product with it, are elements. -/
theorem pow_el {x : Nat} (h : x ^ bigQ % bigP = 1) (S : Nat) : (x ^ S % bigP * x % bigP) ^ bigQ % bigP = 1 := by
  rw [← Nat.pow_mod, Nat.mul_pow, Nat.mul_mod, h, Nat.mul_one, Nat.mod_mod, ← Nat.pow_mod, ← Nat.pow_mul, Nat.mul_comm, Nat.pow_mul, Nat.pow_mod, h, Nat.one_pow]
  decide
theorem inv_el {x : Nat} (h : x ^ bigQ % bigP = 1) (S : Nat) (hS : S < bigQ) : x ^ S % bigP * (x ^ ((0 % bigQ + bigQ - S % bigQ) % bigQ) % bigP) % bigP = 1 := by
  rw [← Nat.mul_mod, ← Nat.pow_add, Nat.zero_mod, Nat.zero_add, Nat.mod_eq_of_lt hS]
  rcases Nat.eq_zero_or_pos S with e | e
  · subst e
    rw [Nat.sub_zero, Nat.mod_self, Nat.add_zero, Nat.pow_zero]
    decide
  · rw [Nat.mod_eq_of_lt (show bigQ - S < bigQ by omega), show S + (bigQ - S) = bigQ by omega]
    exact h
theorem four_times {x : Nat} (h0 : 0 < x) (hx : x < bigP) : ¬ x * 4 % bigP = x := by
  intro e
  have e1 : (x * 4) % bigP = x % bigP := by rw [e, Nat.mod_eq_of_lt hx]
  have d : bigP ∣ x * 4 - x := Nat.dvd_of_mod_eq_zero (Nat.sub_mod_eq_zero_of_mod_eq e1)
  have e2 : x * 4 - x = x * 3 := by omega
  rw [e2] at d
  rcases prm_bigP.dvd_mul d with h | h
  · have := Nat.le_of_dvd h0 h; omega
  · have := Nat.le_of_dvd (by decide) h
    exact absurd this (by decide)
/-- Every number has its bytes. -/
theorem bytes_of : ∀ (n x : Nat), x < 256 ^ n → ∃ l : List Nat, l.length = n ∧ allLt8 l ∧ val 256 l = x
  | 0, x, h => ⟨[], rfl, by intro y hy; simp at hy, by rw [val_nil]; simp at h; omega⟩
  | n + 1, x, h => by
    obtain ⟨l, h1, h2, h3⟩ := bytes_of n (x / 256) (by rw [Nat.pow_succ] at h; omega)
    refine ⟨x % 256 :: l, by simp [h1], ?_, ?_⟩
    · intro y hy
      rcases List.mem_cons.1 hy with e | e
      · omega
      · exact h2 y e
    · unfold val at h3 ⊢
      rw [List.length_cons, pv_cons, List.drop_one, List.tail_cons, h3]
      show x / 256 * 256 + x % 256 = x
      omega
/-- What Write gives, told ahead. -/
theorem write_l {X : Nat} {l : List Nat} (hl : l.length = 96) (hlt : allLt8 l) (hv : val 256 l = X) (hX : Hid (X < W12)) (w : World) :
    Calls Tryd.prog 48 #[num X] w fun e w' => e = .returned (.agg (cells8 l).toArray) ∧ Below w.heap.size w w' := by
  refine (write_c X w hX).mono ?_
  rintro e w' ⟨r, rfl, ⟨l2, rfl, h1, h2, h3⟩, hb⟩
  have : l2 = l := val_inj 256 (by decide) l2 l h2 hlt (h1.trans hl.symm) (h3.trans hv.symm)
  subst this
  exact ⟨rfl, hb⟩
theorem blkB_up {v v' : World} {b : Nat} {t : TypeId} {l : List Nat} (h : BlkB v b t l) (hb : Below v.heap.size v v') : BlkB v' b t l := h.below hb h.size
theorem blkB_put {b c : Nat} {t : TypeId} {l : List Nat} (hne : b ≠ c) : ∀ (vs : List Value) (o : Nat) (w : World), BlkB w b t l → BlkB (w.setCells c o vs) b t l
  | [], _, _, h => h
  | v :: vs, o, w, h => blkB_put hne vs (o + 1) _ ⟨by
      have := h.heap
      simp only [World.setCell]
      rw [Array.getElem?_modify, if_neg (fun e => hne e.symm)]
      exact this, h.lt⟩
theorem z96_new (w : World) : BlkB (w.alloc (.cells Tryd.zeroCells70 70)) w.heap.size 70 (List.replicate 96 0) := by
  rw [z96_eq]; exact o96_new w 70
theorem over96 {w : World} {b : Nat} {l : List Nat} (hl : l.length = 96) (hlt : allLt8 l) (h : BlkB w b 70 (List.replicate 96 0)) : BlkB (w.setCells b 0 (cells8 l)) b 70 l := (stored96 h l hl hlt).2
end Go.Proofs.YtfonpmahcdmajaaDoor
