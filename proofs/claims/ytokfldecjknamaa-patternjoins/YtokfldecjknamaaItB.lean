/-
  item.Check: what the call answers.
-/
import Derived.Test.YtokfldecjknamaaItA
namespace Go.Proofs.Ytokfldecjknamaa
open Go.RowKit
set_option linter.unusedVariables false

theorem mostOf_c (k : Int) (w : World) : Calls Try.prog 48 #[.int .i64 k] w fun e w' => e = .returned (.int .i64 (if k = 3 then 1 else 1048576)) ∧ w' = w := by
  go_enter Try.func48, Try.ntmps48
  by_cases h : k = 3
  · rw [if_pos h]
    subst h
    go_wp2
    go_ret
    exact ⟨rfl, rfl⟩
  · rw [if_neg h]
    go_wp2
    go_ret
    exact ⟨rfl, rfl⟩

theorem isKind_n (k : Int) (w : World) (h : k < 1 ∨ 3 < k) : Calls Try.prog 46 #[.int .i64 k] w fun e w' => e = .returned (.bool false) ∧ w' = w := by
  go_enter Try.func46, Try.ntmps46
  rcases h with h | h
  · have d1 : decide (1 ≤ k) = false := decide_eq_false (by omega)
    go_wp2
    go_ret
    exact ⟨rfl, rfl⟩
  · have d1 : 1 ≤ k := by omega
    have d2 : decide (k ≤ 3) = false := decide_eq_false (by omega)
    go_wp2
    go_ret
    exact ⟨rfl, rfl⟩
theorem isKind_y (k : Int) (w : World) (h1 : 1 ≤ k) (h3 : k ≤ 3) : Calls Try.prog 46 #[.int .i64 k] w fun e w' => e = .returned (.bool true) ∧ w' = w := by
  go_enter Try.func46, Try.ntmps46
  go_wp2
  go_ret
  exact ⟨rfl, rfl⟩
/-- Has a kind this type? -/
def hasT (k t : Int) : Bool := if k = 1 then (t == 1 || t == 2 || t == 3 || t == 4) else if k = 2 then (t == 1 || t == 3) else t == 0
set_option maxRecDepth 20000 in
theorem hasType_c (k t : Int) (w : World) : Calls Try.prog 47 #[.int .i64 k, .int .i64 t] w fun e w' => e = .returned (.bool (hasT k t)) ∧ w' = w := by
  unfold hasT
  go_enter Try.func47, Try.ntmps47
  by_cases h1 : k = 1
  · rw [if_pos h1]
    subst h1
    by_cases t1 : t = 1
    · subst t1
      go_wp2
      go_ret
      exact ⟨rfl, rfl⟩
    · by_cases t2 : t = 2
      · subst t2
        go_wp2
        go_ret
        exact ⟨rfl, rfl⟩
      · by_cases t3 : t = 3
        · subst t3
          go_wp2
          go_ret
          exact ⟨rfl, rfl⟩
        · have e1 : (t == 1) = false := by simpa using t1
          have e2 : (t == 2) = false := by simpa using t2
          have e3 : (t == 3) = false := by simpa using t3
          rw [e1, e2, e3]
          go_wp2
          go_ret
          exact ⟨rfl, rfl⟩
  · rw [if_neg h1]
    by_cases h2 : k = 2
    · rw [if_pos h2]
      subst h2
      by_cases t1 : t = 1
      · subst t1
        go_wp2
        go_ret
        exact ⟨rfl, rfl⟩
      · have e1 : (t == 1) = false := by simpa using t1
        rw [e1]
        go_wp2
        go_ret
        exact ⟨rfl, rfl⟩
    · rw [if_neg h2]
      go_wp2
      go_ret
      exact ⟨rfl, rfl⟩
theorem hasT_ok {k t : Int} (h : ¬ (k < 1 ∨ 3 < k)) : hasT k t = !decide ((k = 1 ∧ (t < 1 ∨ 4 < t)) ∨ (k = 2 ∧ t ≠ 1 ∧ t ≠ 3) ∨ (k = 3 ∧ t ≠ 0)) := by
  unfold hasT
  rcases (show k = 1 ∨ k = 2 ∨ k = 3 by omega) with rfl | rfl | rfl
  · rw [if_pos rfl, Bool.eq_iff_iff]
    simp
    omega
  · rw [if_neg (by omega), if_pos rfl, Bool.eq_iff_iff]
    simp
  · rw [if_neg (by omega), if_neg (by omega), Bool.eq_iff_iff]
    simp
set_option maxRecDepth 100000 in
set_option maxHeartbeats 4000000 in
theorem icheck_c (k t c : Int) (s : ByteArray) (w : World) (hs : s.size ≤ 9223372036854775807) :
    Calls Try.prog 41 #[.agg #[.int .i64 k, .int .i64 t, .int .i64 c, .string s]] w fun e w' => e = .returned (.int .i64 (ck k t c s.size : Nat)) ∧ Below w.heap.size w w' := by
  have hb : Below w.heap.size w (w.alloc (.cells #[.int .i64 k, .int .i64 t, .int .i64 c, .string s] 52)) := (Below.refl _ _).alloc (Nat.le_refl _) _
  obtain ⟨n, hn⟩ : ∃ n, n = s.size := ⟨_, rfl⟩
  rw [← hn] at hs
  by_cases hk : k < 1 ∨ 3 < k
  · rw [ck_5 hk]
    go_enter Try.func41, Try.ntmps41
    go_wp2_with fail
    refine (isKind_n k _ hk).mono ?_
    rintro e w' ⟨rfl, rfl⟩
    go_wp2
    go_ret
    exact ⟨rfl, hb⟩
  · by_cases ht : (k = 1 ∧ (t < 1 ∨ 4 < t)) ∨ (k = 2 ∧ t ≠ 1 ∧ t ≠ 3) ∨ (k = 3 ∧ t ≠ 0)
    · have T := hasT_ok (t := t) hk
      rw [decide_eq_true ht] at T
      rw [ck_6 hk ht]
      go_enter Try.func41, Try.ntmps41
      go_wp2_with fail
      refine (isKind_y k _ (by omega) (by omega)).mono ?_
      rintro e w' ⟨rfl, rfl⟩
      go_wp2_with fail
      refine (hasType_c k t _).mono ?_
      rintro e w' ⟨rfl, rfl⟩
      rw [T]
      go_wp2
      go_ret
      exact ⟨rfl, hb⟩
    · have T := hasT_ok (t := t) hk
      rw [decide_eq_false ht] at T
      obtain ⟨m, hm⟩ : ∃ m, m = (if k = 3 then (1 : Int) else 1048576) := ⟨_, rfl⟩
      have M := fun w => mostOf_c k w
      rw [← hm] at M
      have hm1 : (k = 3 ∧ m = 1) ∨ (k ≠ 3 ∧ m = 1048576) := by
        by_cases h3 : k = 3
        · exact .inl ⟨h3, by rw [hm, if_pos h3]⟩
        · exact .inr ⟨h3, by rw [hm, if_neg h3]⟩
      have HM := hid hm1
      clear hm hm1
      go_enter Try.func41, Try.ntmps41
      rw [← hn]
      go_wp2_with fail
      refine (isKind_y k _ (by omega) (by omega)).mono ?_
      rintro e w' ⟨rfl, rfl⟩
      go_wp2_with fail
      refine (hasType_c k t _).mono ?_
      rintro e w' ⟨rfl, rfl⟩
      rw [T]
      by_cases c1 : c < 1
      · have E := ck_7 (n := n) (c := c) hk ht (.inl c1)
        go_wp2
        go_quiet (fail)
        go_wp2
        go_ret
        exact ⟨by rw [E]; rfl, below_drewN hb _⟩
      · by_cases c2 : m < c
        · have E := ck_7 (n := n) (c := c) hk ht (by have := HM.out; omega)
          go_wp2
          go_quiet ((go_at_call 48; exact Calls.quiet_of_same (M _)))
          go_wp2
          go_ret
          exact ⟨by rw [E]; rfl, below_drewN hb _⟩
        · have c3 : ¬ (c < 1 ∨ 1048576 < c ∨ (k = 3 ∧ c ≠ 1)) := by have := HM.out; omega
          by_cases n1 : 255 < n
          · have E := ck_8 hk ht c3 n1
            clear c3 hk ht T
            go_wp2
            go_quiet ((go_at_call 48; exact Calls.quiet_of_same (M _)))
            go_wp2
            go_ret
            exact ⟨by rw [E]; rfl, below_drewN hb _⟩
          · have E := ck_0 hk ht c3 n1
            clear c3 hk ht T
            go_wp2
            go_quiet ((go_at_call 48; exact Calls.quiet_of_same (M _)))
            go_wp2
            go_ret
            exact ⟨by rw [E]; rfl, below_drewN hb _⟩
end Go.Proofs.Ytokfldecjknamaa
