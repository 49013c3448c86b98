/-
  item.Check and avouchref12.Check: what each call answers.
-/
import Derived.Test.YtokfldecjknamaaStr0
import Derived.Laws.StructEq
import Derived.BigQuiet
namespace Go.Proofs.Ytokfldecjknamaa
open Go.RowKit
set_option linter.unusedVariables false

/-- What is wrong with an item, as the document numbers it. -/
def ck (k t c : Int) (n : Nat) : Nat :=
  if k < 1 ∨ 3 < k then 5
  else if (k = 1 ∧ (t < 1 ∨ 4 < t)) ∨ (k = 2 ∧ t ≠ 1 ∧ t ≠ 3) ∨ (k = 3 ∧ t ≠ 0) then 6
  else if c < 1 ∨ 1048576 < c ∨ (k = 3 ∧ c ≠ 1) then 7
  else if 255 < n then 8 else 0
theorem ck_5 {k t c : Int} {n : Nat} (h : k < 1 ∨ 3 < k) : ck k t c n = 5 := by unfold ck; rw [if_pos h]
theorem ck_6 {k t c : Int} {n : Nat} (h : ¬ (k < 1 ∨ 3 < k)) (h1 : (k = 1 ∧ (t < 1 ∨ 4 < t)) ∨ (k = 2 ∧ t ≠ 1 ∧ t ≠ 3) ∨ (k = 3 ∧ t ≠ 0)) : ck k t c n = 6 := by unfold ck; rw [if_neg h, if_pos h1]
theorem ck_7 {k t c : Int} {n : Nat} (h : ¬ (k < 1 ∨ 3 < k)) (h1 : ¬ ((k = 1 ∧ (t < 1 ∨ 4 < t)) ∨ (k = 2 ∧ t ≠ 1 ∧ t ≠ 3) ∨ (k = 3 ∧ t ≠ 0))) (h2 : c < 1 ∨ 1048576 < c ∨ (k = 3 ∧ c ≠ 1)) : ck k t c n = 7 := by
  unfold ck; rw [if_neg h, if_neg h1, if_pos h2]
theorem ck_8 {k t c : Int} {n : Nat} (h : ¬ (k < 1 ∨ 3 < k)) (h1 : ¬ ((k = 1 ∧ (t < 1 ∨ 4 < t)) ∨ (k = 2 ∧ t ≠ 1 ∧ t ≠ 3) ∨ (k = 3 ∧ t ≠ 0))) (h2 : ¬ (c < 1 ∨ 1048576 < c ∨ (k = 3 ∧ c ≠ 1))) (h3 : 255 < n) : ck k t c n = 8 := by
  unfold ck; rw [if_neg h, if_neg h1, if_neg h2, if_pos h3]
theorem ck_0 {k t c : Int} {n : Nat} (h : ¬ (k < 1 ∨ 3 < k)) (h1 : ¬ ((k = 1 ∧ (t < 1 ∨ 4 < t)) ∨ (k = 2 ∧ t ≠ 1 ∧ t ≠ 3) ∨ (k = 3 ∧ t ≠ 0))) (h2 : ¬ (c < 1 ∨ 1048576 < c ∨ (k = 3 ∧ c ≠ 1))) (h3 : ¬ 255 < n) : ck k t c n = 0 := by
  unfold ck; rw [if_neg h, if_neg h1, if_neg h2, if_neg h3]
theorem ck_le (k t c : Int) (n : Nat) : ck k t c n ≤ 8 := by
  unfold ck
  split
  · omega
  · split
    · omega
    · split
      · omega
      · split <;> omega
/-- Of an item that may be: its kind, type and count, as numbers. -/
theorem ck_ok {k t c : Int} {n : Nat} (h : ck k t c n = 0) : 1 ≤ k ∧ k ≤ 3 ∧ 0 ≤ t ∧ t ≤ 4 ∧ 1 ≤ c ∧ c ≤ 1048576 ∧ n ≤ 255 := by
  unfold ck at h
  split at h
  · omega
  · split at h
    · omega
    · split at h
      · omega
      · split at h
        · omega
        · rename_i h1 h2 h3 h4
          refine ⟨by omega, by omega, ?_, ?_, by omega, by omega, by omega⟩
          · rcases (show k = 1 ∨ k = 2 ∨ k = 3 by omega) with rfl | rfl | rfl <;> omega
          · rcases (show k = 1 ∨ k = 2 ∨ k = 3 by omega) with rfl | rfl | rfl <;> omega

set_option maxRecDepth 100000 in
set_option maxHeartbeats 4000000 in
theorem rcheck_c (k t c : Int) (s : ByteArray) (w : World) (hs : s.size ≤ 9223372036854775807) :
    Calls Try.prog 20 #[.agg #[.int .i64 k, .int .i64 t, .int .i64 c, .string s]] w fun e w' => e = .returned (.int .i64 (ck k t c s.size : Nat)) ∧ Below w.heap.size w w' := by
  have hb : Below w.heap.size w (w.alloc (.cells #[.int .i64 k, .int .i64 t, .int .i64 c, .string s] 25)) := (Below.refl _ _).alloc (Nat.le_refl _) _
  obtain ⟨n, hn⟩ : ∃ n, n = s.size := ⟨_, rfl⟩
  rw [← hn] at hs
  go_enter Try.func20, Try.ntmps20
  rw [← hn]
  by_cases k1 : k < 1
  · have e : ck k t c n = 5 := ck_5 (.inl k1)
    rw [e]
    go_wp2
    go_ret
    exact ⟨rfl, hb⟩
  · by_cases k3 : 3 < k
    · have e : ck k t c n = 5 := ck_5 (.inr k3)
      rw [e]
      go_wp2
      go_ret
      exact ⟨rfl, hb⟩
    · rcases (show k = 1 ∨ k = 2 ∨ k = 3 by omega) with rfl | rfl | rfl
      · by_cases t1 : t < 1
        · have e : ck 1 t c n = 6 := ck_6 (by omega) (by omega)
          rw [e]
          go_wp2
          go_ret
          exact ⟨rfl, hb⟩
        · by_cases t4 : 4 < t
          · have e : ck 1 t c n = 6 := ck_6 (by omega) (by omega)
            rw [e]
            go_wp2
            go_ret
            exact ⟨rfl, hb⟩
          · by_cases c1 : c < 1
            · have e : ck 1 t c n = 7 := ck_7 (by omega) (by omega) (by omega)
              rw [e]
              go_wp2
              go_ret
              exact ⟨rfl, hb⟩
            · by_cases c2 : 1048576 < c
              · have e : ck 1 t c n = 7 := ck_7 (by omega) (by omega) (by omega)
                rw [e]
                go_wp2
                go_ret
                exact ⟨rfl, hb⟩
              · by_cases n1 : 255 < n
                · have e : ck 1 t c n = 8 := ck_8 (by omega) (by omega) (by omega) n1
                  rw [e]
                  go_wp2
                  go_ret
                  exact ⟨rfl, hb⟩
                · have e : ck 1 t c n = 0 := ck_0 (by omega) (by omega) (by omega) n1
                  rw [e]
                  go_wp2
                  go_ret
                  exact ⟨rfl, hb⟩
      · by_cases t1 : t = 1
        · subst t1
          by_cases c1 : c < 1
          · have e : ck 2 1 c n = 7 := ck_7 (by omega) (by omega) (by omega)
            rw [e]
            go_wp2
            go_ret
            exact ⟨rfl, hb⟩
          · by_cases c2 : 1048576 < c
            · have e : ck 2 1 c n = 7 := ck_7 (by omega) (by omega) (by omega)
              rw [e]
              go_wp2
              go_ret
              exact ⟨rfl, hb⟩
            · by_cases n1 : 255 < n
              · have e : ck 2 1 c n = 8 := ck_8 (by omega) (by omega) (by omega) n1
                rw [e]
                go_wp2
                go_ret
                exact ⟨rfl, hb⟩
              · have e : ck 2 1 c n = 0 := ck_0 (by omega) (by omega) (by omega) n1
                rw [e]
                go_wp2
                go_ret
                exact ⟨rfl, hb⟩
        · by_cases t3 : t = 3
          · subst t3
            by_cases c1 : c < 1
            · have e : ck 2 3 c n = 7 := ck_7 (by omega) (by omega) (by omega)
              rw [e]
              go_wp2
              go_ret
              exact ⟨rfl, hb⟩
            · by_cases c2 : 1048576 < c
              · have e : ck 2 3 c n = 7 := ck_7 (by omega) (by omega) (by omega)
                rw [e]
                go_wp2
                go_ret
                exact ⟨rfl, hb⟩
              · by_cases n1 : 255 < n
                · have e : ck 2 3 c n = 8 := ck_8 (by omega) (by omega) (by omega) n1
                  rw [e]
                  go_wp2
                  go_ret
                  exact ⟨rfl, hb⟩
                · have e : ck 2 3 c n = 0 := ck_0 (by omega) (by omega) (by omega) n1
                  rw [e]
                  go_wp2
                  go_ret
                  exact ⟨rfl, hb⟩
          · have e : ck 2 t c n = 6 := ck_6 (by omega) (by omega)
            rw [e]
            go_wp2
            go_ret
            exact ⟨rfl, hb⟩
      · by_cases t0 : t = 0
        · subst t0
          by_cases c1 : c < 1
          · have e : ck 3 0 c n = 7 := ck_7 (by omega) (by omega) (by omega)
            rw [e]
            go_wp2
            go_ret
            exact ⟨rfl, hb⟩
          · by_cases c2 : 1048576 < c
            · have e : ck 3 0 c n = 7 := ck_7 (by omega) (by omega) (by omega)
              rw [e]
              go_wp2
              go_ret
              exact ⟨rfl, hb⟩
            · by_cases c3 : c = 1
              · subst c3
                by_cases n1 : 255 < n
                · have e : ck 3 0 1 n = 8 := ck_8 (by omega) (by omega) (by omega) n1
                  rw [e]
                  go_wp2
                  go_ret
                  exact ⟨rfl, hb⟩
                · have e : ck 3 0 1 n = 0 := ck_0 (by omega) (by omega) (by omega) n1
                  rw [e]
                  go_wp2
                  go_ret
                  exact ⟨rfl, hb⟩
              · have e : ck 3 0 c n = 7 := ck_7 (by omega) (by omega) (by omega)
                rw [e]
                go_wp2
                go_ret
                exact ⟨rfl, hb⟩
        · have e : ck 3 t c n = 6 := ck_6 (by omega) (by omega)
          rw [e]
          go_wp2
          go_ret
          exact ⟨rfl, hb⟩
end Go.Proofs.Ytokfldecjknamaa
