/-
  avouchlaw12.ItemLimits: the walk.
-/
import Derived.Test.YtlgefgoaleggmaaItK
namespace Go.Proofs.Ytlgefgoaleggmaa
open Go.RowKit
set_option linter.unusedVariables false
set_option linter.unusedSimpArgs false

/-- Another label, another count: may they be? -/
theorem ck_label {k t c : Int} {n : Nat} (h : ck k t c n = 0) (m : Nat) : ck k t c m = if 255 < m then 8 else 0 := by
  unfold ck at h ⊢
  split at h
  · cases h
  · rename_i h1
    rw [if_neg h1]
    split at h
    · cases h
    · rename_i h2
      rw [if_neg h2]
      split at h
      · cases h
      · rename_i h3
        rw [if_neg h3]
theorem ck_count {k t c : Int} {n : Nat} (h : ck k t c n = 0) (d : Int) : ck k t d n = if d < 1 ∨ 1048576 < d ∨ (k = 3 ∧ d ≠ 1) then 7 else 0 := by
  unfold ck at h ⊢
  split at h
  · cases h
  · rename_i h1
    rw [if_neg h1]
    split at h
    · cases h
    · rename_i h2
      rw [if_neg h2]
      split at h
      · cases h
      · split at h
        · cases h
        · rename_i h4
          rw [if_neg h4]

set_option maxRecDepth 100000 in
set_option maxHeartbeats 4000000 in
theorem itemLimits_w (K T C : Int) (S : ByteArray) (N : Int) (L : ByteArray) (w : World) (hS : S.size ≤ maxLen) (hL : L.size ≤ maxLen) :
    Calls Try.prog 6 #[.agg #[.int .i64 K, .int .i64 T, .int .i64 C, .string S], .int .i64 N, .string L] w fun e w' => e = .returned (.bool true) ∧ Below w.heap.size w w' := by
  have hS' : S.size ≤ 9223372036854775807 := hS
  have hL' : L.size ≤ 9223372036854775807 := hL
  have hb0 : Below w.heap.size w (w.alloc (.cells #[.int .i64 K, .int .i64 T, .int .i64 C, .string S] 23)) := (Below.refl _ _).alloc (Nat.le_refl _) _
  have B0 := BlkV.new w 23 [.int .i64 K, .int .i64 T, .int .i64 C, .string S]
  go_enter Try.func6, Try.ntmps6
  go_wp2_with fail
  generalize hw0 : w.alloc (.cells #[.int .i64 K, .int .i64 T, .int .i64 C, .string S] 23) = w0 at *
  clear hw0
  refine (speaks12_c w0).mono ?_
  rintro e w1 ⟨rfl, h1⟩
  have b1 := bchain hb0 h1
  have B1 : BlkV w1 w.heap.size 23 [.int .i64 K, .int .i64 T, .int .i64 C, .string S] := BlkV.up B0 h1
  clear h1 hb0 B0
  have D := rcheck_c K T C S w1 hS'
  obtain ⟨c0, c1, c2, c3⟩ := B1.four
  by_cases r0 : ck K T C S.size = 0
  · rw [r0] at D
    go_wp2_with fail
    refine D.mono ?_
    rintro e w2 ⟨rfl, h2⟩
    have b2 := bchain b1 h2
    have B2 := B1.up h2
    clear D B1 b1 h2 c0 c1 c2 c3
    obtain ⟨c0, c1, c2, c3⟩ := B2.four
    by_cases h400 : 400 < L.size
    · have h400' : (400 : Int) < (L.size : Int) := by omega
      go_wp2_with fail
      refine (speaks12_c w2).mono ?_
      rintro e w3 ⟨rfl, h3⟩
      have b3 := bchain b2 h3
      go_wp2
      go_ret
      exact ⟨rfl, b3⟩
    · have h400' : ¬ (400 : Int) < (L.size : Int) := by omega
      go_wp2_with fail
      refine (of12_c K T C S w2).mono ?_
      rintro e w3 ⟨rfl, h3⟩
      have b3 := bchain b2 h3
      have B3 := B2.up h3
      clear B2 b2 h3 c0 c1 c2 c3
      go_wp2_with fail
      have b4 : Below w.heap.size w (w3.alloc (.cells #[.int .i64 K, .int .i64 T, .int .i64 C, .string L] 29)) := b3.alloc b3.size _
      have B4 := B3.alloc (.cells #[.int .i64 K, .int .i64 T, .int .i64 C, .string L] 29)
      generalize hw4 : w3.alloc (.cells #[.int .i64 K, .int .i64 T, .int .i64 C, .string L] 29) = w4 at *
      clear hw4
      have D5 := icheck_c K T C L w4 hL'
      by_cases hl : 255 < L.size
      · have e5 : ck K T C L.size = 8 := by rw [ck_label r0, if_pos hl]
        have m5 : decide ((L.size : Int) ≤ 255) = false := decide_eq_false (by omega)
        rw [e5] at D5
        refine D5.mono ?_
        rintro e w5 ⟨rfl, h5⟩
        have b5 := bchain b4 h5
        have B5 := B4.up h5
        clear D5 e5 h5 b4 B4
        obtain ⟨c0, c1, c2, c3⟩ := B5.four
        go_wp2_with fail
        refine (of12_c K T C S w5).mono ?_
        rintro e w6a ⟨rfl, h6⟩
        have b6a := bchain b5 h6
        have B6 := B5.up h6
        clear B5 b5 h6 c0 c1 c2 c3
        have b6 : Below w.heap.size w (w6a.alloc (.cells #[.int .i64 K, .int .i64 T, .int .i64 N, .string S] 29)) := b6a.alloc b6a.size _
        have B7 := B6.alloc (.cells #[.int .i64 K, .int .i64 T, .int .i64 N, .string S] 29)
        have hlt := B6.size
        obtain ⟨c0, _, _, _⟩ := B6.four
        by_cases k3 : K = 3
        · subst k3
          go_wp2_with fail
          generalize hw6 : w6a.alloc (.cells #[.int .i64 3, .int .i64 T, .int .i64 N, .string S] 29) = w6 at *
          clear hw6
          have D7 := icheck_c 3 T N S w6 hS'
          by_cases n1 : N < 1
          · have m1 : decide (1 ≤ N) = false := decide_eq_false (by omega)
            have e7 : ck 3 T N S.size = 7 := by rw [ck_count r0, if_pos (by omega)]
            rw [e7] at D7
            refine D7.mono ?_
            rintro e w7 ⟨rfl, h7⟩
            have b7 := bchain b6 h7
            clear D7 e7 h7 b6
            go_wp2
            go_ret
            exact ⟨rfl, b7⟩
          · have m1 : 1 ≤ N := by omega
            by_cases n2 : 1 < N
            · have m2 : decide (N ≤ 1) = false := decide_eq_false (by omega)
              have e7 : ck 3 T N S.size = 7 := by rw [ck_count r0, if_pos (by omega)]
              rw [e7] at D7
              refine D7.mono ?_
              rintro e w7 ⟨rfl, h7⟩
              have b7 := bchain b6 h7
              clear D7 e7 h7 b6
              go_wp2
              go_ret
              exact ⟨rfl, b7⟩
            · have m2 : N ≤ 1 := by omega
              have e7 : ck 3 T N S.size = 0 := by rw [ck_count r0, if_neg (by omega)]
              rw [e7] at D7
              refine D7.mono ?_
              rintro e w7 ⟨rfl, h7⟩
              have b7 := bchain b6 h7
              clear D7 e7 h7 b6
              go_wp2
              go_ret
              exact ⟨rfl, b7⟩
        · have kd : (K == 3) = false := by simp; omega
          go_wp2_with fail
          generalize hw6 : w6a.alloc (.cells #[.int .i64 K, .int .i64 T, .int .i64 N, .string S] 29) = w6 at *
          clear hw6
          have D7 := icheck_c K T N S w6 hS'
          by_cases n1 : N < 1
          · have m1 : decide (1 ≤ N) = false := decide_eq_false (by omega)
            have e7 : ck K T N S.size = 7 := by rw [ck_count r0, if_pos (by omega)]
            rw [e7] at D7
            refine D7.mono ?_
            rintro e w7 ⟨rfl, h7⟩
            have b7 := bchain b6 h7
            clear D7 e7 h7 b6
            go_wp2
            go_ret
            exact ⟨rfl, b7⟩
          · have m1 : 1 ≤ N := by omega
            by_cases n2 : 1048576 < N
            · have m2 : decide (N ≤ 1048576) = false := decide_eq_false (by omega)
              have e7 : ck K T N S.size = 7 := by rw [ck_count r0, if_pos (by omega)]
              rw [e7] at D7
              refine D7.mono ?_
              rintro e w7 ⟨rfl, h7⟩
              have b7 := bchain b6 h7
              clear D7 e7 h7 b6
              go_wp2
              go_ret
              exact ⟨rfl, b7⟩
            · have m2 : N ≤ 1048576 := by omega
              have e7 : ck K T N S.size = 0 := by rw [ck_count r0, if_neg (by omega)]
              rw [e7] at D7
              refine D7.mono ?_
              rintro e w7 ⟨rfl, h7⟩
              have b7 := bchain b6 h7
              clear D7 e7 h7 b6
              go_wp2
              go_ret
              exact ⟨rfl, b7⟩
      · have e5 : ck K T C L.size = 0 := by rw [ck_label r0, if_neg hl]
        have m5 : (L.size : Int) ≤ 255 := by omega
        rw [e5] at D5
        refine D5.mono ?_
        rintro e w5 ⟨rfl, h5⟩
        have b5 := bchain b4 h5
        have B5 := B4.up h5
        clear D5 e5 h5 b4 B4
        obtain ⟨c0, c1, c2, c3⟩ := B5.four
        go_wp2_with fail
        refine (of12_c K T C S w5).mono ?_
        rintro e w6a ⟨rfl, h6⟩
        have b6a := bchain b5 h6
        have B6 := B5.up h6
        clear B5 b5 h6 c0 c1 c2 c3
        have b6 : Below w.heap.size w (w6a.alloc (.cells #[.int .i64 K, .int .i64 T, .int .i64 N, .string S] 29)) := b6a.alloc b6a.size _
        have B7 := B6.alloc (.cells #[.int .i64 K, .int .i64 T, .int .i64 N, .string S] 29)
        have hlt := B6.size
        obtain ⟨c0, _, _, _⟩ := B6.four
        by_cases k3 : K = 3
        · subst k3
          go_wp2_with fail
          generalize hw6 : w6a.alloc (.cells #[.int .i64 3, .int .i64 T, .int .i64 N, .string S] 29) = w6 at *
          clear hw6
          have D7 := icheck_c 3 T N S w6 hS'
          by_cases n1 : N < 1
          · have m1 : decide (1 ≤ N) = false := decide_eq_false (by omega)
            have e7 : ck 3 T N S.size = 7 := by rw [ck_count r0, if_pos (by omega)]
            rw [e7] at D7
            refine D7.mono ?_
            rintro e w7 ⟨rfl, h7⟩
            have b7 := bchain b6 h7
            clear D7 e7 h7 b6
            go_wp2
            go_ret
            exact ⟨rfl, b7⟩
          · have m1 : 1 ≤ N := by omega
            by_cases n2 : 1 < N
            · have m2 : decide (N ≤ 1) = false := decide_eq_false (by omega)
              have e7 : ck 3 T N S.size = 7 := by rw [ck_count r0, if_pos (by omega)]
              rw [e7] at D7
              refine D7.mono ?_
              rintro e w7 ⟨rfl, h7⟩
              have b7 := bchain b6 h7
              clear D7 e7 h7 b6
              go_wp2
              go_ret
              exact ⟨rfl, b7⟩
            · have m2 : N ≤ 1 := by omega
              have e7 : ck 3 T N S.size = 0 := by rw [ck_count r0, if_neg (by omega)]
              rw [e7] at D7
              refine D7.mono ?_
              rintro e w7 ⟨rfl, h7⟩
              have b7 := bchain b6 h7
              clear D7 e7 h7 b6
              go_wp2
              go_ret
              exact ⟨rfl, b7⟩
        · have kd : (K == 3) = false := by simp; omega
          go_wp2_with fail
          generalize hw6 : w6a.alloc (.cells #[.int .i64 K, .int .i64 T, .int .i64 N, .string S] 29) = w6 at *
          clear hw6
          have D7 := icheck_c K T N S w6 hS'
          by_cases n1 : N < 1
          · have m1 : decide (1 ≤ N) = false := decide_eq_false (by omega)
            have e7 : ck K T N S.size = 7 := by rw [ck_count r0, if_pos (by omega)]
            rw [e7] at D7
            refine D7.mono ?_
            rintro e w7 ⟨rfl, h7⟩
            have b7 := bchain b6 h7
            clear D7 e7 h7 b6
            go_wp2
            go_ret
            exact ⟨rfl, b7⟩
          · have m1 : 1 ≤ N := by omega
            by_cases n2 : 1048576 < N
            · have m2 : decide (N ≤ 1048576) = false := decide_eq_false (by omega)
              have e7 : ck K T N S.size = 7 := by rw [ck_count r0, if_pos (by omega)]
              rw [e7] at D7
              refine D7.mono ?_
              rintro e w7 ⟨rfl, h7⟩
              have b7 := bchain b6 h7
              clear D7 e7 h7 b6
              go_wp2
              go_ret
              exact ⟨rfl, b7⟩
            · have m2 : N ≤ 1048576 := by omega
              have e7 : ck K T N S.size = 0 := by rw [ck_count r0, if_neg (by omega)]
              rw [e7] at D7
              refine D7.mono ?_
              rintro e w7 ⟨rfl, h7⟩
              have b7 := bchain b6 h7
              clear D7 e7 h7 b6
              go_wp2
              go_ret
              exact ⟨rfl, b7⟩
  · have hr : (((ck K T C S.size : Nat) : Int) == 0) = false := by simp; omega
    generalize ck K T C S.size = r at *
    go_wp2_with fail
    refine D.mono ?_
    rintro e w2 ⟨rfl, h2⟩
    have b2 := bchain b1 h2
    clear D B1 b1 h2 c0 c1 c2 c3
    go_wp2_with fail
    refine (speaks12_c w2).mono ?_
    rintro e w3 ⟨rfl, h3⟩
    have b3 := bchain b2 h3
    go_wp2
    go_ret
    exact ⟨rfl, b3⟩
end Go.Proofs.Ytlgefgoaleggmaa
