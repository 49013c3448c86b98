/-
  avouchlaw12.ItemTells: the walk.
-/
import Derived.Test.YtlgefgoaleggmaaLawItR
namespace Go.Proofs.Ytlgefgoaleggmaa
open Go.RowKit
set_option linter.unusedVariables false
set_option linter.unusedSimpArgs false

set_option maxRecDepth 100000 in
set_option maxHeartbeats 4000000 in
theorem itemTells_w (K T C : Int) (S : ByteArray) (A : Option Addr) (n c : Nat) (l : List Nat) (w : World) (hS0 : S.size ≤ maxLen) (ha : Rd8 w w.heap.size A n l) (hc : n ≤ c) :
    Calls Try.prog 3 #[.agg #[.int .i64 K, .int .i64 T, .int .i64 C, .string S], .slice A n c] w fun e w' => e = .returned (.bool true) ∧ Below w.heap.size w w' := by
  have hS : S.size ≤ 9223372036854775807 := hS0
  have hb0 : Below w.heap.size w (w.alloc (.cells #[.int .i64 K, .int .i64 T, .int .i64 C, .string S] 23)) := (Below.refl _ _).alloc (Nat.le_refl _) _
  have B0 := BlkV.new w 23 [.int .i64 K, .int .i64 T, .int .i64 C, .string S]
  go_enter Try.func3, Try.ntmps3
  go_wp2_with fail
  generalize hw0 : w.alloc (.cells #[.int .i64 K, .int .i64 T, .int .i64 C, .string S] 23) = w0 at *
  clear hw0
  refine (speaks12_c w0).mono ?_
  rintro e w1 ⟨rfl, h1⟩
  have b1 := bchain hb0 h1
  have B1 : BlkV w1 w.heap.size 23 [.int .i64 K, .int .i64 T, .int .i64 C, .string S] := BlkV.up B0 h1
  clear h1 hb0 B0
  obtain ⟨c0, c1, c2, c3⟩ := B1.four
  by_cases h4 : 400 < S.size
  · have h4' : (400 : Int) < (S.size : Int) := by omega
    go_wp2_with fail
    refine (speaks12_c w1).mono ?_
    rintro e w2 ⟨rfl, h2⟩
    have b2 := bchain b1 h2
    go_wp2
    go_ret
    exact ⟨rfl, b2⟩
  · have h4' : ¬ (400 : Int) < (S.size : Int) := by omega
    by_cases hn : 100 < n
    · have hn' : (100 : Int) < (n : Int) := by omega
      go_wp2_with fail
      refine (speaks12_c w1).mono ?_
      rintro e w2 ⟨rfl, h2⟩
      have b2 := bchain b1 h2
      go_wp2
      go_ret
      exact ⟨rfl, b2⟩
    · have hn' : ¬ (100 : Int) < (n : Int) := by omega
      go_wp2_with fail
      refine (of12_c K T C S w1).mono ?_
      rintro e w2 ⟨rfl, h2⟩
      have b2 := bchain b1 h2
      have B2 := B1.up h2
      clear B1 b1 h2 c0 c1 c2 c3
      go_wp2_with fail
      refine (iencode_c K T C S w2 hS).mono ?_
      rintro e w3 ⟨v3, rfl, O3, h3⟩
      have b3 := bchain b2 h3
      have B3 := B2.up h3
      have lo := B2.size
      have lw := h3.size
      generalize w2.heap.size = base at *
      clear B2 b2 h3
      obtain ⟨c0, c1, c2, c3⟩ := B3.four
      go_wp2_with fail
      refine (rencode_c K T C S w3 hS).mono ?_
      rintro e w4 ⟨v4, rfl, P4, h4⟩
      have b4 := bchain b3 h4
      have B4 := B3.up h4
      have O4 := O3.up h4
      have lw4 := Nat.le_trans lw h4.size
      clear B3 b3 h4 c0 c1 c2 c3 O3 lw
      obtain ⟨c0, c1, c2, c3⟩ := B4.four
      obtain ⟨A5, c5, rfl, hc5, _⟩ := O4.rd
      obtain ⟨A6, c6, rfl, hc6, _⟩ := P4.rd
      go_wp2_with fail
      refine (of12_c K T C S w4).mono ?_
      rintro e w5 ⟨rfl, h5⟩
      have b5 := bchain b4 h5
      have B5 := B4.up h5
      have O5 := O4.up h5
      have P5 := P4.up h5
      have lw5 := Nat.le_trans lw4 h5.size
      clear B4 b4 h5 c0 c1 c2 c3 O4 P4 lw4
      go_wp2_with fail
      refine (icheck_c K T C S w5 hS).mono ?_
      rintro e w6 ⟨rfl, h6⟩
      have b6 := bchain b5 h6
      have B6 := B5.up h6
      have O6 := O5.up h6
      have P6 := P5.up h6
      have lw6 := Nat.le_trans lw5 h6.size
      clear B5 b5 h6 O5 P5 lw5
      have cv1 : (convert 24 9 (.slice A5 (iE K T C S).length c5)).run Try.prog w6 = .ok (.string (sb (iE K T C S))) w6 := by
        obtain ⟨_, _, e, _, r⟩ := O6.rd
        cases e
        exact conv_s r c5
      have cv2 : (convert 24 9 (.slice A6 (iE K T C S).length c6)).run Try.prog w6 = .ok (.string (sb (iE K T C S))) w6 := by
        obtain ⟨_, _, e, _, r⟩ := P6.rd
        cases e
        exact conv_s r c6
      by_cases r0 : ck K T C S.size = 0
      · rw [r0]
        have sz := (ck_ok r0).2.2.2.2.2.2
        have hlen : (iE K T C S).length + n ≤ 1000000 := by
          unfold iE
          rw [if_pos r0, itb_len, bl_len]
          omega
        obtain ⟨d1, d2, d3, d4, d5, d6⟩ := enc_back r0 l
        have ra := ha.below b6 (Nat.le_refl _)
        go_wp2_with (at_builtin; refine append_rd rfl (.tmp 57) (.tmp 58) rfl base _ _ rfl O6 A n c w.heap.size l ra rfl hlen lw6 ?_)
        intro v7 w7 O7 h7
        have hl7 : (iE K T C S ++ l).length ≤ 1000000 := by rw [List.length_append, ha.len]; exact hlen
        generalize iE K T C S ++ l = Z at *
        have b7 : Below w.heap.size w w7 := b6.trans (h7.mono (by omega))
        have B7 := B6.below h7 lo
        clear O6 P6 h7 B6 b6 cv1 cv2 ra lw6
        obtain ⟨A7, c7, rfl, hc7, r7⟩ := O7.rd
        go_wp2_with fail
        have D := idecode_c A7 Z.length c7 Z w7 r7 hc7 hl7
        rw [d1, d2, d3, d4, d5, d6] at D
        refine D.mono ?_
        rintro e w8 ⟨A8, m8, c8, rfl, r8, h8⟩
        have b8 := bchain b7 h8
        have B8 := B7.up h8
        clear D O7 r7 B7 b7 h8
        go_wp2
        obtain ⟨Y9, b9⟩ := new_with 29 K T C S b8
        have g9 := (Below.refl w8.heap.size w8).alloc (Nat.le_refl _) (.cells #[.int .i64 K, .int .i64 T, .int .i64 C, .string S] 29)
        have B9 := B8.up g9
        have r9 := r8.up g9 (Nat.le_refl _)
        generalize hw9 : w8.alloc (.cells #[.int .i64 K, .int .i64 T, .int .i64 C, .string S] 29) = w9 at *
        generalize hx9 : w8.heap.size = x9 at *
        clear hw9 hx9 B8 r8 g9 b8
        have bA := b9.drew
        have BA := B9.drew
        have YA := Y9.drew
        have rA : Rd8 w9.drew w9.drew.heap.size A8 m8 l := r9.drewN 1
        have sA : Rd8 w9.drew w9.drew.heap.size A n l := (ha.below bA (Nat.le_refl _)).more bA.size
        generalize hwA : w9.drew = wA at *
        have hSA : Below wA.heap.size wA w9.drew := by rw [hwA]; exact Below.refl _ _
        clear B9 Y9 r9 b9
        refine wp_region_held_drew (S := fun v => Below wA.heap.size wA v) (by kernel_rfl) hSA (fun hHeld => ?_)
        rw [hwA] at *
        clear hwA
        refine wpAnyH_take (i := 0) (v := ?_) rfl (by kernel_rfl) (by kernel_rfl) (by kernel_rfl) (fun _ _ _ h => h) (Or.inl ⟨by rfl, fun v hv => ?_⟩) (by with_reducible assumption) ?_
        rotate_left
        · go_simp
          try with_reducible rfl
        simp only [Act.put, List.setIfInBounds_toArray, List.set_cons_zero, List.set_cons_succ, List.getElem_toArray, List.getElem_cons_zero, List.getElem_cons_succ]
        refine wpAnyH_take (i := 1) (v := ?_) rfl (by kernel_rfl) (by kernel_rfl) (by kernel_rfl) (fun _ _ _ h => h) (Or.inl ⟨by rfl, fun v hv => ?_⟩) (by with_reducible assumption) ?_
        rotate_left
        · go_simp
          try with_reducible rfl
        simp only [Act.put, List.setIfInBounds_toArray, List.set_cons_zero, List.set_cons_succ, List.getElem_toArray, List.getElem_cons_zero, List.getElem_cons_succ]
        refine wpAnyH_take (i := 2) (v := ?_) rfl (by kernel_rfl) (by kernel_rfl) (by kernel_rfl) (fun _ _ _ h => h) (Or.inl ⟨by rfl, fun v hv => ?_⟩) (by with_reducible assumption) ?_
        rotate_left
        · go_simp
          try with_reducible rfl
        simp only [Act.put, List.setIfInBounds_toArray, List.set_cons_zero, List.set_cons_succ, List.getElem_toArray, List.getElem_cons_zero, List.getElem_cons_succ]
        refine wpAnyH_take (i := 3) (v := .agg ([.int .i64 K, .int .i64 T, .int .i64 C, .string S]).toArray) rfl (by kernel_rfl) (by kernel_rfl) (by kernel_rfl) (fun _ _ _ h => h) (yieldsIf_load_mid (by rfl) 29 (.tmp 9) rfl (x9) 0 rfl ([.int .i64 K, .int .i64 T, .int .i64 C, .string S]) _ (fun v hv => (YA.up hv).range) Try.underlying29 rfl sizeI4) (by with_reducible assumption) ?_
        simp only [Act.put, List.setIfInBounds_toArray, List.set_cons_zero, List.set_cons_succ, List.getElem_toArray, List.getElem_cons_zero, List.getElem_cons_succ]
        refine wpAnyH_take (i := 5) (v := .agg ([.int .i64 K, .int .i64 T, .int .i64 C, .string S]).toArray) rfl (by kernel_rfl) (by kernel_rfl) (by kernel_rfl) (fun _ _ _ h => h) (yieldsIf_load_mid (by rfl) 23 (.tmp 2) rfl (w.heap.size) 0 rfl ([.int .i64 K, .int .i64 T, .int .i64 C, .string S]) _ (fun v hv => (BA.up hv).range) Try.underlying23 rfl sizeR4) (by with_reducible assumption) ?_
        simp only [Act.put, List.setIfInBounds_toArray, List.set_cons_zero, List.set_cons_succ, List.getElem_toArray, List.getElem_cons_zero, List.getElem_cons_succ]
        refine wpAnyH_ready (rs := [4]) (by kernel_rfl) (by simp) ?_
        refine AllReadyH.cons rfl (fun KK hK => ?_) AllReadyH.nil
        go_simp
        go_at_call 13
        with_reducible refine (to12_c K T C S wA).mono ?_
        rintro e u1 ⟨rfl, hu1⟩
        have b_u1 := bchain bA hu1
        dsimp only
        have su1 : Below wA.heap.size wA u1 := hu1
        refine hK.out _ _ su1 (fun hHeld => ?_)
        clear hK KK
        try simp only [Act.put, List.setIfInBounds_toArray, List.set_cons_zero, List.set_cons_succ, List.getElem_toArray, List.getElem_cons_zero, List.getElem_cons_succ]
        refine wpAnyH_take (i := 6) (v := ?_) rfl (by kernel_rfl) (by kernel_rfl) (by kernel_rfl) (fun _ _ _ h => h) (Or.inl ⟨by rfl, fun v hv => ?_⟩) (by with_reducible assumption) ?_
        rotate_left
        · have hcc := eq_ref_same v K T C S
          go_simp
          try with_reducible rfl
        simp only [Act.put, List.setIfInBounds_toArray, List.set_cons_zero, List.set_cons_succ, List.getElem_toArray, List.getElem_cons_zero, List.getElem_cons_succ]
        refine wpAnyH_take (i := 7) (v := ?_) rfl (by kernel_rfl) (by kernel_rfl) (by kernel_rfl) (fun _ _ _ h => h) (Or.inl ⟨by rfl, fun v hv => ?_⟩) (by with_reducible assumption) ?_
        rotate_left
        · go_simp
          try with_reducible rfl
        simp only [Act.put, List.setIfInBounds_toArray, List.set_cons_zero, List.set_cons_succ, List.getElem_toArray, List.getElem_cons_zero, List.getElem_cons_succ]
        refine wpAnyH_take (i := 8) (v := ?_) rfl (by kernel_rfl) (by kernel_rfl) (by kernel_rfl) (fun _ _ _ h => h) (Or.inl ⟨by rfl, fun v hv => ?_⟩) (by with_reducible assumption) ?_
        rotate_left
        · go_simp
          try with_reducible rfl
        simp only [Act.put, List.setIfInBounds_toArray, List.set_cons_zero, List.set_cons_succ, List.getElem_toArray, List.getElem_cons_zero, List.getElem_cons_succ]
        refine wpAnyH_take (i := 9) (v := ?_) rfl (by kernel_rfl) (by kernel_rfl) (by kernel_rfl) (fun _ _ _ h => h) (Or.inl ⟨by rfl, fun v hv => ?_⟩) (by with_reducible assumption) ?_
        rotate_left
        · go_simp
          try with_reducible rfl
        simp only [Act.put, List.setIfInBounds_toArray, List.set_cons_zero, List.set_cons_succ, List.getElem_toArray, List.getElem_cons_zero, List.getElem_cons_succ]
        refine wpAnyH_take (i := 10) (v := ?_) rfl (by kernel_rfl) (by kernel_rfl) (by kernel_rfl) (fun _ _ _ h => h) (Or.inl ⟨by rfl, fun v hv => ?_⟩) (by with_reducible assumption) ?_
        rotate_left
        · have hcc := conv_s (rA.up hv (Nat.le_refl _)) c8
          go_simp
          try with_reducible rfl
        simp only [Act.put, List.setIfInBounds_toArray, List.set_cons_zero, List.set_cons_succ, List.getElem_toArray, List.getElem_cons_zero, List.getElem_cons_succ]
        refine wpAnyH_take (i := 11) (v := ?_) rfl (by kernel_rfl) (by kernel_rfl) (by kernel_rfl) (fun _ _ _ h => h) (Or.inl ⟨by rfl, fun v hv => ?_⟩) (by with_reducible assumption) ?_
        rotate_left
        · go_simp
          try with_reducible rfl
        simp only [Act.put, List.setIfInBounds_toArray, List.set_cons_zero, List.set_cons_succ, List.getElem_toArray, List.getElem_cons_zero, List.getElem_cons_succ]
        refine wpAnyH_take (i := 12) (v := ?_) rfl (by kernel_rfl) (by kernel_rfl) (by kernel_rfl) (fun _ _ _ h => h) (Or.inl ⟨by rfl, fun v hv => ?_⟩) (by with_reducible assumption) ?_
        rotate_left
        · have hcc := conv_s (sA.up hv (Nat.le_refl _)) c
          go_simp
          try with_reducible rfl
        simp only [Act.put, List.setIfInBounds_toArray, List.set_cons_zero, List.set_cons_succ, List.getElem_toArray, List.getElem_cons_zero, List.getElem_cons_succ]
        refine wpAnyH_take (i := 13) (v := ?_) rfl (by kernel_rfl) (by kernel_rfl) (by kernel_rfl) (fun _ _ _ h => h) (Or.inl ⟨by rfl, fun v hv => ?_⟩) (by with_reducible assumption) ?_
        rotate_left
        · go_simp
          try with_reducible rfl
        simp only [Act.put, List.setIfInBounds_toArray, List.set_cons_zero, List.set_cons_succ, List.getElem_toArray, List.getElem_cons_zero, List.getElem_cons_succ]
        refine wpAnyH_take (i := 14) (v := ?_) rfl (by kernel_rfl) (by kernel_rfl) (by kernel_rfl) (fun _ _ _ h => h) (Or.inl ⟨by rfl, fun v hv => ?_⟩) (by with_reducible assumption) ?_
        rotate_left
        · go_simp
          try with_reducible rfl
        simp only [Act.put, List.setIfInBounds_toArray, List.set_cons_zero, List.set_cons_succ, List.getElem_toArray, List.getElem_cons_zero, List.getElem_cons_succ]
        refine wpAnyH_take (i := 15) (v := ?_) rfl (by kernel_rfl) (by kernel_rfl) (by kernel_rfl) (fun _ _ _ h => h) (Or.inl ⟨by rfl, fun v hv => ?_⟩) (by with_reducible assumption) ?_
        rotate_left
        · go_simp
          try with_reducible rfl
        simp only [Act.put, List.setIfInBounds_toArray, List.set_cons_zero, List.set_cons_succ, List.getElem_toArray, List.getElem_cons_zero, List.getElem_cons_succ]
        refine wpAnyH_done (by kernel_rfl) ?_ _
        have bz := b_u1
        clear hHeld
        go_wp2
        go_ret
        exact ⟨rfl, bz⟩
      · have hr : (((ck K T C S.size : Nat) : Int) == 0) = false := by simp; omega
        go_wp2
        go_ret
        exact ⟨rfl, b6⟩
end Go.Proofs.Ytlgefgoaleggmaa
