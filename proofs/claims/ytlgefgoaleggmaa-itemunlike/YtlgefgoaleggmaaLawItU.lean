/-
  avouchlaw12.ItemUnlike: the walk.
-/
import Derived.Test.YtlgefgoaleggmaaItK
import Derived.Deep.RegionHeld3
namespace Go.Proofs.Ytlgefgoaleggmaa
open Go.RowKit
set_option linter.unusedVariables false
set_option linter.unusedSimpArgs false

theorem ck_size {k t c : Int} {n : Nat} (h : ck k t c n = 0) : n ≤ 255 := (ck_ok h).2.2.2.2.2.2
theorem unlike_c {K T C K' T' C' : Int} {S S' : ByteArray} (h : ck K T C S.size = 0) (h' : ck K' T' C' S'.size = 0) :
    ((sb ((iE K T C S).take (min (iE K T C S).length (iE K' T' C' S').length))).toList == (sb ((iE K' T' C' S').take (min (iE K T C S).length (iE K' T' C' S').length))).toList) = decide (K = K' ∧ T = T' ∧ C = C' ∧ bl S = bl S') := by
  rw [str_eq, bl_sb ((iE_lt _ _ _ _).take _), bl_sb ((iE_lt _ _ _ _).take _)]
  obtain ⟨h1, h2, h3, h4, h5, h6, h7⟩ := ck_ok h
  obtain ⟨g1, g2, g3, g4, g5, g6, g7⟩ := ck_ok h'
  have e : iE K T C S = itb K.toNat T.toNat C.toNat (bl S) := by unfold iE; rw [if_pos h]
  have e' : iE K' T' C' S' = itb K'.toNat T'.toNat C'.toNat (bl S') := by unfold iE; rw [if_pos h']
  rw [e, e']
  have u := itb_unlike (k := K.toNat) (t := T.toNat) (c := C.toNat) (k' := K'.toNat) (t' := T'.toNat) (c' := C'.toNat) (l := bl S) (l' := bl S')
    (by rw [Int.toNat_of_nonneg (by omega), Int.toNat_of_nonneg (by omega), Int.toNat_of_nonneg (by omega), bl_len]; exact h) (by rw [Int.toNat_of_nonneg (by omega), Int.toNat_of_nonneg (by omega), Int.toNat_of_nonneg (by omega), bl_len]; exact h')
  rw [Bool.eq_iff_iff, decide_eq_true_iff, decide_eq_true_iff, u]
  constructor
  · rintro ⟨a, b, c, d⟩; exact ⟨by omega, by omega, by omega, d⟩
  · rintro ⟨a, b, c, d⟩; exact ⟨by omega, by omega, by omega, d⟩
set_option maxRecDepth 100000 in
set_option maxHeartbeats 4000000 in
theorem itemUnlike_w (K T C : Int) (S : ByteArray) (K' T' C' : Int) (S' : ByteArray) (w : World) (hS : S.size ≤ maxLen) (hL : S'.size ≤ maxLen) :
    Calls Try.prog 5 #[.agg #[.int .i64 K, .int .i64 T, .int .i64 C, .string S], .agg #[.int .i64 K', .int .i64 T', .int .i64 C', .string S']] w fun e w' => e = .returned (.bool true) ∧ Below w.heap.size w w' := by
  have hS1 : S.size ≤ 9223372036854775807 := hS
  have hS2 : S'.size ≤ 9223372036854775807 := hL
  have hb0 : Below w.heap.size w ((w.alloc (.cells #[.int .i64 K, .int .i64 T, .int .i64 C, .string S] 23)).alloc (.cells #[.int .i64 K', .int .i64 T', .int .i64 C', .string S'] 23)) := ((Below.refl _ _).alloc (Nat.le_refl _) _).alloc (by simp) _
  have B0 := (BlkV.new w 23 [.int .i64 K, .int .i64 T, .int .i64 C, .string S]).alloc (.cells #[.int .i64 K', .int .i64 T', .int .i64 C', .string S'] 23)
  have B0' := BlkV.new (w.alloc (.cells #[.int .i64 K, .int .i64 T, .int .i64 C, .string S] 23)) 23 [.int .i64 K', .int .i64 T', .int .i64 C', .string S']
  rw [show (w.alloc (.cells #[.int .i64 K, .int .i64 T, .int .i64 C, .string S] 23)).heap.size = w.heap.size + 1 by simp] at B0'
  go_enter Try.func5, Try.ntmps5
  go_wp2_with fail
  generalize hw0 : (w.alloc (.cells #[.int .i64 K, .int .i64 T, .int .i64 C, .string S] 23)).alloc (.cells #[.int .i64 K', .int .i64 T', .int .i64 C', .string S'] 23) = w0 at *
  clear hw0
  refine (speaks12_c w0).mono ?_
  rintro e w1 ⟨rfl, h1⟩
  have b1 := bchain hb0 h1
  have B1 : BlkV w1 w.heap.size 23 [.int .i64 K, .int .i64 T, .int .i64 C, .string S] := BlkV.up B0 h1
  have P1 : BlkV w1 (w.heap.size + 1) 23 [.int .i64 K', .int .i64 T', .int .i64 C', .string S'] := BlkV.up B0' h1
  clear h1 hb0 B0 B0'
  have D := rcheck_c K T C S w1 hS1
  obtain ⟨c0, c1, c2, c3⟩ := B1.four
  by_cases r0 : ck K T C S.size = 0
  · rw [r0] at D
    go_wp2_with fail
    refine D.mono ?_
    rintro e w2 ⟨rfl, h2⟩
    have b2 := bchain b1 h2
    have B2 := B1.up h2
    have P2 := P1.up h2
    clear D B1 P1 b1 h2 c0 c1 c2 c3
    have D := rcheck_c K' T' C' S' w2 hS2
    obtain ⟨c0, c1, c2, c3⟩ := P2.four
    by_cases r1 : ck K' T' C' S'.size = 0
    · rw [r1] at D
      go_wp2_with fail
      refine D.mono ?_
      rintro e w3 ⟨rfl, h3⟩
      have b3 := bchain b2 h3
      have B3 := B2.up h3
      have P3 := P2.up h3
      clear D B2 P2 b2 h3 c0 c1 c2 c3
      obtain ⟨c0, c1, c2, c3⟩ := B3.four
      go_wp2_with fail
      refine (of12_c K T C S w3).mono ?_
      rintro e w4 ⟨rfl, h4⟩
      have b4 := bchain b3 h4
      have B4 := B3.up h4
      have P4 := P3.up h4
      clear B3 P3 b3 h4 c0 c1 c2 c3
      go_wp2_with fail
      refine (iencode_c K T C S w4 hS1).mono ?_
      rintro e w5 ⟨v5, rfl, O5, h5⟩
      have b5 := bchain b4 h5
      have B5 := B4.up h5
      have P5 := P4.up h5
      clear B4 P4 b4 h5
      obtain ⟨c0, c1, c2, c3⟩ := P5.four
      go_wp2_with fail
      refine (of12_c K' T' C' S' w5).mono ?_
      rintro e w6 ⟨rfl, h6⟩
      have b6 := bchain b5 h6
      have B6 := B5.up h6
      have P6 := P5.up h6
      have O6 := O5.up h6
      clear B5 P5 b5 O5 h6 c0 c1 c2 c3
      go_wp2_with fail
      refine (iencode_c K' T' C' S' w6 hS2).mono ?_
      rintro e w7 ⟨v7, rfl, O7, h7⟩
      have b7 := bchain b6 h7
      have B7 := B6.up h7
      have P7 := P6.up h7
      have Q7 := O6.up h7
      clear B6 P6 b6 O6 h7
      obtain ⟨A, ca, rfl, hca, ra⟩ := Q7.rd
      obtain ⟨A', cb, rfl, hcb, rb⟩ := O7.rd
      clear Q7 O7
      go_wp2
      obtain ⟨w8, hw8⟩ : ∃ x, x = w7.drew := ⟨_, rfl⟩
      have b8 : Below w.heap.size w w8 := hw8 ▸ b7.drew
      have B8 : BlkV w8 w.heap.size 23 [.int .i64 K, .int .i64 T, .int .i64 C, .string S] := hw8 ▸ B7.drew
      have P8 : BlkV w8 (w.heap.size + 1) 23 [.int .i64 K', .int .i64 T', .int .i64 C', .string S'] := hw8 ▸ P7.drew
      have ra8 : Rd8 w8 w8.heap.size A (iE K T C S).length (iE K T C S) := hw8 ▸ ra.drewN 1
      have rb8 : Rd8 w8 w8.heap.size A' (iE K' T' C' S').length (iE K' T' C' S') := hw8 ▸ rb.drewN 1
      have H8 := hid hw8
      clear hw8 b7 B7 P7 ra rb
      by_cases k0 : K = K'
      · by_cases t0 : T = T'
        · by_cases c0 : C = C'
          · subst k0
            subst t0
            subst c0
            refine wp_region_held_drew (S := fun v => Below w8.heap.size w8 v) (by kernel_rfl) (by rw [← H8.out]; exact Below.refl _ _) (fun hHeld => ?_)
            rw [← H8.out] at *
            refine wpAnyH_take (i := 0) (v := .agg ([.int .i64 K, .int .i64 T, .int .i64 C, .string S]).toArray) rfl (by kernel_rfl) (by kernel_rfl) (by kernel_rfl) (fun _ _ _ h => h) (yieldsIf_load_mid (by rfl) 23 (.tmp 2) rfl (w.heap.size) 0 rfl ([.int .i64 K, .int .i64 T, .int .i64 C, .string S]) _ (fun v hv => (B8.up hv).range) Try.underlying23 rfl sizeR4) (by with_reducible assumption) ?_
            simp only [Act.put, List.setIfInBounds_toArray, List.set_cons_zero, List.set_cons_succ, List.getElem_toArray, List.getElem_cons_zero, List.getElem_cons_succ]
            refine wpAnyH_take (i := 2) (v := .agg ([.int .i64 K, .int .i64 T, .int .i64 C, .string S']).toArray) rfl (by kernel_rfl) (by kernel_rfl) (by kernel_rfl) (fun _ _ _ h => h) (yieldsIf_load_mid (by rfl) 23 (.tmp 3) rfl (w.heap.size + 1) 0 rfl ([.int .i64 K, .int .i64 T, .int .i64 C, .string S']) _ (fun v hv => (P8.up hv).range) Try.underlying23 rfl sizeR4) (by with_reducible assumption) ?_
            simp only [Act.put, List.setIfInBounds_toArray, List.set_cons_zero, List.set_cons_succ, List.getElem_toArray, List.getElem_cons_zero, List.getElem_cons_succ]
            refine wpAnyH_take (i := 5) (v := ?_) rfl (by kernel_rfl) (by kernel_rfl) (by kernel_rfl) (fun _ _ _ h => h) (Or.inl ⟨by rfl, fun v hv => ?_⟩) (by with_reducible assumption) ?_
            rotate_left
            · go_simp
              try with_reducible rfl
            simp only [Act.put, List.setIfInBounds_toArray, List.set_cons_zero, List.set_cons_succ, List.getElem_toArray, List.getElem_cons_zero, List.getElem_cons_succ]
            refine wpAnyH_take (i := 6) (v := ?_) rfl (by kernel_rfl) (by kernel_rfl) (by kernel_rfl) (fun _ _ _ h => h) (Or.inl ⟨by rfl, fun v hv => ?_⟩) (by with_reducible assumption) ?_
            rotate_left
            · have hcc := (B8.up hv).four.1
              go_simp
              try with_reducible rfl
            simp only [Act.put, List.setIfInBounds_toArray, List.set_cons_zero, List.set_cons_succ, List.getElem_toArray, List.getElem_cons_zero, List.getElem_cons_succ]
            refine wpAnyH_take (i := 7) (v := ?_) rfl (by kernel_rfl) (by kernel_rfl) (by kernel_rfl) (fun _ _ _ h => h) (Or.inl ⟨by rfl, fun v hv => ?_⟩) (by with_reducible assumption) ?_
            rotate_left
            · go_simp
              try with_reducible rfl
            simp only [Act.put, List.setIfInBounds_toArray, List.set_cons_zero, List.set_cons_succ, List.getElem_toArray, List.getElem_cons_zero, List.getElem_cons_succ]
            refine wpAnyH_take (i := 8) (v := ?_) rfl (by kernel_rfl) (by kernel_rfl) (by kernel_rfl) (fun _ _ _ h => h) (Or.inl ⟨by rfl, fun v hv => ?_⟩) (by with_reducible assumption) ?_
            rotate_left
            · have hcc := (P8.up hv).four.1
              go_simp
              try with_reducible rfl
            simp only [Act.put, List.setIfInBounds_toArray, List.set_cons_zero, List.set_cons_succ, List.getElem_toArray, List.getElem_cons_zero, List.getElem_cons_succ]
            refine wpAnyH_take (i := 9) (v := ?_) rfl (by kernel_rfl) (by kernel_rfl) (by kernel_rfl) (fun _ _ _ h => h) (Or.inl ⟨by rfl, fun v hv => ?_⟩) (by with_reducible assumption) ?_
            rotate_left
            · go_simp
              try with_reducible rfl
            simp only [Act.put, List.setIfInBounds_toArray, List.set_cons_zero, List.set_cons_succ, List.getElem_toArray, List.getElem_cons_zero, List.getElem_cons_succ]
            refine wpAnyH_ready (rs := [1]) (by kernel_rfl) (by simp) ?_
            refine AllReadyH.cons rfl (fun KK hK => ?_) AllReadyH.nil
            go_simp
            go_at_call 9
            with_reducible refine (of12_c K T C S w8).mono ?_
            rintro e u1 ⟨rfl, hu1⟩
            have b_u1 := bchain b8 hu1
            have B_u1 := (B8).up hu1
            have P_u1 := (P8).up hu1
            have ra_u1 := (ra8).up hu1 (Nat.le_refl _)
            have rb_u1 := (rb8).up hu1 (Nat.le_refl _)
            dsimp only
            have su1 : Below w8.heap.size w8 u1 := hu1
            refine hK.out _ _ su1 (fun hHeld => ?_)
            clear hK KK
            try simp only [Act.put, List.setIfInBounds_toArray, List.set_cons_zero, List.set_cons_succ, List.getElem_toArray, List.getElem_cons_zero, List.getElem_cons_succ]
            refine wpAnyH_ready (rs := [3]) (by kernel_rfl) (by simp) ?_
            refine AllReadyH.cons rfl (fun KK hK => ?_) AllReadyH.nil
            go_simp
            go_at_call 9
            with_reducible refine (of12_c K T C S' u1).mono ?_
            rintro e u2 ⟨rfl, hu2⟩
            have b_u2 := bchain b_u1 hu2
            have B_u2 := (B_u1).up hu2
            have P_u2 := (P_u1).up hu2
            have ra_u2 := (ra_u1).up hu2 (Nat.le_refl _)
            have rb_u2 := (rb_u1).up hu2 (Nat.le_refl _)
            dsimp only
            have su2 : Below w8.heap.size w8 u2 := bchain su1 hu2
            refine hK.out _ _ su2 (fun hHeld => ?_)
            clear hK KK
            try simp only [Act.put, List.setIfInBounds_toArray, List.set_cons_zero, List.set_cons_succ, List.getElem_toArray, List.getElem_cons_zero, List.getElem_cons_succ]
            refine wpAnyH_ready (rs := [4]) (by kernel_rfl) (by simp) ?_
            refine AllReadyH.cons rfl (fun KK hK => ?_) AllReadyH.nil
            go_simp
            go_at_call 16
            with_reducible refine (same12_c K T C S K T C S' u2).mono ?_
            rintro e u3 ⟨rfl, hu3⟩
            have b_u3 := bchain b_u2 hu3
            have B_u3 := (B_u2).up hu3
            have P_u3 := (P_u2).up hu3
            have ra_u3 := (ra_u2).up hu3 (Nat.le_refl _)
            have rb_u3 := (rb_u2).up hu3 (Nat.le_refl _)
            dsimp only
            have su3 : Below w8.heap.size w8 u3 := bchain su2 hu3
            refine hK.out _ _ su3 (fun hHeld => ?_)
            clear hK KK
            try simp only [Act.put, List.setIfInBounds_toArray, List.set_cons_zero, List.set_cons_succ, List.getElem_toArray, List.getElem_cons_zero, List.getElem_cons_succ]
            refine wpAnyH_take (i := 10) (v := ?_) rfl (by kernel_rfl) (by kernel_rfl) (by kernel_rfl) (fun _ _ _ h => h) (Or.inl ⟨by rfl, fun v hv => ?_⟩) (by with_reducible assumption) ?_
            rotate_left
            · go_simp
              try with_reducible rfl
            simp only [Act.put, List.setIfInBounds_toArray, List.set_cons_zero, List.set_cons_succ, List.getElem_toArray, List.getElem_cons_zero, List.getElem_cons_succ]
            refine wpAnyH_take (i := 11) (v := ?_) rfl (by kernel_rfl) (by kernel_rfl) (by kernel_rfl) (fun _ _ _ h => h) (Or.inl ⟨by rfl, fun v hv => ?_⟩) (by with_reducible assumption) ?_
            rotate_left
            · go_simp
              try with_reducible rfl
            simp only [Act.put, List.setIfInBounds_toArray, List.set_cons_zero, List.set_cons_succ, List.getElem_toArray, List.getElem_cons_zero, List.getElem_cons_succ]
            refine wpAnyH_take (i := 12) (v := ?_) rfl (by kernel_rfl) (by kernel_rfl) (by kernel_rfl) (fun _ _ _ h => h) (Or.inl ⟨by rfl, fun v hv => ?_⟩) (by with_reducible assumption) ?_
            rotate_left
            · have hcc := (B8.up hv).four.2.1
              go_simp
              try with_reducible rfl
            simp only [Act.put, List.setIfInBounds_toArray, List.set_cons_zero, List.set_cons_succ, List.getElem_toArray, List.getElem_cons_zero, List.getElem_cons_succ]
            refine wpAnyH_take (i := 13) (v := ?_) rfl (by kernel_rfl) (by kernel_rfl) (by kernel_rfl) (fun _ _ _ h => h) (Or.inl ⟨by rfl, fun v hv => ?_⟩) (by with_reducible assumption) ?_
            rotate_left
            · go_simp
              try with_reducible rfl
            simp only [Act.put, List.setIfInBounds_toArray, List.set_cons_zero, List.set_cons_succ, List.getElem_toArray, List.getElem_cons_zero, List.getElem_cons_succ]
            refine wpAnyH_take (i := 14) (v := ?_) rfl (by kernel_rfl) (by kernel_rfl) (by kernel_rfl) (fun _ _ _ h => h) (Or.inl ⟨by rfl, fun v hv => ?_⟩) (by with_reducible assumption) ?_
            rotate_left
            · have hcc := (P8.up hv).four.2.1
              go_simp
              try with_reducible rfl
            simp only [Act.put, List.setIfInBounds_toArray, List.set_cons_zero, List.set_cons_succ, List.getElem_toArray, List.getElem_cons_zero, List.getElem_cons_succ]
            refine wpAnyH_take (i := 15) (v := ?_) rfl (by kernel_rfl) (by kernel_rfl) (by kernel_rfl) (fun _ _ _ h => h) (Or.inl ⟨by rfl, fun v hv => ?_⟩) (by with_reducible assumption) ?_
            rotate_left
            · go_simp
              try with_reducible rfl
            simp only [Act.put, List.setIfInBounds_toArray, List.set_cons_zero, List.set_cons_succ, List.getElem_toArray, List.getElem_cons_zero, List.getElem_cons_succ]
            refine wpAnyH_take (i := 16) (v := ?_) rfl (by kernel_rfl) (by kernel_rfl) (by kernel_rfl) (fun _ _ _ h => h) (Or.inl ⟨by rfl, fun v hv => ?_⟩) (by with_reducible assumption) ?_
            rotate_left
            · go_simp
              try with_reducible rfl
            simp only [Act.put, List.setIfInBounds_toArray, List.set_cons_zero, List.set_cons_succ, List.getElem_toArray, List.getElem_cons_zero, List.getElem_cons_succ]
            refine wpAnyH_take (i := 17) (v := ?_) rfl (by kernel_rfl) (by kernel_rfl) (by kernel_rfl) (fun _ _ _ h => h) (Or.inl ⟨by rfl, fun v hv => ?_⟩) (by with_reducible assumption) ?_
            rotate_left
            · go_simp
              try with_reducible rfl
            simp only [Act.put, List.setIfInBounds_toArray, List.set_cons_zero, List.set_cons_succ, List.getElem_toArray, List.getElem_cons_zero, List.getElem_cons_succ]
            refine wpAnyH_take (i := 18) (v := ?_) rfl (by kernel_rfl) (by kernel_rfl) (by kernel_rfl) (fun _ _ _ h => h) (Or.inl ⟨by rfl, fun v hv => ?_⟩) (by with_reducible assumption) ?_
            rotate_left
            · go_simp
              try with_reducible rfl
            simp only [Act.put, List.setIfInBounds_toArray, List.set_cons_zero, List.set_cons_succ, List.getElem_toArray, List.getElem_cons_zero, List.getElem_cons_succ]
            refine wpAnyH_take (i := 19) (v := ?_) rfl (by kernel_rfl) (by kernel_rfl) (by kernel_rfl) (fun _ _ _ h => h) (Or.inl ⟨by rfl, fun v hv => ?_⟩) (by with_reducible assumption) ?_
            rotate_left
            · have hcc := (B8.up hv).four.2.2.1
              go_simp
              try with_reducible rfl
            simp only [Act.put, List.setIfInBounds_toArray, List.set_cons_zero, List.set_cons_succ, List.getElem_toArray, List.getElem_cons_zero, List.getElem_cons_succ]
            refine wpAnyH_take (i := 20) (v := ?_) rfl (by kernel_rfl) (by kernel_rfl) (by kernel_rfl) (fun _ _ _ h => h) (Or.inl ⟨by rfl, fun v hv => ?_⟩) (by with_reducible assumption) ?_
            rotate_left
            · go_simp
              try with_reducible rfl
            simp only [Act.put, List.setIfInBounds_toArray, List.set_cons_zero, List.set_cons_succ, List.getElem_toArray, List.getElem_cons_zero, List.getElem_cons_succ]
            refine wpAnyH_take (i := 21) (v := ?_) rfl (by kernel_rfl) (by kernel_rfl) (by kernel_rfl) (fun _ _ _ h => h) (Or.inl ⟨by rfl, fun v hv => ?_⟩) (by with_reducible assumption) ?_
            rotate_left
            · have hcc := (P8.up hv).four.2.2.1
              go_simp
              try with_reducible rfl
            simp only [Act.put, List.setIfInBounds_toArray, List.set_cons_zero, List.set_cons_succ, List.getElem_toArray, List.getElem_cons_zero, List.getElem_cons_succ]
            refine wpAnyH_take (i := 22) (v := ?_) rfl (by kernel_rfl) (by kernel_rfl) (by kernel_rfl) (fun _ _ _ h => h) (Or.inl ⟨by rfl, fun v hv => ?_⟩) (by with_reducible assumption) ?_
            rotate_left
            · go_simp
              try with_reducible rfl
            simp only [Act.put, List.setIfInBounds_toArray, List.set_cons_zero, List.set_cons_succ, List.getElem_toArray, List.getElem_cons_zero, List.getElem_cons_succ]
            refine wpAnyH_take (i := 23) (v := ?_) rfl (by kernel_rfl) (by kernel_rfl) (by kernel_rfl) (fun _ _ _ h => h) (Or.inl ⟨by rfl, fun v hv => ?_⟩) (by with_reducible assumption) ?_
            rotate_left
            · go_simp
              try with_reducible rfl
            simp only [Act.put, List.setIfInBounds_toArray, List.set_cons_zero, List.set_cons_succ, List.getElem_toArray, List.getElem_cons_zero, List.getElem_cons_succ]
            refine wpAnyH_take (i := 24) (v := ?_) rfl (by kernel_rfl) (by kernel_rfl) (by kernel_rfl) (fun _ _ _ h => h) (Or.inl ⟨by rfl, fun v hv => ?_⟩) (by with_reducible assumption) ?_
            rotate_left
            · go_simp
              try with_reducible rfl
            simp only [Act.put, List.setIfInBounds_toArray, List.set_cons_zero, List.set_cons_succ, List.getElem_toArray, List.getElem_cons_zero, List.getElem_cons_succ]
            refine wpAnyH_done (by kernel_rfl) ?_ _
            have b9 := b_u3
            have B9 := B_u3
            have P9 := P_u3
            have ra9 := ra_u3
            have rb9 := rb_u3
            clear hHeld
            go_wp2
            have U := unlike_c r0 r1
            have EQ := fun x => eq_ref x K T C K T C S S'
            obtain ⟨n, hn⟩ : ∃ n, n = min (iE K T C S).length (iE K T C S').length := ⟨_, rfl⟩
            have hna : n ≤ (iE K T C S).length := by omega
            have hnb : n ≤ (iE K T C S').length := by omega
            obtain ⟨A1, s1, q1⟩ := cut_h ra9 ca n hna hca (n : Int) rfl
            obtain ⟨A2, s2, q2⟩ := cut_h rb9 cb n hnb hcb (n : Int) rfl
            have V1 : ∀ x, (convert 24 9 (.slice A1 n ca)).run Try.prog (u3.drewN x) = .ok (.string (sb ((iE K T C S).take n))) (u3.drewN x) := fun x => conv_s (q1.drewN x) ca
            have V2 : ∀ x, (convert 24 9 (.slice A2 n cb)).run Try.prog (u3.drewN x) = .ok (.string (sb ((iE K T C S').take n))) (u3.drewN x) := fun x => conv_s (q2.drewN x) cb
            rw [← hn] at U
            have hm : min ((iE K T C S).length : Int) ((iE K T C S').length : Int) = (n : Int) := by omega
            rw [hm]
            obtain ⟨x0, x1, x2, x3⟩ := B9.four
            obtain ⟨z0, z1, z2, z3⟩ := P9.four
            clear hm hn hna hnb q1 q2 ra9 rb9
            go_quiet (fail)
            go_wp2
            go_ret
            exact ⟨rfl, below_drewN b9 _⟩
          · subst k0
            subst t0
            have cq : (C == C') = false := by simpa using c0
            have kd : decide (K = K ∧ T = T ∧ C = C') = false := decide_eq_false (fun h => c0 h.2.2)
            refine wp_region_held_drew (S := fun v => Below w8.heap.size w8 v) (by kernel_rfl) (by rw [← H8.out]; exact Below.refl _ _) (fun hHeld => ?_)
            rw [← H8.out] at *
            refine wpAnyH_take (i := 0) (v := .agg ([.int .i64 K, .int .i64 T, .int .i64 C, .string S]).toArray) rfl (by kernel_rfl) (by kernel_rfl) (by kernel_rfl) (fun _ _ _ h => h) (yieldsIf_load_mid (by rfl) 23 (.tmp 2) rfl (w.heap.size) 0 rfl ([.int .i64 K, .int .i64 T, .int .i64 C, .string S]) _ (fun v hv => (B8.up hv).range) Try.underlying23 rfl sizeR4) (by with_reducible assumption) ?_
            simp only [Act.put, List.setIfInBounds_toArray, List.set_cons_zero, List.set_cons_succ, List.getElem_toArray, List.getElem_cons_zero, List.getElem_cons_succ]
            refine wpAnyH_take (i := 2) (v := .agg ([.int .i64 K, .int .i64 T, .int .i64 C', .string S']).toArray) rfl (by kernel_rfl) (by kernel_rfl) (by kernel_rfl) (fun _ _ _ h => h) (yieldsIf_load_mid (by rfl) 23 (.tmp 3) rfl (w.heap.size + 1) 0 rfl ([.int .i64 K, .int .i64 T, .int .i64 C', .string S']) _ (fun v hv => (P8.up hv).range) Try.underlying23 rfl sizeR4) (by with_reducible assumption) ?_
            simp only [Act.put, List.setIfInBounds_toArray, List.set_cons_zero, List.set_cons_succ, List.getElem_toArray, List.getElem_cons_zero, List.getElem_cons_succ]
            refine wpAnyH_take (i := 5) (v := ?_) rfl (by kernel_rfl) (by kernel_rfl) (by kernel_rfl) (fun _ _ _ h => h) (Or.inl ⟨by rfl, fun v hv => ?_⟩) (by with_reducible assumption) ?_
            rotate_left
            · go_simp
              try with_reducible rfl
            simp only [Act.put, List.setIfInBounds_toArray, List.set_cons_zero, List.set_cons_succ, List.getElem_toArray, List.getElem_cons_zero, List.getElem_cons_succ]
            refine wpAnyH_take (i := 6) (v := ?_) rfl (by kernel_rfl) (by kernel_rfl) (by kernel_rfl) (fun _ _ _ h => h) (Or.inl ⟨by rfl, fun v hv => ?_⟩) (by with_reducible assumption) ?_
            rotate_left
            · have hcc := (B8.up hv).four.1
              go_simp
              try with_reducible rfl
            simp only [Act.put, List.setIfInBounds_toArray, List.set_cons_zero, List.set_cons_succ, List.getElem_toArray, List.getElem_cons_zero, List.getElem_cons_succ]
            refine wpAnyH_take (i := 7) (v := ?_) rfl (by kernel_rfl) (by kernel_rfl) (by kernel_rfl) (fun _ _ _ h => h) (Or.inl ⟨by rfl, fun v hv => ?_⟩) (by with_reducible assumption) ?_
            rotate_left
            · go_simp
              try with_reducible rfl
            simp only [Act.put, List.setIfInBounds_toArray, List.set_cons_zero, List.set_cons_succ, List.getElem_toArray, List.getElem_cons_zero, List.getElem_cons_succ]
            refine wpAnyH_take (i := 8) (v := ?_) rfl (by kernel_rfl) (by kernel_rfl) (by kernel_rfl) (fun _ _ _ h => h) (Or.inl ⟨by rfl, fun v hv => ?_⟩) (by with_reducible assumption) ?_
            rotate_left
            · have hcc := (P8.up hv).four.1
              go_simp
              try with_reducible rfl
            simp only [Act.put, List.setIfInBounds_toArray, List.set_cons_zero, List.set_cons_succ, List.getElem_toArray, List.getElem_cons_zero, List.getElem_cons_succ]
            refine wpAnyH_take (i := 9) (v := ?_) rfl (by kernel_rfl) (by kernel_rfl) (by kernel_rfl) (fun _ _ _ h => h) (Or.inl ⟨by rfl, fun v hv => ?_⟩) (by with_reducible assumption) ?_
            rotate_left
            · go_simp
              try with_reducible rfl
            simp only [Act.put, List.setIfInBounds_toArray, List.set_cons_zero, List.set_cons_succ, List.getElem_toArray, List.getElem_cons_zero, List.getElem_cons_succ]
            refine wpAnyH_ready (rs := [1]) (by kernel_rfl) (by simp) ?_
            refine AllReadyH.cons rfl (fun KK hK => ?_) AllReadyH.nil
            go_simp
            go_at_call 9
            with_reducible refine (of12_c K T C S w8).mono ?_
            rintro e u1 ⟨rfl, hu1⟩
            have b_u1 := bchain b8 hu1
            have B_u1 := (B8).up hu1
            have P_u1 := (P8).up hu1
            have ra_u1 := (ra8).up hu1 (Nat.le_refl _)
            have rb_u1 := (rb8).up hu1 (Nat.le_refl _)
            dsimp only
            have su1 : Below w8.heap.size w8 u1 := hu1
            refine hK.out _ _ su1 (fun hHeld => ?_)
            clear hK KK
            try simp only [Act.put, List.setIfInBounds_toArray, List.set_cons_zero, List.set_cons_succ, List.getElem_toArray, List.getElem_cons_zero, List.getElem_cons_succ]
            refine wpAnyH_ready (rs := [3]) (by kernel_rfl) (by simp) ?_
            refine AllReadyH.cons rfl (fun KK hK => ?_) AllReadyH.nil
            go_simp
            go_at_call 9
            with_reducible refine (of12_c K T C' S' u1).mono ?_
            rintro e u2 ⟨rfl, hu2⟩
            have b_u2 := bchain b_u1 hu2
            have B_u2 := (B_u1).up hu2
            have P_u2 := (P_u1).up hu2
            have ra_u2 := (ra_u1).up hu2 (Nat.le_refl _)
            have rb_u2 := (rb_u1).up hu2 (Nat.le_refl _)
            dsimp only
            have su2 : Below w8.heap.size w8 u2 := bchain su1 hu2
            refine hK.out _ _ su2 (fun hHeld => ?_)
            clear hK KK
            try simp only [Act.put, List.setIfInBounds_toArray, List.set_cons_zero, List.set_cons_succ, List.getElem_toArray, List.getElem_cons_zero, List.getElem_cons_succ]
            refine wpAnyH_ready (rs := [4]) (by kernel_rfl) (by simp) ?_
            refine AllReadyH.cons rfl (fun KK hK => ?_) AllReadyH.nil
            go_simp
            go_at_call 16
            with_reducible refine (same12_c K T C S K T C' S' u2).mono ?_
            rintro e u3 ⟨rfl, hu3⟩
            have b_u3 := bchain b_u2 hu3
            have B_u3 := (B_u2).up hu3
            have P_u3 := (P_u2).up hu3
            have ra_u3 := (ra_u2).up hu3 (Nat.le_refl _)
            have rb_u3 := (rb_u2).up hu3 (Nat.le_refl _)
            dsimp only
            have su3 : Below w8.heap.size w8 u3 := bchain su2 hu3
            refine hK.out _ _ su3 (fun hHeld => ?_)
            clear hK KK
            try simp only [Act.put, List.setIfInBounds_toArray, List.set_cons_zero, List.set_cons_succ, List.getElem_toArray, List.getElem_cons_zero, List.getElem_cons_succ]
            refine wpAnyH_take (i := 10) (v := ?_) rfl (by kernel_rfl) (by kernel_rfl) (by kernel_rfl) (fun _ _ _ h => h) (Or.inl ⟨by rfl, fun v hv => ?_⟩) (by with_reducible assumption) ?_
            rotate_left
            · go_simp
              try with_reducible rfl
            simp only [Act.put, List.setIfInBounds_toArray, List.set_cons_zero, List.set_cons_succ, List.getElem_toArray, List.getElem_cons_zero, List.getElem_cons_succ]
            refine wpAnyH_take (i := 11) (v := ?_) rfl (by kernel_rfl) (by kernel_rfl) (by kernel_rfl) (fun _ _ _ h => h) (Or.inl ⟨by rfl, fun v hv => ?_⟩) (by with_reducible assumption) ?_
            rotate_left
            · go_simp
              try with_reducible rfl
            simp only [Act.put, List.setIfInBounds_toArray, List.set_cons_zero, List.set_cons_succ, List.getElem_toArray, List.getElem_cons_zero, List.getElem_cons_succ]
            refine wpAnyH_take (i := 12) (v := ?_) rfl (by kernel_rfl) (by kernel_rfl) (by kernel_rfl) (fun _ _ _ h => h) (Or.inl ⟨by rfl, fun v hv => ?_⟩) (by with_reducible assumption) ?_
            rotate_left
            · have hcc := (B8.up hv).four.2.1
              go_simp
              try with_reducible rfl
            simp only [Act.put, List.setIfInBounds_toArray, List.set_cons_zero, List.set_cons_succ, List.getElem_toArray, List.getElem_cons_zero, List.getElem_cons_succ]
            refine wpAnyH_take (i := 13) (v := ?_) rfl (by kernel_rfl) (by kernel_rfl) (by kernel_rfl) (fun _ _ _ h => h) (Or.inl ⟨by rfl, fun v hv => ?_⟩) (by with_reducible assumption) ?_
            rotate_left
            · go_simp
              try with_reducible rfl
            simp only [Act.put, List.setIfInBounds_toArray, List.set_cons_zero, List.set_cons_succ, List.getElem_toArray, List.getElem_cons_zero, List.getElem_cons_succ]
            refine wpAnyH_take (i := 14) (v := ?_) rfl (by kernel_rfl) (by kernel_rfl) (by kernel_rfl) (fun _ _ _ h => h) (Or.inl ⟨by rfl, fun v hv => ?_⟩) (by with_reducible assumption) ?_
            rotate_left
            · have hcc := (P8.up hv).four.2.1
              go_simp
              try with_reducible rfl
            simp only [Act.put, List.setIfInBounds_toArray, List.set_cons_zero, List.set_cons_succ, List.getElem_toArray, List.getElem_cons_zero, List.getElem_cons_succ]
            refine wpAnyH_take (i := 15) (v := ?_) rfl (by kernel_rfl) (by kernel_rfl) (by kernel_rfl) (fun _ _ _ h => h) (Or.inl ⟨by rfl, fun v hv => ?_⟩) (by with_reducible assumption) ?_
            rotate_left
            · go_simp
              try with_reducible rfl
            simp only [Act.put, List.setIfInBounds_toArray, List.set_cons_zero, List.set_cons_succ, List.getElem_toArray, List.getElem_cons_zero, List.getElem_cons_succ]
            refine wpAnyH_take (i := 16) (v := ?_) rfl (by kernel_rfl) (by kernel_rfl) (by kernel_rfl) (fun _ _ _ h => h) (Or.inl ⟨by rfl, fun v hv => ?_⟩) (by with_reducible assumption) ?_
            rotate_left
            · go_simp
              try with_reducible rfl
            simp only [Act.put, List.setIfInBounds_toArray, List.set_cons_zero, List.set_cons_succ, List.getElem_toArray, List.getElem_cons_zero, List.getElem_cons_succ]
            refine wpAnyH_take (i := 17) (v := ?_) rfl (by kernel_rfl) (by kernel_rfl) (by kernel_rfl) (fun _ _ _ h => h) (Or.inl ⟨by rfl, fun v hv => ?_⟩) (by with_reducible assumption) ?_
            rotate_left
            · go_simp
              try with_reducible rfl
            simp only [Act.put, List.setIfInBounds_toArray, List.set_cons_zero, List.set_cons_succ, List.getElem_toArray, List.getElem_cons_zero, List.getElem_cons_succ]
            refine wpAnyH_take (i := 18) (v := ?_) rfl (by kernel_rfl) (by kernel_rfl) (by kernel_rfl) (fun _ _ _ h => h) (Or.inl ⟨by rfl, fun v hv => ?_⟩) (by with_reducible assumption) ?_
            rotate_left
            · go_simp
              try with_reducible rfl
            simp only [Act.put, List.setIfInBounds_toArray, List.set_cons_zero, List.set_cons_succ, List.getElem_toArray, List.getElem_cons_zero, List.getElem_cons_succ]
            refine wpAnyH_take (i := 19) (v := ?_) rfl (by kernel_rfl) (by kernel_rfl) (by kernel_rfl) (fun _ _ _ h => h) (Or.inl ⟨by rfl, fun v hv => ?_⟩) (by with_reducible assumption) ?_
            rotate_left
            · have hcc := (B8.up hv).four.2.2.1
              go_simp
              try with_reducible rfl
            simp only [Act.put, List.setIfInBounds_toArray, List.set_cons_zero, List.set_cons_succ, List.getElem_toArray, List.getElem_cons_zero, List.getElem_cons_succ]
            refine wpAnyH_take (i := 20) (v := ?_) rfl (by kernel_rfl) (by kernel_rfl) (by kernel_rfl) (fun _ _ _ h => h) (Or.inl ⟨by rfl, fun v hv => ?_⟩) (by with_reducible assumption) ?_
            rotate_left
            · go_simp
              try with_reducible rfl
            simp only [Act.put, List.setIfInBounds_toArray, List.set_cons_zero, List.set_cons_succ, List.getElem_toArray, List.getElem_cons_zero, List.getElem_cons_succ]
            refine wpAnyH_take (i := 21) (v := ?_) rfl (by kernel_rfl) (by kernel_rfl) (by kernel_rfl) (fun _ _ _ h => h) (Or.inl ⟨by rfl, fun v hv => ?_⟩) (by with_reducible assumption) ?_
            rotate_left
            · have hcc := (P8.up hv).four.2.2.1
              go_simp
              try with_reducible rfl
            simp only [Act.put, List.setIfInBounds_toArray, List.set_cons_zero, List.set_cons_succ, List.getElem_toArray, List.getElem_cons_zero, List.getElem_cons_succ]
            refine wpAnyH_take (i := 22) (v := ?_) rfl (by kernel_rfl) (by kernel_rfl) (by kernel_rfl) (fun _ _ _ h => h) (Or.inl ⟨by rfl, fun v hv => ?_⟩) (by with_reducible assumption) ?_
            rotate_left
            · go_simp
              try with_reducible rfl
            simp only [Act.put, List.setIfInBounds_toArray, List.set_cons_zero, List.set_cons_succ, List.getElem_toArray, List.getElem_cons_zero, List.getElem_cons_succ]
            refine wpAnyH_take (i := 23) (v := ?_) rfl (by kernel_rfl) (by kernel_rfl) (by kernel_rfl) (fun _ _ _ h => h) (Or.inl ⟨by rfl, fun v hv => ?_⟩) (by with_reducible assumption) ?_
            rotate_left
            · go_simp
              try with_reducible rfl
            simp only [Act.put, List.setIfInBounds_toArray, List.set_cons_zero, List.set_cons_succ, List.getElem_toArray, List.getElem_cons_zero, List.getElem_cons_succ]
            refine wpAnyH_take (i := 24) (v := ?_) rfl (by kernel_rfl) (by kernel_rfl) (by kernel_rfl) (fun _ _ _ h => h) (Or.inl ⟨by rfl, fun v hv => ?_⟩) (by with_reducible assumption) ?_
            rotate_left
            · go_simp
              try with_reducible rfl
            simp only [Act.put, List.setIfInBounds_toArray, List.set_cons_zero, List.set_cons_succ, List.getElem_toArray, List.getElem_cons_zero, List.getElem_cons_succ]
            refine wpAnyH_done (by kernel_rfl) ?_ _
            have b9 := b_u3
            have B9 := B_u3
            have P9 := P_u3
            have ra9 := ra_u3
            have rb9 := rb_u3
            clear hHeld
            go_wp2
            have U := unlike_c r0 r1
            have EQ := fun x => eq_ref x K T C K T C' S S'
            obtain ⟨n, hn⟩ : ∃ n, n = min (iE K T C S).length (iE K T C' S').length := ⟨_, rfl⟩
            have hna : n ≤ (iE K T C S).length := by omega
            have hnb : n ≤ (iE K T C' S').length := by omega
            obtain ⟨A1, s1, q1⟩ := cut_h ra9 ca n hna hca (n : Int) rfl
            obtain ⟨A2, s2, q2⟩ := cut_h rb9 cb n hnb hcb (n : Int) rfl
            have V1 : ∀ x, (convert 24 9 (.slice A1 n ca)).run Try.prog (u3.drewN x) = .ok (.string (sb ((iE K T C S).take n))) (u3.drewN x) := fun x => conv_s (q1.drewN x) ca
            have V2 : ∀ x, (convert 24 9 (.slice A2 n cb)).run Try.prog (u3.drewN x) = .ok (.string (sb ((iE K T C' S').take n))) (u3.drewN x) := fun x => conv_s (q2.drewN x) cb
            rw [← hn] at U
            have hm : min ((iE K T C S).length : Int) ((iE K T C' S').length : Int) = (n : Int) := by omega
            rw [hm]
            obtain ⟨x0, x1, x2, x3⟩ := B9.four
            obtain ⟨z0, z1, z2, z3⟩ := P9.four
            clear hm hn hna hnb q1 q2 ra9 rb9
            go_quiet (fail)
            go_wp2
            go_ret
            exact ⟨rfl, below_drewN b9 _⟩
        · subst k0
          have tq : (T == T') = false := by simpa using t0
          have kd : decide (K = K ∧ T = T' ∧ C = C') = false := decide_eq_false (fun h => t0 h.2.1)
          refine wp_region_held_drew (S := fun v => Below w8.heap.size w8 v) (by kernel_rfl) (by rw [← H8.out]; exact Below.refl _ _) (fun hHeld => ?_)
          rw [← H8.out] at *
          refine wpAnyH_take (i := 0) (v := .agg ([.int .i64 K, .int .i64 T, .int .i64 C, .string S]).toArray) rfl (by kernel_rfl) (by kernel_rfl) (by kernel_rfl) (fun _ _ _ h => h) (yieldsIf_load_mid (by rfl) 23 (.tmp 2) rfl (w.heap.size) 0 rfl ([.int .i64 K, .int .i64 T, .int .i64 C, .string S]) _ (fun v hv => (B8.up hv).range) Try.underlying23 rfl sizeR4) (by with_reducible assumption) ?_
          simp only [Act.put, List.setIfInBounds_toArray, List.set_cons_zero, List.set_cons_succ, List.getElem_toArray, List.getElem_cons_zero, List.getElem_cons_succ]
          refine wpAnyH_take (i := 2) (v := .agg ([.int .i64 K, .int .i64 T', .int .i64 C', .string S']).toArray) rfl (by kernel_rfl) (by kernel_rfl) (by kernel_rfl) (fun _ _ _ h => h) (yieldsIf_load_mid (by rfl) 23 (.tmp 3) rfl (w.heap.size + 1) 0 rfl ([.int .i64 K, .int .i64 T', .int .i64 C', .string S']) _ (fun v hv => (P8.up hv).range) Try.underlying23 rfl sizeR4) (by with_reducible assumption) ?_
          simp only [Act.put, List.setIfInBounds_toArray, List.set_cons_zero, List.set_cons_succ, List.getElem_toArray, List.getElem_cons_zero, List.getElem_cons_succ]
          refine wpAnyH_take (i := 5) (v := ?_) rfl (by kernel_rfl) (by kernel_rfl) (by kernel_rfl) (fun _ _ _ h => h) (Or.inl ⟨by rfl, fun v hv => ?_⟩) (by with_reducible assumption) ?_
          rotate_left
          · go_simp
            try with_reducible rfl
          simp only [Act.put, List.setIfInBounds_toArray, List.set_cons_zero, List.set_cons_succ, List.getElem_toArray, List.getElem_cons_zero, List.getElem_cons_succ]
          refine wpAnyH_take (i := 6) (v := ?_) rfl (by kernel_rfl) (by kernel_rfl) (by kernel_rfl) (fun _ _ _ h => h) (Or.inl ⟨by rfl, fun v hv => ?_⟩) (by with_reducible assumption) ?_
          rotate_left
          · have hcc := (B8.up hv).four.1
            go_simp
            try with_reducible rfl
          simp only [Act.put, List.setIfInBounds_toArray, List.set_cons_zero, List.set_cons_succ, List.getElem_toArray, List.getElem_cons_zero, List.getElem_cons_succ]
          refine wpAnyH_take (i := 7) (v := ?_) rfl (by kernel_rfl) (by kernel_rfl) (by kernel_rfl) (fun _ _ _ h => h) (Or.inl ⟨by rfl, fun v hv => ?_⟩) (by with_reducible assumption) ?_
          rotate_left
          · go_simp
            try with_reducible rfl
          simp only [Act.put, List.setIfInBounds_toArray, List.set_cons_zero, List.set_cons_succ, List.getElem_toArray, List.getElem_cons_zero, List.getElem_cons_succ]
          refine wpAnyH_take (i := 8) (v := ?_) rfl (by kernel_rfl) (by kernel_rfl) (by kernel_rfl) (fun _ _ _ h => h) (Or.inl ⟨by rfl, fun v hv => ?_⟩) (by with_reducible assumption) ?_
          rotate_left
          · have hcc := (P8.up hv).four.1
            go_simp
            try with_reducible rfl
          simp only [Act.put, List.setIfInBounds_toArray, List.set_cons_zero, List.set_cons_succ, List.getElem_toArray, List.getElem_cons_zero, List.getElem_cons_succ]
          refine wpAnyH_take (i := 9) (v := ?_) rfl (by kernel_rfl) (by kernel_rfl) (by kernel_rfl) (fun _ _ _ h => h) (Or.inl ⟨by rfl, fun v hv => ?_⟩) (by with_reducible assumption) ?_
          rotate_left
          · go_simp
            try with_reducible rfl
          simp only [Act.put, List.setIfInBounds_toArray, List.set_cons_zero, List.set_cons_succ, List.getElem_toArray, List.getElem_cons_zero, List.getElem_cons_succ]
          refine wpAnyH_ready (rs := [1]) (by kernel_rfl) (by simp) ?_
          refine AllReadyH.cons rfl (fun KK hK => ?_) AllReadyH.nil
          go_simp
          go_at_call 9
          with_reducible refine (of12_c K T C S w8).mono ?_
          rintro e u1 ⟨rfl, hu1⟩
          have b_u1 := bchain b8 hu1
          have B_u1 := (B8).up hu1
          have P_u1 := (P8).up hu1
          have ra_u1 := (ra8).up hu1 (Nat.le_refl _)
          have rb_u1 := (rb8).up hu1 (Nat.le_refl _)
          dsimp only
          have su1 : Below w8.heap.size w8 u1 := hu1
          refine hK.out _ _ su1 (fun hHeld => ?_)
          clear hK KK
          try simp only [Act.put, List.setIfInBounds_toArray, List.set_cons_zero, List.set_cons_succ, List.getElem_toArray, List.getElem_cons_zero, List.getElem_cons_succ]
          refine wpAnyH_ready (rs := [3]) (by kernel_rfl) (by simp) ?_
          refine AllReadyH.cons rfl (fun KK hK => ?_) AllReadyH.nil
          go_simp
          go_at_call 9
          with_reducible refine (of12_c K T' C' S' u1).mono ?_
          rintro e u2 ⟨rfl, hu2⟩
          have b_u2 := bchain b_u1 hu2
          have B_u2 := (B_u1).up hu2
          have P_u2 := (P_u1).up hu2
          have ra_u2 := (ra_u1).up hu2 (Nat.le_refl _)
          have rb_u2 := (rb_u1).up hu2 (Nat.le_refl _)
          dsimp only
          have su2 : Below w8.heap.size w8 u2 := bchain su1 hu2
          refine hK.out _ _ su2 (fun hHeld => ?_)
          clear hK KK
          try simp only [Act.put, List.setIfInBounds_toArray, List.set_cons_zero, List.set_cons_succ, List.getElem_toArray, List.getElem_cons_zero, List.getElem_cons_succ]
          refine wpAnyH_ready (rs := [4]) (by kernel_rfl) (by simp) ?_
          refine AllReadyH.cons rfl (fun KK hK => ?_) AllReadyH.nil
          go_simp
          go_at_call 16
          with_reducible refine (same12_c K T C S K T' C' S' u2).mono ?_
          rintro e u3 ⟨rfl, hu3⟩
          have b_u3 := bchain b_u2 hu3
          have B_u3 := (B_u2).up hu3
          have P_u3 := (P_u2).up hu3
          have ra_u3 := (ra_u2).up hu3 (Nat.le_refl _)
          have rb_u3 := (rb_u2).up hu3 (Nat.le_refl _)
          dsimp only
          have su3 : Below w8.heap.size w8 u3 := bchain su2 hu3
          refine hK.out _ _ su3 (fun hHeld => ?_)
          clear hK KK
          try simp only [Act.put, List.setIfInBounds_toArray, List.set_cons_zero, List.set_cons_succ, List.getElem_toArray, List.getElem_cons_zero, List.getElem_cons_succ]
          refine wpAnyH_take (i := 10) (v := ?_) rfl (by kernel_rfl) (by kernel_rfl) (by kernel_rfl) (fun _ _ _ h => h) (Or.inl ⟨by rfl, fun v hv => ?_⟩) (by with_reducible assumption) ?_
          rotate_left
          · go_simp
            try with_reducible rfl
          simp only [Act.put, List.setIfInBounds_toArray, List.set_cons_zero, List.set_cons_succ, List.getElem_toArray, List.getElem_cons_zero, List.getElem_cons_succ]
          refine wpAnyH_take (i := 11) (v := ?_) rfl (by kernel_rfl) (by kernel_rfl) (by kernel_rfl) (fun _ _ _ h => h) (Or.inl ⟨by rfl, fun v hv => ?_⟩) (by with_reducible assumption) ?_
          rotate_left
          · go_simp
            try with_reducible rfl
          simp only [Act.put, List.setIfInBounds_toArray, List.set_cons_zero, List.set_cons_succ, List.getElem_toArray, List.getElem_cons_zero, List.getElem_cons_succ]
          refine wpAnyH_take (i := 12) (v := ?_) rfl (by kernel_rfl) (by kernel_rfl) (by kernel_rfl) (fun _ _ _ h => h) (Or.inl ⟨by rfl, fun v hv => ?_⟩) (by with_reducible assumption) ?_
          rotate_left
          · have hcc := (B8.up hv).four.2.1
            go_simp
            try with_reducible rfl
          simp only [Act.put, List.setIfInBounds_toArray, List.set_cons_zero, List.set_cons_succ, List.getElem_toArray, List.getElem_cons_zero, List.getElem_cons_succ]
          refine wpAnyH_take (i := 13) (v := ?_) rfl (by kernel_rfl) (by kernel_rfl) (by kernel_rfl) (fun _ _ _ h => h) (Or.inl ⟨by rfl, fun v hv => ?_⟩) (by with_reducible assumption) ?_
          rotate_left
          · go_simp
            try with_reducible rfl
          simp only [Act.put, List.setIfInBounds_toArray, List.set_cons_zero, List.set_cons_succ, List.getElem_toArray, List.getElem_cons_zero, List.getElem_cons_succ]
          refine wpAnyH_take (i := 14) (v := ?_) rfl (by kernel_rfl) (by kernel_rfl) (by kernel_rfl) (fun _ _ _ h => h) (Or.inl ⟨by rfl, fun v hv => ?_⟩) (by with_reducible assumption) ?_
          rotate_left
          · have hcc := (P8.up hv).four.2.1
            go_simp
            try with_reducible rfl
          simp only [Act.put, List.setIfInBounds_toArray, List.set_cons_zero, List.set_cons_succ, List.getElem_toArray, List.getElem_cons_zero, List.getElem_cons_succ]
          refine wpAnyH_take (i := 15) (v := ?_) rfl (by kernel_rfl) (by kernel_rfl) (by kernel_rfl) (fun _ _ _ h => h) (Or.inl ⟨by rfl, fun v hv => ?_⟩) (by with_reducible assumption) ?_
          rotate_left
          · go_simp
            try with_reducible rfl
          simp only [Act.put, List.setIfInBounds_toArray, List.set_cons_zero, List.set_cons_succ, List.getElem_toArray, List.getElem_cons_zero, List.getElem_cons_succ]
          refine wpAnyH_take (i := 16) (v := ?_) rfl (by kernel_rfl) (by kernel_rfl) (by kernel_rfl) (fun _ _ _ h => h) (Or.inl ⟨by rfl, fun v hv => ?_⟩) (by with_reducible assumption) ?_
          rotate_left
          · go_simp
            try with_reducible rfl
          simp only [Act.put, List.setIfInBounds_toArray, List.set_cons_zero, List.set_cons_succ, List.getElem_toArray, List.getElem_cons_zero, List.getElem_cons_succ]
          refine wpAnyH_take (i := 17) (v := ?_) rfl (by kernel_rfl) (by kernel_rfl) (by kernel_rfl) (fun _ _ _ h => h) (Or.inl ⟨by rfl, fun v hv => ?_⟩) (by with_reducible assumption) ?_
          rotate_left
          · go_simp
            try with_reducible rfl
          simp only [Act.put, List.setIfInBounds_toArray, List.set_cons_zero, List.set_cons_succ, List.getElem_toArray, List.getElem_cons_zero, List.getElem_cons_succ]
          refine wpAnyH_take (i := 18) (v := undef) rfl (by kernel_rfl) (by kernel_rfl) (by kernel_rfl) (fun _ _ _ h => h) (Or.inr ⟨by rfl, rfl⟩) (by with_reducible assumption) ?_
          simp only [Act.put, List.setIfInBounds_toArray, List.set_cons_zero, List.set_cons_succ, List.getElem_toArray, List.getElem_cons_zero, List.getElem_cons_succ]
          refine wpAnyH_take (i := 19) (v := undef) rfl (by kernel_rfl) (by kernel_rfl) (by kernel_rfl) (fun _ _ _ h => h) (Or.inr ⟨by rfl, rfl⟩) (by with_reducible assumption) ?_
          simp only [Act.put, List.setIfInBounds_toArray, List.set_cons_zero, List.set_cons_succ, List.getElem_toArray, List.getElem_cons_zero, List.getElem_cons_succ]
          refine wpAnyH_take (i := 20) (v := undef) rfl (by kernel_rfl) (by kernel_rfl) (by kernel_rfl) (fun _ _ _ h => h) (Or.inr ⟨by rfl, rfl⟩) (by with_reducible assumption) ?_
          simp only [Act.put, List.setIfInBounds_toArray, List.set_cons_zero, List.set_cons_succ, List.getElem_toArray, List.getElem_cons_zero, List.getElem_cons_succ]
          refine wpAnyH_take (i := 21) (v := undef) rfl (by kernel_rfl) (by kernel_rfl) (by kernel_rfl) (fun _ _ _ h => h) (Or.inr ⟨by rfl, rfl⟩) (by with_reducible assumption) ?_
          simp only [Act.put, List.setIfInBounds_toArray, List.set_cons_zero, List.set_cons_succ, List.getElem_toArray, List.getElem_cons_zero, List.getElem_cons_succ]
          refine wpAnyH_take (i := 22) (v := undef) rfl (by kernel_rfl) (by kernel_rfl) (by kernel_rfl) (fun _ _ _ h => h) (Or.inr ⟨by rfl, rfl⟩) (by with_reducible assumption) ?_
          simp only [Act.put, List.setIfInBounds_toArray, List.set_cons_zero, List.set_cons_succ, List.getElem_toArray, List.getElem_cons_zero, List.getElem_cons_succ]
          refine wpAnyH_take (i := 23) (v := ?_) rfl (by kernel_rfl) (by kernel_rfl) (by kernel_rfl) (fun _ _ _ h => h) (Or.inl ⟨by rfl, fun v hv => ?_⟩) (by with_reducible assumption) ?_
          rotate_left
          · go_simp
            try with_reducible rfl
          simp only [Act.put, List.setIfInBounds_toArray, List.set_cons_zero, List.set_cons_succ, List.getElem_toArray, List.getElem_cons_zero, List.getElem_cons_succ]
          refine wpAnyH_take (i := 24) (v := ?_) rfl (by kernel_rfl) (by kernel_rfl) (by kernel_rfl) (fun _ _ _ h => h) (Or.inl ⟨by rfl, fun v hv => ?_⟩) (by with_reducible assumption) ?_
          rotate_left
          · go_simp
            try with_reducible rfl
          simp only [Act.put, List.setIfInBounds_toArray, List.set_cons_zero, List.set_cons_succ, List.getElem_toArray, List.getElem_cons_zero, List.getElem_cons_succ]
          refine wpAnyH_done (by kernel_rfl) ?_ _
          have b9 := b_u3
          have B9 := B_u3
          have P9 := P_u3
          have ra9 := ra_u3
          have rb9 := rb_u3
          clear hHeld
          go_wp2
          have U := unlike_c r0 r1
          have EQ := fun x => eq_ref x K T C K T' C' S S'
          obtain ⟨n, hn⟩ : ∃ n, n = min (iE K T C S).length (iE K T' C' S').length := ⟨_, rfl⟩
          have hna : n ≤ (iE K T C S).length := by omega
          have hnb : n ≤ (iE K T' C' S').length := by omega
          obtain ⟨A1, s1, q1⟩ := cut_h ra9 ca n hna hca (n : Int) rfl
          obtain ⟨A2, s2, q2⟩ := cut_h rb9 cb n hnb hcb (n : Int) rfl
          have V1 : ∀ x, (convert 24 9 (.slice A1 n ca)).run Try.prog (u3.drewN x) = .ok (.string (sb ((iE K T C S).take n))) (u3.drewN x) := fun x => conv_s (q1.drewN x) ca
          have V2 : ∀ x, (convert 24 9 (.slice A2 n cb)).run Try.prog (u3.drewN x) = .ok (.string (sb ((iE K T' C' S').take n))) (u3.drewN x) := fun x => conv_s (q2.drewN x) cb
          rw [← hn] at U
          have hm : min ((iE K T C S).length : Int) ((iE K T' C' S').length : Int) = (n : Int) := by omega
          rw [hm]
          obtain ⟨x0, x1, x2, x3⟩ := B9.four
          obtain ⟨z0, z1, z2, z3⟩ := P9.four
          clear hm hn hna hnb q1 q2 ra9 rb9
          go_quiet (fail)
          go_wp2
          go_ret
          exact ⟨rfl, below_drewN b9 _⟩
      · have kq : (K == K') = false := by simpa using k0
        have kd : decide (K = K' ∧ T = T' ∧ C = C') = false := decide_eq_false (fun h => k0 h.1)
        refine wp_region_held_drew (S := fun v => Below w8.heap.size w8 v) (by kernel_rfl) (by rw [← H8.out]; exact Below.refl _ _) (fun hHeld => ?_)
        rw [← H8.out] at *
        refine wpAnyH_take (i := 0) (v := .agg ([.int .i64 K, .int .i64 T, .int .i64 C, .string S]).toArray) rfl (by kernel_rfl) (by kernel_rfl) (by kernel_rfl) (fun _ _ _ h => h) (yieldsIf_load_mid (by rfl) 23 (.tmp 2) rfl (w.heap.size) 0 rfl ([.int .i64 K, .int .i64 T, .int .i64 C, .string S]) _ (fun v hv => (B8.up hv).range) Try.underlying23 rfl sizeR4) (by with_reducible assumption) ?_
        simp only [Act.put, List.setIfInBounds_toArray, List.set_cons_zero, List.set_cons_succ, List.getElem_toArray, List.getElem_cons_zero, List.getElem_cons_succ]
        refine wpAnyH_take (i := 2) (v := .agg ([.int .i64 K', .int .i64 T', .int .i64 C', .string S']).toArray) rfl (by kernel_rfl) (by kernel_rfl) (by kernel_rfl) (fun _ _ _ h => h) (yieldsIf_load_mid (by rfl) 23 (.tmp 3) rfl (w.heap.size + 1) 0 rfl ([.int .i64 K', .int .i64 T', .int .i64 C', .string S']) _ (fun v hv => (P8.up hv).range) Try.underlying23 rfl sizeR4) (by with_reducible assumption) ?_
        simp only [Act.put, List.setIfInBounds_toArray, List.set_cons_zero, List.set_cons_succ, List.getElem_toArray, List.getElem_cons_zero, List.getElem_cons_succ]
        refine wpAnyH_take (i := 5) (v := ?_) rfl (by kernel_rfl) (by kernel_rfl) (by kernel_rfl) (fun _ _ _ h => h) (Or.inl ⟨by rfl, fun v hv => ?_⟩) (by with_reducible assumption) ?_
        rotate_left
        · go_simp
          try with_reducible rfl
        simp only [Act.put, List.setIfInBounds_toArray, List.set_cons_zero, List.set_cons_succ, List.getElem_toArray, List.getElem_cons_zero, List.getElem_cons_succ]
        refine wpAnyH_take (i := 6) (v := ?_) rfl (by kernel_rfl) (by kernel_rfl) (by kernel_rfl) (fun _ _ _ h => h) (Or.inl ⟨by rfl, fun v hv => ?_⟩) (by with_reducible assumption) ?_
        rotate_left
        · have hcc := (B8.up hv).four.1
          go_simp
          try with_reducible rfl
        simp only [Act.put, List.setIfInBounds_toArray, List.set_cons_zero, List.set_cons_succ, List.getElem_toArray, List.getElem_cons_zero, List.getElem_cons_succ]
        refine wpAnyH_take (i := 7) (v := ?_) rfl (by kernel_rfl) (by kernel_rfl) (by kernel_rfl) (fun _ _ _ h => h) (Or.inl ⟨by rfl, fun v hv => ?_⟩) (by with_reducible assumption) ?_
        rotate_left
        · go_simp
          try with_reducible rfl
        simp only [Act.put, List.setIfInBounds_toArray, List.set_cons_zero, List.set_cons_succ, List.getElem_toArray, List.getElem_cons_zero, List.getElem_cons_succ]
        refine wpAnyH_take (i := 8) (v := ?_) rfl (by kernel_rfl) (by kernel_rfl) (by kernel_rfl) (fun _ _ _ h => h) (Or.inl ⟨by rfl, fun v hv => ?_⟩) (by with_reducible assumption) ?_
        rotate_left
        · have hcc := (P8.up hv).four.1
          go_simp
          try with_reducible rfl
        simp only [Act.put, List.setIfInBounds_toArray, List.set_cons_zero, List.set_cons_succ, List.getElem_toArray, List.getElem_cons_zero, List.getElem_cons_succ]
        refine wpAnyH_take (i := 9) (v := ?_) rfl (by kernel_rfl) (by kernel_rfl) (by kernel_rfl) (fun _ _ _ h => h) (Or.inl ⟨by rfl, fun v hv => ?_⟩) (by with_reducible assumption) ?_
        rotate_left
        · go_simp
          try with_reducible rfl
        simp only [Act.put, List.setIfInBounds_toArray, List.set_cons_zero, List.set_cons_succ, List.getElem_toArray, List.getElem_cons_zero, List.getElem_cons_succ]
        refine wpAnyH_ready (rs := [1]) (by kernel_rfl) (by simp) ?_
        refine AllReadyH.cons rfl (fun KK hK => ?_) AllReadyH.nil
        go_simp
        go_at_call 9
        with_reducible refine (of12_c K T C S w8).mono ?_
        rintro e u1 ⟨rfl, hu1⟩
        have b_u1 := bchain b8 hu1
        have B_u1 := (B8).up hu1
        have P_u1 := (P8).up hu1
        have ra_u1 := (ra8).up hu1 (Nat.le_refl _)
        have rb_u1 := (rb8).up hu1 (Nat.le_refl _)
        dsimp only
        have su1 : Below w8.heap.size w8 u1 := hu1
        refine hK.out _ _ su1 (fun hHeld => ?_)
        clear hK KK
        try simp only [Act.put, List.setIfInBounds_toArray, List.set_cons_zero, List.set_cons_succ, List.getElem_toArray, List.getElem_cons_zero, List.getElem_cons_succ]
        refine wpAnyH_ready (rs := [3]) (by kernel_rfl) (by simp) ?_
        refine AllReadyH.cons rfl (fun KK hK => ?_) AllReadyH.nil
        go_simp
        go_at_call 9
        with_reducible refine (of12_c K' T' C' S' u1).mono ?_
        rintro e u2 ⟨rfl, hu2⟩
        have b_u2 := bchain b_u1 hu2
        have B_u2 := (B_u1).up hu2
        have P_u2 := (P_u1).up hu2
        have ra_u2 := (ra_u1).up hu2 (Nat.le_refl _)
        have rb_u2 := (rb_u1).up hu2 (Nat.le_refl _)
        dsimp only
        have su2 : Below w8.heap.size w8 u2 := bchain su1 hu2
        refine hK.out _ _ su2 (fun hHeld => ?_)
        clear hK KK
        try simp only [Act.put, List.setIfInBounds_toArray, List.set_cons_zero, List.set_cons_succ, List.getElem_toArray, List.getElem_cons_zero, List.getElem_cons_succ]
        refine wpAnyH_ready (rs := [4]) (by kernel_rfl) (by simp) ?_
        refine AllReadyH.cons rfl (fun KK hK => ?_) AllReadyH.nil
        go_simp
        go_at_call 16
        with_reducible refine (same12_c K T C S K' T' C' S' u2).mono ?_
        rintro e u3 ⟨rfl, hu3⟩
        have b_u3 := bchain b_u2 hu3
        have B_u3 := (B_u2).up hu3
        have P_u3 := (P_u2).up hu3
        have ra_u3 := (ra_u2).up hu3 (Nat.le_refl _)
        have rb_u3 := (rb_u2).up hu3 (Nat.le_refl _)
        dsimp only
        have su3 : Below w8.heap.size w8 u3 := bchain su2 hu3
        refine hK.out _ _ su3 (fun hHeld => ?_)
        clear hK KK
        try simp only [Act.put, List.setIfInBounds_toArray, List.set_cons_zero, List.set_cons_succ, List.getElem_toArray, List.getElem_cons_zero, List.getElem_cons_succ]
        refine wpAnyH_take (i := 10) (v := ?_) rfl (by kernel_rfl) (by kernel_rfl) (by kernel_rfl) (fun _ _ _ h => h) (Or.inl ⟨by rfl, fun v hv => ?_⟩) (by with_reducible assumption) ?_
        rotate_left
        · go_simp
          try with_reducible rfl
        simp only [Act.put, List.setIfInBounds_toArray, List.set_cons_zero, List.set_cons_succ, List.getElem_toArray, List.getElem_cons_zero, List.getElem_cons_succ]
        refine wpAnyH_take (i := 11) (v := undef) rfl (by kernel_rfl) (by kernel_rfl) (by kernel_rfl) (fun _ _ _ h => h) (Or.inr ⟨by rfl, rfl⟩) (by with_reducible assumption) ?_
        simp only [Act.put, List.setIfInBounds_toArray, List.set_cons_zero, List.set_cons_succ, List.getElem_toArray, List.getElem_cons_zero, List.getElem_cons_succ]
        refine wpAnyH_take (i := 12) (v := undef) rfl (by kernel_rfl) (by kernel_rfl) (by kernel_rfl) (fun _ _ _ h => h) (Or.inr ⟨by rfl, rfl⟩) (by with_reducible assumption) ?_
        simp only [Act.put, List.setIfInBounds_toArray, List.set_cons_zero, List.set_cons_succ, List.getElem_toArray, List.getElem_cons_zero, List.getElem_cons_succ]
        refine wpAnyH_take (i := 13) (v := undef) rfl (by kernel_rfl) (by kernel_rfl) (by kernel_rfl) (fun _ _ _ h => h) (Or.inr ⟨by rfl, rfl⟩) (by with_reducible assumption) ?_
        simp only [Act.put, List.setIfInBounds_toArray, List.set_cons_zero, List.set_cons_succ, List.getElem_toArray, List.getElem_cons_zero, List.getElem_cons_succ]
        refine wpAnyH_take (i := 14) (v := undef) rfl (by kernel_rfl) (by kernel_rfl) (by kernel_rfl) (fun _ _ _ h => h) (Or.inr ⟨by rfl, rfl⟩) (by with_reducible assumption) ?_
        simp only [Act.put, List.setIfInBounds_toArray, List.set_cons_zero, List.set_cons_succ, List.getElem_toArray, List.getElem_cons_zero, List.getElem_cons_succ]
        refine wpAnyH_take (i := 15) (v := undef) rfl (by kernel_rfl) (by kernel_rfl) (by kernel_rfl) (fun _ _ _ h => h) (Or.inr ⟨by rfl, rfl⟩) (by with_reducible assumption) ?_
        simp only [Act.put, List.setIfInBounds_toArray, List.set_cons_zero, List.set_cons_succ, List.getElem_toArray, List.getElem_cons_zero, List.getElem_cons_succ]
        refine wpAnyH_take (i := 16) (v := ?_) rfl (by kernel_rfl) (by kernel_rfl) (by kernel_rfl) (fun _ _ _ h => h) (Or.inl ⟨by rfl, fun v hv => ?_⟩) (by with_reducible assumption) ?_
        rotate_left
        · go_simp
          try with_reducible rfl
        simp only [Act.put, List.setIfInBounds_toArray, List.set_cons_zero, List.set_cons_succ, List.getElem_toArray, List.getElem_cons_zero, List.getElem_cons_succ]
        refine wpAnyH_take (i := 17) (v := ?_) rfl (by kernel_rfl) (by kernel_rfl) (by kernel_rfl) (fun _ _ _ h => h) (Or.inl ⟨by rfl, fun v hv => ?_⟩) (by with_reducible assumption) ?_
        rotate_left
        · go_simp
          try with_reducible rfl
        simp only [Act.put, List.setIfInBounds_toArray, List.set_cons_zero, List.set_cons_succ, List.getElem_toArray, List.getElem_cons_zero, List.getElem_cons_succ]
        refine wpAnyH_take (i := 18) (v := undef) rfl (by kernel_rfl) (by kernel_rfl) (by kernel_rfl) (fun _ _ _ h => h) (Or.inr ⟨by rfl, rfl⟩) (by with_reducible assumption) ?_
        simp only [Act.put, List.setIfInBounds_toArray, List.set_cons_zero, List.set_cons_succ, List.getElem_toArray, List.getElem_cons_zero, List.getElem_cons_succ]
        refine wpAnyH_take (i := 19) (v := undef) rfl (by kernel_rfl) (by kernel_rfl) (by kernel_rfl) (fun _ _ _ h => h) (Or.inr ⟨by rfl, rfl⟩) (by with_reducible assumption) ?_
        simp only [Act.put, List.setIfInBounds_toArray, List.set_cons_zero, List.set_cons_succ, List.getElem_toArray, List.getElem_cons_zero, List.getElem_cons_succ]
        refine wpAnyH_take (i := 20) (v := undef) rfl (by kernel_rfl) (by kernel_rfl) (by kernel_rfl) (fun _ _ _ h => h) (Or.inr ⟨by rfl, rfl⟩) (by with_reducible assumption) ?_
        simp only [Act.put, List.setIfInBounds_toArray, List.set_cons_zero, List.set_cons_succ, List.getElem_toArray, List.getElem_cons_zero, List.getElem_cons_succ]
        refine wpAnyH_take (i := 21) (v := undef) rfl (by kernel_rfl) (by kernel_rfl) (by kernel_rfl) (fun _ _ _ h => h) (Or.inr ⟨by rfl, rfl⟩) (by with_reducible assumption) ?_
        simp only [Act.put, List.setIfInBounds_toArray, List.set_cons_zero, List.set_cons_succ, List.getElem_toArray, List.getElem_cons_zero, List.getElem_cons_succ]
        refine wpAnyH_take (i := 22) (v := undef) rfl (by kernel_rfl) (by kernel_rfl) (by kernel_rfl) (fun _ _ _ h => h) (Or.inr ⟨by rfl, rfl⟩) (by with_reducible assumption) ?_
        simp only [Act.put, List.setIfInBounds_toArray, List.set_cons_zero, List.set_cons_succ, List.getElem_toArray, List.getElem_cons_zero, List.getElem_cons_succ]
        refine wpAnyH_take (i := 23) (v := ?_) rfl (by kernel_rfl) (by kernel_rfl) (by kernel_rfl) (fun _ _ _ h => h) (Or.inl ⟨by rfl, fun v hv => ?_⟩) (by with_reducible assumption) ?_
        rotate_left
        · go_simp
          try with_reducible rfl
        simp only [Act.put, List.setIfInBounds_toArray, List.set_cons_zero, List.set_cons_succ, List.getElem_toArray, List.getElem_cons_zero, List.getElem_cons_succ]
        refine wpAnyH_take (i := 24) (v := ?_) rfl (by kernel_rfl) (by kernel_rfl) (by kernel_rfl) (fun _ _ _ h => h) (Or.inl ⟨by rfl, fun v hv => ?_⟩) (by with_reducible assumption) ?_
        rotate_left
        · go_simp
          try with_reducible rfl
        simp only [Act.put, List.setIfInBounds_toArray, List.set_cons_zero, List.set_cons_succ, List.getElem_toArray, List.getElem_cons_zero, List.getElem_cons_succ]
        refine wpAnyH_done (by kernel_rfl) ?_ _
        have b9 := b_u3
        have B9 := B_u3
        have P9 := P_u3
        have ra9 := ra_u3
        have rb9 := rb_u3
        clear hHeld
        go_wp2
        have U := unlike_c r0 r1
        have EQ := fun x => eq_ref x K T C K' T' C' S S'
        obtain ⟨n, hn⟩ : ∃ n, n = min (iE K T C S).length (iE K' T' C' S').length := ⟨_, rfl⟩
        have hna : n ≤ (iE K T C S).length := by omega
        have hnb : n ≤ (iE K' T' C' S').length := by omega
        obtain ⟨A1, s1, q1⟩ := cut_h ra9 ca n hna hca (n : Int) rfl
        obtain ⟨A2, s2, q2⟩ := cut_h rb9 cb n hnb hcb (n : Int) rfl
        have V1 : ∀ x, (convert 24 9 (.slice A1 n ca)).run Try.prog (u3.drewN x) = .ok (.string (sb ((iE K T C S).take n))) (u3.drewN x) := fun x => conv_s (q1.drewN x) ca
        have V2 : ∀ x, (convert 24 9 (.slice A2 n cb)).run Try.prog (u3.drewN x) = .ok (.string (sb ((iE K' T' C' S').take n))) (u3.drewN x) := fun x => conv_s (q2.drewN x) cb
        rw [← hn] at U
        have hm : min ((iE K T C S).length : Int) ((iE K' T' C' S').length : Int) = (n : Int) := by omega
        rw [hm]
        obtain ⟨x0, x1, x2, x3⟩ := B9.four
        obtain ⟨z0, z1, z2, z3⟩ := P9.four
        clear hm hn hna hnb q1 q2 ra9 rb9
        go_quiet (fail)
        go_wp2
        go_ret
        exact ⟨rfl, below_drewN b9 _⟩
    · have hr : (((ck K' T' C' S'.size : Nat) : Int) == 0) = false := by simp; omega
      generalize ck K' T' C' S'.size = r at *
      go_wp2_with fail
      refine D.mono ?_
      rintro e w3 ⟨rfl, h3⟩
      have b3 := bchain b2 h3
      clear D B2 P2 b2 h3 c0 c1 c2 c3
      go_wp2_with fail
      refine (speaks12_c w3).mono ?_
      rintro e w4 ⟨rfl, h4⟩
      have b4 := bchain b3 h4
      go_wp2
      go_ret
      exact ⟨rfl, b4⟩
  · have hr : (((ck K T C S.size : Nat) : Int) == 0) = false := by simp; omega
    generalize ck K T C S.size = r at *
    go_wp2_with fail
    refine D.mono ?_
    rintro e w2 ⟨rfl, h2⟩
    have b2 := bchain b1 h2
    clear D B1 b1 h2 c0 c1 c2 c3
    go_wp2_with fail
    refine (speaks12_c w2).mono ?_
    rintro e w3 ⟨rfl, h3⟩
    have b3 := bchain b2 h3
    go_wp2
    go_ret
    exact ⟨rfl, b3⟩
end Go.Proofs.Ytlgefgoaleggmaa
