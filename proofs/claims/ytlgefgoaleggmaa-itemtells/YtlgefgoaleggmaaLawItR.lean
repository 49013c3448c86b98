/-
  avouchlaw12.ItemReads: the walk.
-/
import Derived.Test.YtlgefgoaleggmaaItK
import Derived.Deep.RegionHeld3
namespace Go.Proofs.Ytlgefgoaleggmaa
open Go.RowKit
set_option linter.unusedVariables false
set_option linter.unusedSimpArgs false

/-- A new variable, with what is stored in it. -/
theorem new_with {w0 w : World} (T : TypeId) (a b c : Int) (s : ByteArray) (h : Below w0.heap.size w0 w) :
    BlkV (w.alloc (.cells #[.int .i64 a, .int .i64 b, .int .i64 c, .string s] T)) w.heap.size T [.int .i64 a, .int .i64 b, .int .i64 c, .string s] ∧ Below w0.heap.size w0 (w.alloc (.cells #[.int .i64 a, .int .i64 b, .int .i64 c, .string s] T)) :=
  ⟨BlkV.new w _ _, h.alloc h.size _⟩
theorem eq_ref_same (w : World) (k t c : Int) (s : ByteArray) : (Op.equalIn 10000 23 (.agg #[.int .i64 k, .int .i64 t, .int .i64 c, .string s]) (.agg #[.int .i64 k, .int .i64 t, .int .i64 c, .string s])).run Try.prog w = .ok true w := by
  rw [eq_ref, decide_eq_true ⟨rfl, rfl, rfl, rfl⟩]
set_option maxRecDepth 100000 in
set_option maxHeartbeats 4000000 in
theorem itemReads_w (A : Option Addr) (n c : Nat) (l : List Nat) (w : World) (ha : Rd8 w w.heap.size A n l) (hc : n ≤ c) :
    Calls Try.prog 4 #[.slice A n c] w fun e w' => e = .returned (.bool true) ∧ Below w.heap.size w w' := by
  go_enter Try.func4, Try.ntmps4
  go_wp2_with fail
  refine (speaks12_c w).mono ?_
  rintro e w1 ⟨rfl, b1⟩
  by_cases h7 : 700 < n
  · have h7' : (700 : Int) < (n : Int) := by omega
    go_wp2_with fail
    refine (speaks12_c w1).mono ?_
    rintro e w2 ⟨rfl, h2⟩
    have b2 := bchain b1 h2
    go_wp2
    go_ret
    exact ⟨rfl, b2⟩
  · have h7' : ¬ (700 : Int) < (n : Int) := by omega
    have r1 := ha.below b1 (Nat.le_refl _)
    go_wp2_with fail
    refine (idecode_c A n c l w1 (r1.more b1.size) hc (by omega)).mono ?_
    rintro e w2 ⟨A2, m2, c2, rfl, q2, h2⟩
    have b2 := bchain b1 h2
    go_wp2_with fail
    obtain ⟨X3, b3⟩ := new_with 29 (dK l : Nat) (dT l : Nat) (dC l : Nat) (sb (dL l)) b2
    have q3 := q2.up ((Below.refl _ _).alloc (Nat.le_refl _) (.cells #[.int .i64 (dK l : Nat), .int .i64 (dT l : Nat), .int .i64 (dC l : Nat), .string (sb (dL l))] 29)) (Nat.le_refl _)
    generalize hw3 : w2.alloc (.cells #[.int .i64 (dK l : Nat), .int .i64 (dT l : Nat), .int .i64 (dC l : Nat), .string (sb (dL l))] 29) = w3 at *
    generalize hx3 : w2.heap.size = x3 at *
    clear hw3 hx3
    have r3 := ha.below b3 (Nat.le_refl _)
    refine (rdecode_c A n c l w3 (r3.more b3.size) hc (by omega)).mono ?_
    rintro e w4 ⟨A4, m4, c4, rfl, q4, h4⟩
    have b4 := bchain b3 h4
    have X4 : BlkV w4 x3 29 [.int .i64 (dK l : Nat), .int .i64 (dT l : Nat), .int .i64 (dC l : Nat), .string (sb (dL l))] := BlkV.up X3 h4
    have p4 := q3.up h4 (Nat.le_refl _)
    go_wp2
    obtain ⟨Y5, b5⟩ := new_with 23 (dK l : Nat) (dT l : Nat) (dC l : Nat) (sb (dL l)) b4
    have g5 := (Below.refl w4.heap.size w4).alloc (Nat.le_refl _) (.cells #[.int .i64 (dK l : Nat), .int .i64 (dT l : Nat), .int .i64 (dC l : Nat), .string (sb (dL l))] 23)
    have X5 := X4.up g5
    have p5 := p4.up g5 (Nat.le_refl _)
    have q5 := q4.up g5 (Nat.le_refl _)
    generalize hw5 : w4.alloc (.cells #[.int .i64 (dK l : Nat), .int .i64 (dT l : Nat), .int .i64 (dC l : Nat), .string (sb (dL l))] 23) = w5 at *
    generalize hx5 : w4.heap.size = x5 at *
    clear hw5 hx5 X3 X4 q3 p4 q2 q4 g5 h4 h2 b4 b3 b2
    have b6 := b5.drew
    have X6 := X5.drew
    have Y6 := Y5.drew
    have p6 : Rd8 w5.drew w5.drew.heap.size A2 m2 (dR l) := p5.drewN 1
    have q6 : Rd8 w5.drew w5.drew.heap.size A4 m4 (dR l) := q5.drewN 1
    have r6 : Rd8 w5.drew w5.drew.heap.size A n l := (ha.below b6 (Nat.le_refl _)).more b6.size
    generalize hw6 : w5.drew = w6 at *
    have hS : Below w6.heap.size w6 w5.drew := by rw [hw6]; exact Below.refl _ _
    clear X5 Y5 p5 q5 b5
    refine wp_region_held_drew (S := fun v => Below w6.heap.size w6 v) (by kernel_rfl) hS (fun hHeld => ?_)
    rw [hw6] at *
    clear hw6
    refine wpAnyH_take (i := 0) (v := ?_) rfl (by kernel_rfl) (by kernel_rfl) (by kernel_rfl) (fun _ _ _ h => h) (Or.inl ⟨by rfl, fun v hv => ?_⟩) (by with_reducible assumption) ?_
    rotate_left
    · go_simp
      try with_reducible rfl
    simp only [Act.put, List.setIfInBounds_toArray, List.set_cons_zero, List.set_cons_succ, List.getElem_toArray, List.getElem_cons_zero, List.getElem_cons_succ]
    refine wpAnyH_take (i := 1) (v := ?_) rfl (by kernel_rfl) (by kernel_rfl) (by kernel_rfl) (fun _ _ _ h => h) (Or.inl ⟨by rfl, fun v hv => ?_⟩) (by with_reducible assumption) ?_
    rotate_left
    · go_simp
      try with_reducible rfl
    simp only [Act.put, List.setIfInBounds_toArray, List.set_cons_zero, List.set_cons_succ, List.getElem_toArray, List.getElem_cons_zero, List.getElem_cons_succ]
    refine wpAnyH_take (i := 2) (v := ?_) rfl (by kernel_rfl) (by kernel_rfl) (by kernel_rfl) (fun _ _ _ h => h) (Or.inl ⟨by rfl, fun v hv => ?_⟩) (by with_reducible assumption) ?_
    rotate_left
    · go_simp
      try with_reducible rfl
    simp only [Act.put, List.setIfInBounds_toArray, List.set_cons_zero, List.set_cons_succ, List.getElem_toArray, List.getElem_cons_zero, List.getElem_cons_succ]
    refine wpAnyH_take (i := 3) (v := ?_) rfl (by kernel_rfl) (by kernel_rfl) (by kernel_rfl) (fun _ _ _ h => h) (Or.inl ⟨by rfl, fun v hv => ?_⟩) (by with_reducible assumption) ?_
    rotate_left
    · go_simp
      try with_reducible rfl
    simp only [Act.put, List.setIfInBounds_toArray, List.set_cons_zero, List.set_cons_succ, List.getElem_toArray, List.getElem_cons_zero, List.getElem_cons_succ]
    refine wpAnyH_take (i := 4) (v := .agg ([.int .i64 (dK l : Nat), .int .i64 (dT l : Nat), .int .i64 (dC l : Nat), .string (sb (dL l))]).toArray) rfl (by kernel_rfl) (by kernel_rfl) (by kernel_rfl) (fun _ _ _ h => h) (yieldsIf_load_mid (by rfl) 29 (.tmp 3) rfl (x3) 0 rfl ([.int .i64 (dK l : Nat), .int .i64 (dT l : Nat), .int .i64 (dC l : Nat), .string (sb (dL l))]) _ (fun v hv => (X6.up hv).range) Try.underlying29 rfl sizeI4) (by with_reducible assumption) ?_
    simp only [Act.put, List.setIfInBounds_toArray, List.set_cons_zero, List.set_cons_succ, List.getElem_toArray, List.getElem_cons_zero, List.getElem_cons_succ]
    refine wpAnyH_take (i := 6) (v := .agg ([.int .i64 (dK l : Nat), .int .i64 (dT l : Nat), .int .i64 (dC l : Nat), .string (sb (dL l))]).toArray) rfl (by kernel_rfl) (by kernel_rfl) (by kernel_rfl) (fun _ _ _ h => h) (yieldsIf_load_mid (by rfl) 23 (.tmp 6) rfl (x5) 0 rfl ([.int .i64 (dK l : Nat), .int .i64 (dT l : Nat), .int .i64 (dC l : Nat), .string (sb (dL l))]) _ (fun v hv => (Y6.up hv).range) Try.underlying23 rfl sizeR4) (by with_reducible assumption) ?_
    simp only [Act.put, List.setIfInBounds_toArray, List.set_cons_zero, List.set_cons_succ, List.getElem_toArray, List.getElem_cons_zero, List.getElem_cons_succ]
    refine wpAnyH_ready (rs := [5]) (by kernel_rfl) (by simp) ?_
    refine AllReadyH.cons rfl (fun KK hK => ?_) AllReadyH.nil
    go_simp
    go_at_call 13
    with_reducible refine (to12_c (dK l : Nat) (dT l : Nat) (dC l : Nat) (sb (dL l)) w6).mono ?_
    rintro e u1 ⟨rfl, hu1⟩
    have b_u1 := bchain b6 hu1
    have X_u1 := (X6).up hu1
    have rp_u1 := (p6).up hu1 (Nat.le_refl _)
    have rr_u1 := (r6).up hu1 (Nat.le_refl _)
    dsimp only
    have su1 : Below w6.heap.size w6 u1 := hu1
    refine hK.out _ _ su1 (fun hHeld => ?_)
    clear hK KK
    try simp only [Act.put, List.setIfInBounds_toArray, List.set_cons_zero, List.set_cons_succ, List.getElem_toArray, List.getElem_cons_zero, List.getElem_cons_succ]
    refine wpAnyH_take (i := 7) (v := ?_) rfl (by kernel_rfl) (by kernel_rfl) (by kernel_rfl) (fun _ _ _ h => h) (Or.inl ⟨by rfl, fun v hv => ?_⟩) (by with_reducible assumption) ?_
    rotate_left
    · have hcc := eq_ref_same v (dK l : Nat) (dT l : Nat) (dC l : Nat) (sb (dL l))
      go_simp
      try with_reducible rfl
    simp only [Act.put, List.setIfInBounds_toArray, List.set_cons_zero, List.set_cons_succ, List.getElem_toArray, List.getElem_cons_zero, List.getElem_cons_succ]
    refine wpAnyH_take (i := 8) (v := ?_) rfl (by kernel_rfl) (by kernel_rfl) (by kernel_rfl) (fun _ _ _ h => h) (Or.inl ⟨by rfl, fun v hv => ?_⟩) (by with_reducible assumption) ?_
    rotate_left
    · go_simp
      try with_reducible rfl
    simp only [Act.put, List.setIfInBounds_toArray, List.set_cons_zero, List.set_cons_succ, List.getElem_toArray, List.getElem_cons_zero, List.getElem_cons_succ]
    refine wpAnyH_take (i := 9) (v := ?_) rfl (by kernel_rfl) (by kernel_rfl) (by kernel_rfl) (fun _ _ _ h => h) (Or.inl ⟨by rfl, fun v hv => ?_⟩) (by with_reducible assumption) ?_
    rotate_left
    · go_simp
      try with_reducible rfl
    simp only [Act.put, List.setIfInBounds_toArray, List.set_cons_zero, List.set_cons_succ, List.getElem_toArray, List.getElem_cons_zero, List.getElem_cons_succ]
    refine wpAnyH_take (i := 10) (v := ?_) rfl (by kernel_rfl) (by kernel_rfl) (by kernel_rfl) (fun _ _ _ h => h) (Or.inl ⟨by rfl, fun v hv => ?_⟩) (by with_reducible assumption) ?_
    rotate_left
    · go_simp
      try with_reducible rfl
    simp only [Act.put, List.setIfInBounds_toArray, List.set_cons_zero, List.set_cons_succ, List.getElem_toArray, List.getElem_cons_zero, List.getElem_cons_succ]
    refine wpAnyH_take (i := 11) (v := ?_) rfl (by kernel_rfl) (by kernel_rfl) (by kernel_rfl) (fun _ _ _ h => h) (Or.inl ⟨by rfl, fun v hv => ?_⟩) (by with_reducible assumption) ?_
    rotate_left
    · have hcc := conv_s (p6.up hv (Nat.le_refl _)) c2
      go_simp
      try with_reducible rfl
    simp only [Act.put, List.setIfInBounds_toArray, List.set_cons_zero, List.set_cons_succ, List.getElem_toArray, List.getElem_cons_zero, List.getElem_cons_succ]
    refine wpAnyH_take (i := 12) (v := ?_) rfl (by kernel_rfl) (by kernel_rfl) (by kernel_rfl) (fun _ _ _ h => h) (Or.inl ⟨by rfl, fun v hv => ?_⟩) (by with_reducible assumption) ?_
    rotate_left
    · go_simp
      try with_reducible rfl
    simp only [Act.put, List.setIfInBounds_toArray, List.set_cons_zero, List.set_cons_succ, List.getElem_toArray, List.getElem_cons_zero, List.getElem_cons_succ]
    refine wpAnyH_take (i := 13) (v := ?_) rfl (by kernel_rfl) (by kernel_rfl) (by kernel_rfl) (fun _ _ _ h => h) (Or.inl ⟨by rfl, fun v hv => ?_⟩) (by with_reducible assumption) ?_
    rotate_left
    · have hcc := conv_s (q6.up hv (Nat.le_refl _)) c4
      go_simp
      try with_reducible rfl
    simp only [Act.put, List.setIfInBounds_toArray, List.set_cons_zero, List.set_cons_succ, List.getElem_toArray, List.getElem_cons_zero, List.getElem_cons_succ]
    refine wpAnyH_take (i := 14) (v := ?_) rfl (by kernel_rfl) (by kernel_rfl) (by kernel_rfl) (fun _ _ _ h => h) (Or.inl ⟨by rfl, fun v hv => ?_⟩) (by with_reducible assumption) ?_
    rotate_left
    · go_simp
      try with_reducible rfl
    simp only [Act.put, List.setIfInBounds_toArray, List.set_cons_zero, List.set_cons_succ, List.getElem_toArray, List.getElem_cons_zero, List.getElem_cons_succ]
    refine wpAnyH_take (i := 15) (v := ?_) rfl (by kernel_rfl) (by kernel_rfl) (by kernel_rfl) (fun _ _ _ h => h) (Or.inl ⟨by rfl, fun v hv => ?_⟩) (by with_reducible assumption) ?_
    rotate_left
    · go_simp
      try with_reducible rfl
    simp only [Act.put, List.setIfInBounds_toArray, List.set_cons_zero, List.set_cons_succ, List.getElem_toArray, List.getElem_cons_zero, List.getElem_cons_succ]
    refine wpAnyH_done (by kernel_rfl) ?_ _
    have b7 := b_u1
    have X7 := X_u1
    have p7 := rp_u1
    have r7 := rr_u1
    clear hHeld
    by_cases h0 : decE l = 0
    · obtain ⟨hk, hback⟩ := dec_back ha.lt h0
      have E := iencode_c (dK l : Nat) (dT l : Nat) (dC l : Nat) (sb (dL l)) u1 (by have := (ck_ok hk).2.2.2.2.2.2; omega)
      rw [hk] at E
      rw [h0]
      obtain ⟨x0, x1, x2, x3'⟩ := X7.four
      go_wp2_with fail
      refine E.mono ?_
      rintro e w8 ⟨v8, rfl, O8, h8⟩
      have b8 := bchain b7 h8
      obtain ⟨A8, c8, rfl, hc8, r8⟩ := O8.rd
      have cv1 := conv_s r8 c8
      have cv2 := conv_s (p7.up h8 (Nat.le_refl _)) c2
      have cv3 := conv_s (r7.up h8 (Nat.le_refl _)) c
      have EQ : ((sb (iE (dK l : Nat) (dT l : Nat) (dC l : Nat) (sb (dL l))) ++ sb (dR l)).toList == (sb l).toList) = true := by
        rw [str_eq, bl_add, bl_sb (iE_lt _ _ _ _), bl_sb p7.lt, bl_sb ha.lt, hback]
        exact decide_eq_true rfl
      have hsz : (sb (iE (dK l : Nat) (dT l : Nat) (dC l : Nat) (sb (dL l)))).size + (sb (dR l)).size ≤ 700 := by
        have g1 := congrArg List.length hback
        rw [List.length_append] at g1
        rw [← bl_len, ← bl_len, bl_sb (iE_lt _ _ _ _), bl_sb p7.lt, g1, ha.len]
        omega
      have hsz2 : ¬ 9223372036854775807 < (sb (iE (dK l : Nat) (dT l : Nat) (dC l : Nat) (sb (dL l)))).size + (sb (dR l)).size := by omega
      go_wp2
      go_ret
      exact ⟨rfl, b8⟩
    · have hr : (((decE l : Nat) : Int) == 0) = false := by simp; omega
      obtain ⟨_, _, _, _, e5⟩ := dec_no h0
      obtain rfl : m2 = 0 := by have := p7.len; rw [e5] at this; exact this.symm
      go_wp2
      go_ret
      exact ⟨rfl, b7⟩
end Go.Proofs.Ytlgefgoaleggmaa
