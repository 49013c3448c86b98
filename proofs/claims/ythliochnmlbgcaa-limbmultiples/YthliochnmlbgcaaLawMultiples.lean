/-
  avouchlaw01.LimbMultiples returns true, whatever it is given, and turns nothing that was there.
-/
import Derived.Test.YthliochnmlbgcaaLawLib
namespace Go.Proofs.Ythliochnmlbgcaa
open Go.RowKit
set_option linter.unusedVariables false

set_option maxRecDepth 100000 in
set_option maxHeartbeats 16000000 in
theorem limbMultiples_w (A0 A1 A2 : Option Addr) (n0 n1 n2 c0 c1 c2 : Nat) (l0 l1 l2 : List Nat) (w : World) (r0 : Rd w w.heap.size A0 n0 l0) (r1 : Rd w w.heap.size A1 n1 l1) (r2 : Rd w w.heap.size A2 n2 l2) :
    Calls Try.prog 8 #[.slice A0 n0 c0, .slice A1 n1 c1, .slice A2 n2 c2] w fun e w' => e = .returned (.bool true) ∧ Below w.heap.size w w' := by
  by_cases g0 : 16 < n0
  · have d0 : decide ((16 : Int) < (n0 : Int)) = true := by simp; omega
    go_enter Try.func8, Try.ntmps8
    go_wp2_with fail
    refine (speaks_c _).mono ?_
    rintro e w1 ⟨rfl, b1⟩
    go_wp2_with fail
    refine (speaks_c _).mono ?_
    rintro e w2 ⟨rfl, b2⟩
    go_wp2
    go_ret
    exact ⟨rfl, (bchain b1 b2)⟩
  have d0 : decide ((16 : Int) < (n0 : Int)) = false := by simp; omega
  by_cases g1 : 16 < n1
  · have d1 : decide ((16 : Int) < (n1 : Int)) = true := by simp; omega
    go_enter Try.func8, Try.ntmps8
    go_wp2_with fail
    refine (speaks_c _).mono ?_
    rintro e w1 ⟨rfl, b1⟩
    go_wp2_with fail
    refine (speaks_c _).mono ?_
    rintro e w2 ⟨rfl, b2⟩
    go_wp2
    go_ret
    exact ⟨rfl, (bchain b1 b2)⟩
  have d1 : decide ((16 : Int) < (n1 : Int)) = false := by simp; omega
  by_cases g2 : 16 < n2
  · have d2 : decide ((16 : Int) < (n2 : Int)) = true := by simp; omega
    go_enter Try.func8, Try.ntmps8
    go_wp2_with fail
    refine (speaks_c _).mono ?_
    rintro e w1 ⟨rfl, b1⟩
    go_wp2_with fail
    refine (speaks_c _).mono ?_
    rintro e w2 ⟨rfl, b2⟩
    go_wp2
    go_ret
    exact ⟨rfl, (bchain b1 b2)⟩
  have d2 : decide ((16 : Int) < (n2 : Int)) = false := by simp; omega
  by_cases gr : Rt l0
  rotate_left
  · have hf := rtB_f gr
    go_enter Try.func8, Try.ntmps8
    go_wp2_with fail
    refine (speaks_c _).mono ?_
    rintro e w1 ⟨rfl, b1⟩
    go_wp2_with fail
    refine (right_c A0 n0 c0 _ l0 _ (r0.up b1 (Nat.le_refl _)) (by omega)).mono ?_
    rintro e w' ⟨rfl, rfl⟩
    rw [hf]
    go_wp2_with fail
    refine (speaks_c _).mono ?_
    rintro e w2 ⟨rfl, b2⟩
    go_wp2
    go_ret
    exact ⟨rfl, (bchain b1 b2)⟩
  have hf := rtB_t gr
  have hpos := rt_pos r0.lt gr
  have hl0 : l0.length ≤ 16 := by rw [r0.len]; omega
  go_enter Try.func8, Try.ntmps8
  go_wp2_with fail
  refine (speaks_c _).mono ?_
  rintro e w1 ⟨rfl, b1⟩
  go_wp2_with fail
  refine (right_c A0 n0 c0 _ l0 _ (r0.up b1 (Nat.le_refl _)) (by omega)).mono ?_
  rintro e w' ⟨rfl, rfl⟩
  rw [hf]
  clear hf
  have HR := hid gr
  clear gr
  go_wp2_with fail
  refine (new_some A0 n0 c0 l0 _ (r0.up b1 (Nat.le_refl _)) HR.out).mono ?_
  rintro e w2 ⟨p, rfl, hp, hM2, b2⟩
  go_wp2_with fail
  refine (lmul_w A0 A2 n0 n2 c0 c2 l0 l2 _ (r0.up (bchain b1 b2) (Nat.le_refl _)) (r2.up (bchain b1 b2) (Nat.le_refl _)) (by omega) (by omega)).mono ?_
  rintro e w3 ⟨T1, ct1, t1, rfl, hct1, rt1, vt1, b3⟩
  have HV1 := hid vt1
  clear vt1
  go_wp2_with fail
  refine (ladd_w T1 A1 (n0 + n2) n1 ct1 c1 t1 l1 _ rt1 (r1.up (bchain (bchain b1 b2) b3) (Nat.le_refl _)) (by omega) (by omega)).mono ?_
  rintro e w4 ⟨t2, q2, rfl, hB2, hn2, vt2, hq2, b4⟩
  have hn2' : t2.length ≤ 200 := by omega
  have HN2 := hid hn2
  have HV2 := hid vt2
  have rt2 := hB2.rdAll
  clear vt2 hn2
  go_wp2_with (at_builtin; refine append_word rfl (.tmp 58) (.tmp 60) rfl w3.heap.size _ t2 rfl (hB2.own (by omega)) _ q2 rfl (by omega) rfl (by omega) (Nat.le_of_lt hB2.size) ?_)
  intro va2 w4a hown2 ba2
  have b4a := b4.trans ba2
  obtain ⟨Ta2, ca2, rfl, hca2, rta2⟩ := hown2.rd
  have hla2 : (t2 ++ [q2]).length = t2.length + 1 := by simp
  rw [hla2] at rta2 ⊢
  clear b4 ba2 hown2 hB2 rt2 hca2 hla2
  go_wp2_with fail
  refine (reduce_c Ta2 (t2.length + 1) ca2 p (t2 ++ [q2]) l0 _ rta2 (hM2.keep (bchain b3 b4a) hM2.lt) (by omega)).mono ?_
  rintro e w5 ⟨T3, ct3, t3, rfl, hct3, rt3, vt3, b5⟩
  have HV3 := hid vt3
  clear vt3
  go_wp2_with fail
  refine (reduce_c A1 n1 c1 p l1 l0 _ (r1.up (bchain (bchain (bchain (bchain b1 b2) b3) b4a) b5) (Nat.le_refl _)) (hM2.keep (bchain (bchain b3 b4a) b5) hM2.lt) (by omega)).mono ?_
  rintro e w6 ⟨T4, ct4, t4, rfl, hct4, rt4, vt4, b6⟩
  have HV4 := hid vt4
  clear vt4
  go_wp2_with fail
  refine (same_c T3 T4 l0.length l0.length ct3 ct4 _ t3 t4 _ (rt3.up b6 (Nat.le_refl _)) rt4 (by omega)).mono ?_
  rintro e w7 ⟨rfl, S7⟩
  have b7 := S7 w6.heap.size
  clear S7
  rw [decide_eq_true (eq_of_val rt3 rt4 (by rw [HV3.out, HV4.out, val_append, HV2.out, HV1.out, Nat.mul_add_mod]))]
  go_wp2_with fail
  refine (ladd_w A1 A2 n1 n2 c1 c2 l1 l2 _ (r1.up (bchain (bchain (bchain (bchain (bchain (bchain b1 b2) b3) b4a) b5) b6) b7) (Nat.le_refl _)) (r2.up (bchain (bchain (bchain (bchain (bchain (bchain b1 b2) b3) b4a) b5) b6) b7) (Nat.le_refl _)) (by omega) (by omega)).mono ?_
  rintro e w8 ⟨t5, q5, rfl, hB5, hn5, vt5, hq5, b8⟩
  have hn5' : t5.length ≤ 200 := by omega
  have HN5 := hid hn5
  have HV5 := hid vt5
  have rt5 := hB5.rdAll
  clear vt5 hn5
  go_wp2_with (at_builtin; refine append_word rfl (.tmp 75) (.tmp 77) rfl w7.heap.size _ t5 rfl (hB5.own (by omega)) _ q5 rfl (by omega) rfl (by omega) (Nat.le_of_lt hB5.size) ?_)
  intro va5 w8a hown5 ba5
  have b8a := b8.trans ba5
  obtain ⟨Ta5, ca5, rfl, hca5, rta5⟩ := hown5.rd
  have hla5 : (t5 ++ [q5]).length = t5.length + 1 := by simp
  rw [hla5] at rta5 ⊢
  clear b8 ba5 hown5 hB5 rt5 hca5 hla5
  go_wp2_with fail
  refine (lsub_w Ta5 A2 (t5.length + 1) n2 ca5 c2 (t5 ++ [q5]) l2 _ rta5 (r2.up (bchain (bchain (bchain (bchain (bchain (bchain (bchain b1 b2) b3) b4a) b5) b6) b7) b8a) (Nat.le_refl _)) (by omega) (by omega)).mono ?_
  rintro e w9 ⟨t6, q6, rfl, hB6, hn6, vt6, hq6, b9⟩
  have hn6' : t6.length ≤ 300 := by omega
  have HN6 := hid hn6
  have HV6 := hid vt6
  have rt6 := hB6.rdAll
  clear vt6 hn6
  have hback : q6 = 0 ∧ val 18446744073709551616 t6 = val 18446744073709551616 l1 := by
    have h := HV6.out
    rw [val_append, HV5.out] at h
    have hlt := val_lt _ (by decide) t6 rt6.lt
    have hcc : q6 = 0 ∨ q6 = 1 := by omega
    rcases hcc with e | e
    · rw [e, Nat.zero_mul] at h; exact ⟨e, by omega⟩
    · rw [e, Nat.one_mul] at h; exfalso; omega
  obtain ⟨hq0, hvb⟩ := hback
  have HVB := hid hvb
  subst hq0
  clear hvb
  go_wp2_with fail
  refine (cmp_c (some ⟨w8a.heap.size, 0, none⟩) A1 t6.length n1 t6.length c1 t6 l1 _ _ rt6 (r1.up (bchain (bchain (bchain (bchain (bchain (bchain (bchain (bchain b1 b2) b3) b4a) b5) b6) b7) b8a) b9) (Nat.le_refl _)) (by omega) (by omega)).mono ?_
  rintro e w' ⟨rfl, rfl⟩
  rw [HVB.out, cmpN_eq]
  go_wp2_with fail
  refine (lmul_w A1 A2 n1 n2 c1 c2 l1 l2 _ (r1.up (bchain (bchain (bchain (bchain (bchain (bchain (bchain (bchain b1 b2) b3) b4a) b5) b6) b7) b8a) b9) (Nat.le_refl _)) (r2.up (bchain (bchain (bchain (bchain (bchain (bchain (bchain (bchain b1 b2) b3) b4a) b5) b6) b7) b8a) b9) (Nat.le_refl _)) (by omega) (by omega)).mono ?_
  rintro e w10 ⟨T7, ct7, t7, rfl, hct7, rt7, vt7, b10⟩
  have HV7 := hid vt7
  clear vt7
  go_wp2_with fail
  refine (lmul_w A2 A1 n2 n1 c2 c1 l2 l1 _ (r2.up (bchain (bchain (bchain (bchain (bchain (bchain (bchain (bchain (bchain b1 b2) b3) b4a) b5) b6) b7) b8a) b9) b10) (Nat.le_refl _)) (r1.up (bchain (bchain (bchain (bchain (bchain (bchain (bchain (bchain (bchain b1 b2) b3) b4a) b5) b6) b7) b8a) b9) b10) (Nat.le_refl _)) (by omega) (by omega)).mono ?_
  rintro e w11 ⟨T8, ct8, t8, rfl, hct8, rt8, vt8, b11⟩
  have HV8 := hid vt8
  clear vt8
  go_wp2_with fail
  refine (cmp_c T7 T8 (n1 + n2) (n2 + n1) ct7 ct8 t7 t8 _ _ (rt7.up b11 (Nat.le_refl _)) rt8 (by omega) (by omega)).mono ?_
  rintro e w' ⟨rfl, rfl⟩
  rw [HV7.out, HV8.out, Nat.mul_comm (val 18446744073709551616 l2), cmpN_eq]
  have HB := hid (builtTwo w11 0 1 0 1 rfl rfl (by omega) (by omega))
  go_wp2_with fail
  generalize w11.alloc (.cells #[.int .u64 0, .int .u64 1] 25) = w12 at HB ⊢
  obtain ⟨qb12, b12⟩ := HB.out
  clear HB
  go_wp2_with fail
  refine (lmul_w A1 _ n1 2 c1 2 l1 [0, 1] _ (r1.up (bchain (bchain (bchain (bchain (bchain (bchain (bchain (bchain (bchain (bchain (bchain b1 b2) b3) b4a) b5) b6) b7) b8a) b9) b10) b11) b12) (Nat.le_refl _)) qb12 (by omega) (by omega)).mono ?_
  rintro e w13 ⟨T9, ct9, t9, rfl, hct9, rt9, vt9, b13⟩
  have HV9 := hid vt9
  clear vt9
  go_wp2_with fail
  refine (bits_c T9 (n1 + 2) ct9 _ t9 _ rt9 (by omega)).mono ?_
  rintro e w' ⟨rfl, rfl⟩
  rw [HV9.out, val_shift]
  go_wp2_with fail
  refine (bits_c A1 n1 c1 _ l1 _ (r1.up (bchain (bchain (bchain (bchain (bchain (bchain (bchain (bchain (bchain (bchain (bchain (bchain b1 b2) b3) b4a) b5) b6) b7) b8a) b9) b10) b11) b12) b13) (Nat.le_refl _)) (by omega)).mono ?_
  rintro e w' ⟨rfl, rfl⟩
  go_wp2_with fail
  refine (bits_c A1 n1 c1 _ l1 _ (r1.up (bchain (bchain (bchain (bchain (bchain (bchain (bchain (bchain (bchain (bchain (bchain (bchain b1 b2) b3) b4a) b5) b6) b7) b8a) b9) b10) b11) b12) b13) (Nat.le_refl _)) (by omega)).mono ?_
  rintro e w' ⟨rfl, rfl⟩
  have hb1 := blen_le (n := val 18446744073709551616 l1) (k := 64 * n1) (by have := val_lt _ (by decide) l1 r1.lt; rw [r1.len] at this; rw [Nat.pow_mul]; exact this)
  have hbz : (blen (val 18446744073709551616 l1 * 18446744073709551616) = 0 ∧ blen (val 18446744073709551616 l1) = 0) ∨ (blen (val 18446744073709551616 l1 * 18446744073709551616) = blen (val 18446744073709551616 l1) + 64 ∧ 1 ≤ blen (val 18446744073709551616 l1)) := blen_shift _
  generalize blen (val 18446744073709551616 l1 * 18446744073709551616) = B1 at hbz ⊢
  generalize blen (val 18446744073709551616 l1) = B0 at hbz hb1 ⊢
  rcases hbz with ⟨rfl, rfl⟩ | ⟨rfl, hB0⟩
  · have hm0 : max (0 : Int) 0 = 0 := rfl
    go_wp2
    go_ret
    exact ⟨rfl, (bchain (bchain (bchain (bchain (bchain (bchain (bchain (bchain (bchain (bchain (bchain (bchain b1 b2) b3) b4a) b5) b6) b7) b8a) b9) b10) b11) b12) b13)⟩
  · have hmin : min (B0 : Int) 1 = 1 := by omega
    have hmax : max (0 : Int) ((B0 : Int) + 64) = (B0 : Int) + 64 := by omega
    go_wp2
    go_ret
    exact ⟨rfl, (bchain (bchain (bchain (bchain (bchain (bchain (bchain (bchain (bchain (bchain (bchain (bchain b1 b2) b3) b4a) b5) b6) b7) b8a) b9) b10) b11) b12) b13)⟩
end Go.Proofs.Ythliochnmlbgcaa
