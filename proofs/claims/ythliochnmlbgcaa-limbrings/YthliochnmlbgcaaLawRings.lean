/-
  avouchlaw01.LimbRings returns true, whatever it is given, and turns nothing that was there.
-/
import Derived.Test.YthliochnmlbgcaaLawLib
namespace Go.Proofs.Ythliochnmlbgcaa
open Go.RowKit
set_option linter.unusedVariables false

set_option maxRecDepth 100000 in
set_option maxHeartbeats 8000000 in
theorem limbRings_w (A0 A1 A2 A3 : Option Addr) (n0 n1 n2 n3 c0 c1 c2 c3 : Nat) (l0 l1 l2 l3 : List Nat) (w : World) (r0 : Rd w w.heap.size A0 n0 l0) (r1 : Rd w w.heap.size A1 n1 l1) (r2 : Rd w w.heap.size A2 n2 l2) (r3 : Rd w w.heap.size A3 n3 l3) :
    Calls Try.prog 7 #[.slice A0 n0 c0, .slice A1 n1 c1, .slice A2 n2 c2, .slice A3 n3 c3] w fun e w' => e = .returned (.bool true) ∧ Below w.heap.size w w' := by
  by_cases g0 : 16 < n0
  · have d0 : decide ((16 : Int) < (n0 : Int)) = true := by simp; omega
    go_enter Try.func7, Try.ntmps7
    go_wp2_with fail
    refine (speaks_c _).mono ?_
    rintro e w1 ⟨rfl, b1⟩
    go_wp2_with fail
    refine (speaks_c _).mono ?_
    rintro e w2 ⟨rfl, b2⟩
    go_wp2
    go_ret
    exact ⟨rfl, (bchain b1 b2)⟩
  have d0 : decide ((16 : Int) < (n0 : Int)) = false := by simp; omega
  by_cases g1 : 16 < n1
  · have d1 : decide ((16 : Int) < (n1 : Int)) = true := by simp; omega
    go_enter Try.func7, Try.ntmps7
    go_wp2_with fail
    refine (speaks_c _).mono ?_
    rintro e w1 ⟨rfl, b1⟩
    go_wp2_with fail
    refine (speaks_c _).mono ?_
    rintro e w2 ⟨rfl, b2⟩
    go_wp2
    go_ret
    exact ⟨rfl, (bchain b1 b2)⟩
  have d1 : decide ((16 : Int) < (n1 : Int)) = false := by simp; omega
  by_cases g2 : 16 < n2
  · have d2 : decide ((16 : Int) < (n2 : Int)) = true := by simp; omega
    go_enter Try.func7, Try.ntmps7
    go_wp2_with fail
    refine (speaks_c _).mono ?_
    rintro e w1 ⟨rfl, b1⟩
    go_wp2_with fail
    refine (speaks_c _).mono ?_
    rintro e w2 ⟨rfl, b2⟩
    go_wp2
    go_ret
    exact ⟨rfl, (bchain b1 b2)⟩
  have d2 : decide ((16 : Int) < (n2 : Int)) = false := by simp; omega
  by_cases g3 : 16 < n3
  · have d3 : decide ((16 : Int) < (n3 : Int)) = true := by simp; omega
    go_enter Try.func7, Try.ntmps7
    go_wp2_with fail
    refine (speaks_c _).mono ?_
    rintro e w1 ⟨rfl, b1⟩
    go_wp2_with fail
    refine (speaks_c _).mono ?_
    rintro e w2 ⟨rfl, b2⟩
    go_wp2
    go_ret
    exact ⟨rfl, (bchain b1 b2)⟩
  have d3 : decide ((16 : Int) < (n3 : Int)) = false := by simp; omega
  by_cases gr : Rt l0
  rotate_left
  · have hf := rtB_f gr
    go_enter Try.func7, Try.ntmps7
    go_wp2_with fail
    refine (speaks_c _).mono ?_
    rintro e w1 ⟨rfl, b1⟩
    go_wp2_with fail
    refine (right_c A0 n0 c0 _ l0 _ (r0.up b1 (Nat.le_refl _)) (by omega)).mono ?_
    rintro e w' ⟨rfl, rfl⟩
    rw [hf]
    go_wp2_with fail
    refine (speaks_c _).mono ?_
    rintro e w2 ⟨rfl, b2⟩
    go_wp2
    go_ret
    exact ⟨rfl, (bchain b1 b2)⟩
  have hf := rtB_t gr
  have hpos := rt_pos r0.lt gr
  have hl0 : l0.length ≤ 16 := by rw [r0.len]; omega
  go_enter Try.func7, Try.ntmps7
  go_wp2_with fail
  refine (speaks_c _).mono ?_
  rintro e w1 ⟨rfl, b1⟩
  go_wp2_with fail
  refine (right_c A0 n0 c0 _ l0 _ (r0.up b1 (Nat.le_refl _)) (by omega)).mono ?_
  rintro e w' ⟨rfl, rfl⟩
  rw [hf]
  clear hf
  have HR := hid gr
  clear gr
  go_wp2_with fail
  refine (new_some A0 n0 c0 l0 _ (r0.up b1 (Nat.le_refl _)) HR.out).mono ?_
  rintro e w2 ⟨p, rfl, hp, hM2, b2⟩
  go_wp2_with fail
  refine (madd_c A1 A2 n1 n2 c1 c2 p l1 l2 l0 _ (r1.up (bchain b1 b2) (Nat.le_refl _)) (r2.up (bchain b1 b2) (Nat.le_refl _)) hM2 (by omega) (by omega) hpos).mono ?_
  rintro e w3 ⟨T1, ct1, t1, rfl, hct1, rt1, vt1, b3⟩
  have HV1 := hid vt1
  clear vt1
  go_wp2_with fail
  refine (madd_c A2 A1 n2 n1 c2 c1 p l2 l1 l0 _ (r2.up (bchain (bchain b1 b2) b3) (Nat.le_refl _)) (r1.up (bchain (bchain b1 b2) b3) (Nat.le_refl _)) (hM2.keep b3 hM2.lt) (by omega) (by omega) hpos).mono ?_
  rintro e w4 ⟨T2, ct2, t2, rfl, hct2, rt2, vt2, b4⟩
  have HV2 := hid vt2
  clear vt2
  go_wp2_with fail
  refine (same_c T1 T2 l0.length l0.length ct1 ct2 _ t1 t2 _ (rt1.up b4 (Nat.le_refl _)) rt2 (by omega)).mono ?_
  rintro e w5 ⟨rfl, S5⟩
  have b5 := S5 w4.heap.size
  clear S5
  rw [decide_eq_true (eq_of_val rt1 rt2 (by rw [HV1.out, HV2.out, Nat.add_comm]))]
  go_wp2_with fail
  refine (mmul_c A1 A2 n1 n2 c1 c2 p l1 l2 l0 _ (r1.up (bchain (bchain (bchain (bchain b1 b2) b3) b4) b5) (Nat.le_refl _)) (r2.up (bchain (bchain (bchain (bchain b1 b2) b3) b4) b5) (Nat.le_refl _)) (hM2.keep (bchain (bchain b3 b4) b5) hM2.lt) (by omega) (by omega)).mono ?_
  rintro e w6 ⟨T3, ct3, t3, rfl, hct3, rt3, vt3, b6⟩
  have HV3 := hid vt3
  clear vt3
  go_wp2_with fail
  refine (mmul_c A2 A1 n2 n1 c2 c1 p l2 l1 l0 _ (r2.up (bchain (bchain (bchain (bchain (bchain b1 b2) b3) b4) b5) b6) (Nat.le_refl _)) (r1.up (bchain (bchain (bchain (bchain (bchain b1 b2) b3) b4) b5) b6) (Nat.le_refl _)) (hM2.keep (bchain (bchain (bchain b3 b4) b5) b6) hM2.lt) (by omega) (by omega)).mono ?_
  rintro e w7 ⟨T4, ct4, t4, rfl, hct4, rt4, vt4, b7⟩
  have HV4 := hid vt4
  clear vt4
  go_wp2_with fail
  refine (same_c T3 T4 l0.length l0.length ct3 ct4 _ t3 t4 _ (rt3.up b7 (Nat.le_refl _)) rt4 (by omega)).mono ?_
  rintro e w8 ⟨rfl, S8⟩
  have b8 := S8 w7.heap.size
  clear S8
  rw [decide_eq_true (eq_of_val rt3 rt4 (by rw [HV3.out, HV4.out, Nat.mul_comm]))]
  go_wp2_with fail
  refine (mmul_c A1 A2 n1 n2 c1 c2 p l1 l2 l0 _ (r1.up (bchain (bchain (bchain (bchain (bchain (bchain (bchain b1 b2) b3) b4) b5) b6) b7) b8) (Nat.le_refl _)) (r2.up (bchain (bchain (bchain (bchain (bchain (bchain (bchain b1 b2) b3) b4) b5) b6) b7) b8) (Nat.le_refl _)) (hM2.keep (bchain (bchain (bchain (bchain (bchain b3 b4) b5) b6) b7) b8) hM2.lt) (by omega) (by omega)).mono ?_
  rintro e w9 ⟨T5, ct5, t5, rfl, hct5, rt5, vt5, b9⟩
  have HV5 := hid vt5
  clear vt5
  go_wp2_with fail
  refine (mmul_c T5 A3 l0.length n3 ct5 c3 p t5 l3 l0 _ rt5 (r3.up (bchain (bchain (bchain (bchain (bchain (bchain (bchain (bchain b1 b2) b3) b4) b5) b6) b7) b8) b9) (Nat.le_refl _)) (hM2.keep (bchain (bchain (bchain (bchain (bchain (bchain b3 b4) b5) b6) b7) b8) b9) hM2.lt) (by omega) (by omega)).mono ?_
  rintro e w10 ⟨T6, ct6, t6, rfl, hct6, rt6, vt6, b10⟩
  have HV6 := hid vt6
  clear vt6
  go_wp2_with fail
  refine (mmul_c A2 A3 n2 n3 c2 c3 p l2 l3 l0 _ (r2.up (bchain (bchain (bchain (bchain (bchain (bchain (bchain (bchain (bchain b1 b2) b3) b4) b5) b6) b7) b8) b9) b10) (Nat.le_refl _)) (r3.up (bchain (bchain (bchain (bchain (bchain (bchain (bchain (bchain (bchain b1 b2) b3) b4) b5) b6) b7) b8) b9) b10) (Nat.le_refl _)) (hM2.keep (bchain (bchain (bchain (bchain (bchain (bchain (bchain b3 b4) b5) b6) b7) b8) b9) b10) hM2.lt) (by omega) (by omega)).mono ?_
  rintro e w11 ⟨T7, ct7, t7, rfl, hct7, rt7, vt7, b11⟩
  have HV7 := hid vt7
  clear vt7
  go_wp2_with fail
  refine (mmul_c A1 T7 n1 l0.length c1 ct7 p l1 t7 l0 _ (r1.up (bchain (bchain (bchain (bchain (bchain (bchain (bchain (bchain (bchain (bchain b1 b2) b3) b4) b5) b6) b7) b8) b9) b10) b11) (Nat.le_refl _)) rt7 (hM2.keep (bchain (bchain (bchain (bchain (bchain (bchain (bchain (bchain b3 b4) b5) b6) b7) b8) b9) b10) b11) hM2.lt) (by omega) (by omega)).mono ?_
  rintro e w12 ⟨T8, ct8, t8, rfl, hct8, rt8, vt8, b12⟩
  have HV8 := hid vt8
  clear vt8
  go_wp2_with fail
  refine (same_c T6 T8 l0.length l0.length ct6 ct8 _ t6 t8 _ (rt6.up (bchain b11 b12) (Nat.le_refl _)) rt8 (by omega)).mono ?_
  rintro e w13 ⟨rfl, S13⟩
  have b13 := S13 w12.heap.size
  clear S13
  rw [decide_eq_true (eq_of_val rt6 rt8 (by rw [HV6.out, HV5.out, HV8.out, HV7.out, Nat.mod_mul_mod, Nat.mul_mod_mod, Nat.mul_assoc]))]
  go_wp2_with fail
  refine (madd_c A2 A3 n2 n3 c2 c3 p l2 l3 l0 _ (r2.up (bchain (bchain (bchain (bchain (bchain (bchain (bchain (bchain (bchain (bchain (bchain (bchain b1 b2) b3) b4) b5) b6) b7) b8) b9) b10) b11) b12) b13) (Nat.le_refl _)) (r3.up (bchain (bchain (bchain (bchain (bchain (bchain (bchain (bchain (bchain (bchain (bchain (bchain b1 b2) b3) b4) b5) b6) b7) b8) b9) b10) b11) b12) b13) (Nat.le_refl _)) (hM2.keep (bchain (bchain (bchain (bchain (bchain (bchain (bchain (bchain (bchain (bchain b3 b4) b5) b6) b7) b8) b9) b10) b11) b12) b13) hM2.lt) (by omega) (by omega) hpos).mono ?_
  rintro e w14 ⟨T9, ct9, t9, rfl, hct9, rt9, vt9, b14⟩
  have HV9 := hid vt9
  clear vt9
  go_wp2_with fail
  refine (mmul_c A1 T9 n1 l0.length c1 ct9 p l1 t9 l0 _ (r1.up (bchain (bchain (bchain (bchain (bchain (bchain (bchain (bchain (bchain (bchain (bchain (bchain (bchain b1 b2) b3) b4) b5) b6) b7) b8) b9) b10) b11) b12) b13) b14) (Nat.le_refl _)) rt9 (hM2.keep (bchain (bchain (bchain (bchain (bchain (bchain (bchain (bchain (bchain (bchain (bchain b3 b4) b5) b6) b7) b8) b9) b10) b11) b12) b13) b14) hM2.lt) (by omega) (by omega)).mono ?_
  rintro e w15 ⟨T10, ct10, t10, rfl, hct10, rt10, vt10, b15⟩
  have HV10 := hid vt10
  clear vt10
  go_wp2_with fail
  refine (mmul_c A1 A2 n1 n2 c1 c2 p l1 l2 l0 _ (r1.up (bchain (bchain (bchain (bchain (bchain (bchain (bchain (bchain (bchain (bchain (bchain (bchain (bchain (bchain b1 b2) b3) b4) b5) b6) b7) b8) b9) b10) b11) b12) b13) b14) b15) (Nat.le_refl _)) (r2.up (bchain (bchain (bchain (bchain (bchain (bchain (bchain (bchain (bchain (bchain (bchain (bchain (bchain (bchain b1 b2) b3) b4) b5) b6) b7) b8) b9) b10) b11) b12) b13) b14) b15) (Nat.le_refl _)) (hM2.keep (bchain (bchain (bchain (bchain (bchain (bchain (bchain (bchain (bchain (bchain (bchain (bchain b3 b4) b5) b6) b7) b8) b9) b10) b11) b12) b13) b14) b15) hM2.lt) (by omega) (by omega)).mono ?_
  rintro e w16 ⟨T11, ct11, t11, rfl, hct11, rt11, vt11, b16⟩
  have HV11 := hid vt11
  clear vt11
  go_wp2_with fail
  refine (mmul_c A1 A3 n1 n3 c1 c3 p l1 l3 l0 _ (r1.up (bchain (bchain (bchain (bchain (bchain (bchain (bchain (bchain (bchain (bchain (bchain (bchain (bchain (bchain (bchain b1 b2) b3) b4) b5) b6) b7) b8) b9) b10) b11) b12) b13) b14) b15) b16) (Nat.le_refl _)) (r3.up (bchain (bchain (bchain (bchain (bchain (bchain (bchain (bchain (bchain (bchain (bchain (bchain (bchain (bchain (bchain b1 b2) b3) b4) b5) b6) b7) b8) b9) b10) b11) b12) b13) b14) b15) b16) (Nat.le_refl _)) (hM2.keep (bchain (bchain (bchain (bchain (bchain (bchain (bchain (bchain (bchain (bchain (bchain (bchain (bchain b3 b4) b5) b6) b7) b8) b9) b10) b11) b12) b13) b14) b15) b16) hM2.lt) (by omega) (by omega)).mono ?_
  rintro e w17 ⟨T12, ct12, t12, rfl, hct12, rt12, vt12, b17⟩
  have HV12 := hid vt12
  clear vt12
  go_wp2_with fail
  refine (madd_c T11 T12 l0.length l0.length ct11 ct12 p t11 t12 l0 _ (rt11.up b17 (Nat.le_refl _)) rt12 (hM2.keep (bchain (bchain (bchain (bchain (bchain (bchain (bchain (bchain (bchain (bchain (bchain (bchain (bchain (bchain b3 b4) b5) b6) b7) b8) b9) b10) b11) b12) b13) b14) b15) b16) b17) hM2.lt) (by omega) (by omega) hpos).mono ?_
  rintro e w18 ⟨T13, ct13, t13, rfl, hct13, rt13, vt13, b18⟩
  have HV13 := hid vt13
  clear vt13
  go_wp2_with fail
  refine (same_c T10 T13 l0.length l0.length ct10 ct13 _ t10 t13 _ (rt10.up (bchain (bchain b16 b17) b18) (Nat.le_refl _)) rt13 (by omega)).mono ?_
  rintro e w19 ⟨rfl, S19⟩
  have b19 := S19 w18.heap.size
  clear S19
  rw [decide_eq_true (eq_of_val rt10 rt13 (by rw [HV10.out, HV9.out, HV13.out, HV11.out, HV12.out, Nat.mul_mod_mod, ← Nat.add_mod, Nat.mul_add]))]
  go_wp2_with fail
  refine (msub_c A1 A2 n1 n2 c1 c2 p l1 l2 l0 _ (r1.up (bchain (bchain (bchain (bchain (bchain (bchain (bchain (bchain (bchain (bchain (bchain (bchain (bchain (bchain (bchain (bchain (bchain (bchain b1 b2) b3) b4) b5) b6) b7) b8) b9) b10) b11) b12) b13) b14) b15) b16) b17) b18) b19) (Nat.le_refl _)) (r2.up (bchain (bchain (bchain (bchain (bchain (bchain (bchain (bchain (bchain (bchain (bchain (bchain (bchain (bchain (bchain (bchain (bchain (bchain b1 b2) b3) b4) b5) b6) b7) b8) b9) b10) b11) b12) b13) b14) b15) b16) b17) b18) b19) (Nat.le_refl _)) (hM2.keep (bchain (bchain (bchain (bchain (bchain (bchain (bchain (bchain (bchain (bchain (bchain (bchain (bchain (bchain (bchain (bchain b3 b4) b5) b6) b7) b8) b9) b10) b11) b12) b13) b14) b15) b16) b17) b18) b19) hM2.lt) (by omega) (by omega) hpos).mono ?_
  rintro e w20 ⟨T14, ct14, t14, rfl, hct14, rt14, vt14, b20⟩
  have HV14 := hid vt14
  clear vt14
  go_wp2_with fail
  refine (madd_c T14 A2 l0.length n2 ct14 c2 p t14 l2 l0 _ rt14 (r2.up (bchain (bchain (bchain (bchain (bchain (bchain (bchain (bchain (bchain (bchain (bchain (bchain (bchain (bchain (bchain (bchain (bchain (bchain (bchain b1 b2) b3) b4) b5) b6) b7) b8) b9) b10) b11) b12) b13) b14) b15) b16) b17) b18) b19) b20) (Nat.le_refl _)) (hM2.keep (bchain (bchain (bchain (bchain (bchain (bchain (bchain (bchain (bchain (bchain (bchain (bchain (bchain (bchain (bchain (bchain (bchain b3 b4) b5) b6) b7) b8) b9) b10) b11) b12) b13) b14) b15) b16) b17) b18) b19) b20) hM2.lt) (by omega) (by omega) hpos).mono ?_
  rintro e w21 ⟨T15, ct15, t15, rfl, hct15, rt15, vt15, b21⟩
  have HV15 := hid vt15
  clear vt15
  go_wp2_with fail
  refine (reduce_c A1 n1 c1 p l1 l0 _ (r1.up (bchain (bchain (bchain (bchain (bchain (bchain (bchain (bchain (bchain (bchain (bchain (bchain (bchain (bchain (bchain (bchain (bchain (bchain (bchain (bchain b1 b2) b3) b4) b5) b6) b7) b8) b9) b10) b11) b12) b13) b14) b15) b16) b17) b18) b19) b20) b21) (Nat.le_refl _)) (hM2.keep (bchain (bchain (bchain (bchain (bchain (bchain (bchain (bchain (bchain (bchain (bchain (bchain (bchain (bchain (bchain (bchain (bchain (bchain b3 b4) b5) b6) b7) b8) b9) b10) b11) b12) b13) b14) b15) b16) b17) b18) b19) b20) b21) hM2.lt) (by omega)).mono ?_
  rintro e w22 ⟨T16, ct16, t16, rfl, hct16, rt16, vt16, b22⟩
  have HV16 := hid vt16
  clear vt16
  go_wp2_with fail
  refine (same_c T15 T16 l0.length l0.length ct15 ct16 _ t15 t16 _ (rt15.up b22 (Nat.le_refl _)) rt16 (by omega)).mono ?_
  rintro e w23 ⟨rfl, S23⟩
  have b23 := S23 w22.heap.size
  clear S23
  rw [decide_eq_true (eq_of_val rt15 rt16 (by rw [HV15.out, HV14.out, HV16.out]; exact sub_add_mod _ _ _ hpos))]
  have HB := hid (built1 w23 3 3 rfl (by omega))
  go_wp2_with fail
  generalize w23.alloc (.cells #[.int .u64 3] 25) = w24 at HB ⊢
  obtain ⟨q24, b24⟩ := HB.out
  clear HB
  go_wp2_with fail
  refine (mexp_c A1 _ n1 1 c1 1 p l1 [3] l0 _ (r1.up (bchain (bchain (bchain (bchain (bchain (bchain (bchain (bchain (bchain (bchain (bchain (bchain (bchain (bchain (bchain (bchain (bchain (bchain (bchain (bchain (bchain (bchain (bchain b1 b2) b3) b4) b5) b6) b7) b8) b9) b10) b11) b12) b13) b14) b15) b16) b17) b18) b19) b20) b21) b22) b23) b24) (Nat.le_refl _)) q24 (hM2.keep (bchain (bchain (bchain (bchain (bchain (bchain (bchain (bchain (bchain (bchain (bchain (bchain (bchain (bchain (bchain (bchain (bchain (bchain (bchain (bchain (bchain b3 b4) b5) b6) b7) b8) b9) b10) b11) b12) b13) b14) b15) b16) b17) b18) b19) b20) b21) b22) b23) b24) hM2.lt) (by omega) (by omega)).mono ?_
  rintro e w25 ⟨T17, ct17, t17, rfl, hct17, rt17, vt17, b25⟩
  have HV17 := hid vt17
  clear vt17
  go_wp2_with fail
  refine (mmul_c A1 A1 n1 n1 c1 c1 p l1 l1 l0 _ (r1.up (bchain (bchain (bchain (bchain (bchain (bchain (bchain (bchain (bchain (bchain (bchain (bchain (bchain (bchain (bchain (bchain (bchain (bchain (bchain (bchain (bchain (bchain (bchain (bchain b1 b2) b3) b4) b5) b6) b7) b8) b9) b10) b11) b12) b13) b14) b15) b16) b17) b18) b19) b20) b21) b22) b23) b24) b25) (Nat.le_refl _)) (r1.up (bchain (bchain (bchain (bchain (bchain (bchain (bchain (bchain (bchain (bchain (bchain (bchain (bchain (bchain (bchain (bchain (bchain (bchain (bchain (bchain (bchain (bchain (bchain (bchain b1 b2) b3) b4) b5) b6) b7) b8) b9) b10) b11) b12) b13) b14) b15) b16) b17) b18) b19) b20) b21) b22) b23) b24) b25) (Nat.le_refl _)) (hM2.keep (bchain (bchain (bchain (bchain (bchain (bchain (bchain (bchain (bchain (bchain (bchain (bchain (bchain (bchain (bchain (bchain (bchain (bchain (bchain (bchain (bchain (bchain b3 b4) b5) b6) b7) b8) b9) b10) b11) b12) b13) b14) b15) b16) b17) b18) b19) b20) b21) b22) b23) b24) b25) hM2.lt) (by omega) (by omega)).mono ?_
  rintro e w26 ⟨T18, ct18, t18, rfl, hct18, rt18, vt18, b26⟩
  have HV18 := hid vt18
  clear vt18
  go_wp2_with fail
  refine (mmul_c A1 T18 n1 l0.length c1 ct18 p l1 t18 l0 _ (r1.up (bchain (bchain (bchain (bchain (bchain (bchain (bchain (bchain (bchain (bchain (bchain (bchain (bchain (bchain (bchain (bchain (bchain (bchain (bchain (bchain (bchain (bchain (bchain (bchain (bchain b1 b2) b3) b4) b5) b6) b7) b8) b9) b10) b11) b12) b13) b14) b15) b16) b17) b18) b19) b20) b21) b22) b23) b24) b25) b26) (Nat.le_refl _)) rt18 (hM2.keep (bchain (bchain (bchain (bchain (bchain (bchain (bchain (bchain (bchain (bchain (bchain (bchain (bchain (bchain (bchain (bchain (bchain (bchain (bchain (bchain (bchain (bchain (bchain b3 b4) b5) b6) b7) b8) b9) b10) b11) b12) b13) b14) b15) b16) b17) b18) b19) b20) b21) b22) b23) b24) b25) b26) hM2.lt) (by omega) (by omega)).mono ?_
  rintro e w27 ⟨T19, ct19, t19, rfl, hct19, rt19, vt19, b27⟩
  have HV19 := hid vt19
  clear vt19
  go_wp2_with fail
  refine (same_c T17 T19 l0.length l0.length ct17 ct19 _ t17 t19 _ (rt17.up (bchain b26 b27) (Nat.le_refl _)) rt19 (by omega)).mono ?_
  rintro e w28 ⟨rfl, S28⟩
  have b28 := S28 w27.heap.size
  clear S28
  rw [decide_eq_true (eq_of_val rt17 rt19 (by rw [HV17.out, HV19.out, HV18.out, val_one, Nat.mul_mod_mod]; exact congrArg (· % _) (pow_three _)))]
  go_wp2_with fail
  refine (mexp_c A1 none n1 0 c1 0 p l1 [] l0 _ (r1.up (bchain (bchain (bchain (bchain (bchain (bchain (bchain (bchain (bchain (bchain (bchain (bchain (bchain (bchain (bchain (bchain (bchain (bchain (bchain (bchain (bchain (bchain (bchain (bchain (bchain (bchain (bchain b1 b2) b3) b4) b5) b6) b7) b8) b9) b10) b11) b12) b13) b14) b15) b16) b17) b18) b19) b20) b21) b22) b23) b24) b25) b26) b27) b28) (Nat.le_refl _)) (Rd.nil _ _ _) (hM2.keep (bchain (bchain (bchain (bchain (bchain (bchain (bchain (bchain (bchain (bchain (bchain (bchain (bchain (bchain (bchain (bchain (bchain (bchain (bchain (bchain (bchain (bchain (bchain (bchain (bchain b3 b4) b5) b6) b7) b8) b9) b10) b11) b12) b13) b14) b15) b16) b17) b18) b19) b20) b21) b22) b23) b24) b25) b26) b27) b28) hM2.lt) (by omega) (by omega)).mono ?_
  rintro e w29 ⟨T20, ct20, t20, rfl, hct20, rt20, vt20, b29⟩
  have HV20 := hid vt20
  clear vt20
  have HB := hid (built1 w29 1 1 rfl (by omega))
  go_wp2_with fail
  generalize w29.alloc (.cells #[.int .u64 1] 25) = w30 at HB ⊢
  obtain ⟨q30, b30⟩ := HB.out
  clear HB
  go_wp2_with fail
  refine (reduce_c _ 1 1 p [1] l0 _ q30 (hM2.keep (bchain (bchain (bchain (bchain (bchain (bchain (bchain (bchain (bchain (bchain (bchain (bchain (bchain (bchain (bchain (bchain (bchain (bchain (bchain (bchain (bchain (bchain (bchain (bchain (bchain (bchain (bchain b3 b4) b5) b6) b7) b8) b9) b10) b11) b12) b13) b14) b15) b16) b17) b18) b19) b20) b21) b22) b23) b24) b25) b26) b27) b28) b29) b30) hM2.lt) (by omega)).mono ?_
  rintro e w31 ⟨T21, ct21, t21, rfl, hct21, rt21, vt21, b31⟩
  have HV21 := hid vt21
  clear vt21
  go_wp2_with fail
  refine (same_c T20 T21 l0.length l0.length ct20 ct21 _ t20 t21 _ (rt20.up (bchain b30 b31) (Nat.le_refl _)) rt21 (by omega)).mono ?_
  rintro e w32 ⟨rfl, S32⟩
  have b32 := S32 w31.heap.size
  clear S32
  rw [decide_eq_true (eq_of_val rt20 rt21 (by rw [HV20.out, HV21.out, val_one, val_nil, Nat.pow_zero]))]
  go_wp2_with fail
  refine (mmul_c A1 A3 n1 n3 c1 c3 p l1 l3 l0 _ (r1.up (bchain (bchain (bchain (bchain (bchain (bchain (bchain (bchain (bchain (bchain (bchain (bchain (bchain (bchain (bchain (bchain (bchain (bchain (bchain (bchain (bchain (bchain (bchain (bchain (bchain (bchain (bchain (bchain (bchain (bchain (bchain b1 b2) b3) b4) b5) b6) b7) b8) b9) b10) b11) b12) b13) b14) b15) b16) b17) b18) b19) b20) b21) b22) b23) b24) b25) b26) b27) b28) b29) b30) b31) b32) (Nat.le_refl _)) (r3.up (bchain (bchain (bchain (bchain (bchain (bchain (bchain (bchain (bchain (bchain (bchain (bchain (bchain (bchain (bchain (bchain (bchain (bchain (bchain (bchain (bchain (bchain (bchain (bchain (bchain (bchain (bchain (bchain (bchain (bchain (bchain b1 b2) b3) b4) b5) b6) b7) b8) b9) b10) b11) b12) b13) b14) b15) b16) b17) b18) b19) b20) b21) b22) b23) b24) b25) b26) b27) b28) b29) b30) b31) b32) (Nat.le_refl _)) (hM2.keep (bchain (bchain (bchain (bchain (bchain (bchain (bchain (bchain (bchain (bchain (bchain (bchain (bchain (bchain (bchain (bchain (bchain (bchain (bchain (bchain (bchain (bchain (bchain (bchain (bchain (bchain (bchain (bchain (bchain b3 b4) b5) b6) b7) b8) b9) b10) b11) b12) b13) b14) b15) b16) b17) b18) b19) b20) b21) b22) b23) b24) b25) b26) b27) b28) b29) b30) b31) b32) hM2.lt) (by omega) (by omega)).mono ?_
  rintro e w33 ⟨T22, ct22, t22, rfl, hct22, rt22, vt22, b33⟩
  have HV22 := hid vt22
  clear vt22
  have hcm : cmpN (val 18446744073709551616 t22) (val 18446744073709551616 l0) = -1 := cmpN_lt (by rw [HV22.out]; exact Nat.mod_lt _ hpos)
  have HCM := hid hcm
  clear hcm
  go_wp2_with fail
  refine (cmp_c T22 A0 l0.length n0 ct22 c0 t22 l0 _ _ rt22 (r0.up (bchain (bchain (bchain (bchain (bchain (bchain (bchain (bchain (bchain (bchain (bchain (bchain (bchain (bchain (bchain (bchain (bchain (bchain (bchain (bchain (bchain (bchain (bchain (bchain (bchain (bchain (bchain (bchain (bchain (bchain (bchain (bchain b1 b2) b3) b4) b5) b6) b7) b8) b9) b10) b11) b12) b13) b14) b15) b16) b17) b18) b19) b20) b21) b22) b23) b24) b25) b26) b27) b28) b29) b30) b31) b32) b33) (Nat.le_refl _)) (by omega) (by omega)).mono ?_
  rintro e w' ⟨rfl, rfl⟩
  rw [HCM.out]
  go_wp2
  go_ret
  exact ⟨rfl, (bchain (bchain (bchain (bchain (bchain (bchain (bchain (bchain (bchain (bchain (bchain (bchain (bchain (bchain (bchain (bchain (bchain (bchain (bchain (bchain (bchain (bchain (bchain (bchain (bchain (bchain (bchain (bchain (bchain (bchain (bchain (bchain b1 b2) b3) b4) b5) b6) b7) b8) b9) b10) b11) b12) b13) b14) b15) b16) b17) b18) b19) b20) b21) b22) b23) b24) b25) b26) b27) b28) b29) b30) b31) b32) b33)⟩
end Go.Proofs.Ythliochnmlbgcaa
