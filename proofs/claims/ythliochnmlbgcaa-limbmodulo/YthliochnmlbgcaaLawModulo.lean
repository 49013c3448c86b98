/-
  avouchlaw01.LimbModulo returns true, whatever it is given, and turns nothing that was there.
-/
import Derived.Test.YthliochnmlbgcaaLawLib
namespace Go.Proofs.Ythliochnmlbgcaa
open Go.RowKit
set_option linter.unusedVariables false

set_option maxRecDepth 100000 in
set_option maxHeartbeats 16000000 in
theorem limbModulo_w (A0 A1 A2 : Option Addr) (n0 n1 n2 c0 c1 c2 : Nat) (l0 l1 l2 : List Nat) (w : World) (r0 : Rd w w.heap.size A0 n0 l0) (r1 : Rd w w.heap.size A1 n1 l1) (r2 : Rd w w.heap.size A2 n2 l2) :
    Calls Try.prog 5 #[.slice A0 n0 c0, .slice A1 n1 c1, .slice A2 n2 c2] w fun e w' => e = .returned (.bool true) ∧ Below w.heap.size w w' := by
  by_cases g0 : 20 < n0
  · have d0 : decide ((20 : Int) < (n0 : Int)) = true := by simp; omega
    go_enter Try.func5, Try.ntmps5
    go_wp2_with fail
    refine (speaks_c _).mono ?_
    rintro e w1 ⟨rfl, b1⟩
    go_wp2_with fail
    refine (speaks_c _).mono ?_
    rintro e w2 ⟨rfl, b2⟩
    go_wp2
    go_ret
    exact ⟨rfl, (bchain b1 b2)⟩
  have d0 : decide ((20 : Int) < (n0 : Int)) = false := by simp; omega
  by_cases g1 : 20 < n1
  · have d1 : decide ((20 : Int) < (n1 : Int)) = true := by simp; omega
    go_enter Try.func5, Try.ntmps5
    go_wp2_with fail
    refine (speaks_c _).mono ?_
    rintro e w1 ⟨rfl, b1⟩
    go_wp2_with fail
    refine (speaks_c _).mono ?_
    rintro e w2 ⟨rfl, b2⟩
    go_wp2
    go_ret
    exact ⟨rfl, (bchain b1 b2)⟩
  have d1 : decide ((20 : Int) < (n1 : Int)) = false := by simp; omega
  by_cases g2 : 20 < n2
  · have d2 : decide ((20 : Int) < (n2 : Int)) = true := by simp; omega
    go_enter Try.func5, Try.ntmps5
    go_wp2_with fail
    refine (speaks_c _).mono ?_
    rintro e w1 ⟨rfl, b1⟩
    go_wp2_with fail
    refine (speaks_c _).mono ?_
    rintro e w2 ⟨rfl, b2⟩
    go_wp2
    go_ret
    exact ⟨rfl, (bchain b1 b2)⟩
  have d2 : decide ((20 : Int) < (n2 : Int)) = false := by simp; omega
  by_cases gr : Rt l0
  rotate_left
  · have hf := rtB_f gr
    go_enter Try.func5, Try.ntmps5
    go_wp2_with fail
    refine (speaks_c _).mono ?_
    rintro e w1 ⟨rfl, b1⟩
    go_wp2_with fail
    refine (new_none A0 n0 c0 _ l0 _ (r0.up b1 (Nat.le_refl _)) (by omega) gr).mono ?_
    rintro e w' ⟨rfl, rfl⟩
    go_wp2_with fail
    refine (right_c A0 n0 c0 _ l0 _ (r0.up b1 (Nat.le_refl _)) (by omega)).mono ?_
    rintro e w' ⟨rfl, rfl⟩
    rw [hf]
    go_wp2_with fail
    refine (right_c A0 n0 c0 _ l0 _ (r0.up b1 (Nat.le_refl _)) (by omega)).mono ?_
    rintro e w' ⟨rfl, rfl⟩
    rw [hf]
    go_wp2
    go_ret
    exact ⟨rfl, b1⟩
  have hf := rtB_t gr
  have hpos := rt_pos r0.lt gr
  obtain rfl := r0.len
  have hl0 : l0.length ≤ 16 := gr.2.1
  go_enter Try.func5, Try.ntmps5
  go_wp2_with fail
  refine (speaks_c _).mono ?_
  rintro e w1 ⟨rfl, b1⟩
  have HR := hid gr
  clear gr
  go_wp2_with fail
  refine (new_some A0 l0.length c0 l0 _ (r0.up b1 (Nat.le_refl _)) HR.out).mono ?_
  rintro e w2 ⟨p, rfl, hp, hM2, b2⟩
  go_wp2_with fail
  refine (right_c A0 l0.length c0 _ l0 _ (r0.up (bchain b1 b2) (Nat.le_refl _)) (by omega)).mono ?_
  rintro e w' ⟨rfl, rfl⟩
  rw [hf]
  go_wp2_with fail
  refine (right_c A0 l0.length c0 _ l0 _ (r0.up (bchain b1 b2) (Nat.le_refl _)) (by omega)).mono ?_
  rintro e w' ⟨rfl, rfl⟩
  rw [hf]
  go_wp2_with fail
  refine (digits_c A0 l0.length c0 l0 _ (r0.up (bchain b1 b2) (Nat.le_refl _)) (by omega)).mono ?_
  rintro e w3 ⟨T1, ct1, t1, rfl, hct1, rt1, dt1, tt1, vt1, b3⟩
  have HV1 := hid vt1
  have HB1 : Hid (val 4294967296 t1 < 4294967296 ^ 40) := by rw [vt1]; exact val_bd r0 (by omega)
  have hl1' : t1.length ≤ 40 := tr_len tt1 40 HB1.out
  clear vt1 tt1
  go_wp2_with fail
  refine (digits_c A1 n1 c1 l1 _ (r1.up (bchain (bchain b1 b2) b3) (Nat.le_refl _)) (by omega)).mono ?_
  rintro e w4 ⟨T2, ct2, t2, rfl, hct2, rt2, dt2, tt2, vt2, b4⟩
  have HV2 := hid vt2
  have HB2 : Hid (val 4294967296 t2 < 4294967296 ^ 40) := by rw [vt2]; exact val_bd r1 (by omega)
  have hl2' : t2.length ≤ 40 := tr_len tt2 40 HB2.out
  clear vt2 tt2
  go_wp2_with fail
  refine (mod_c T2 T1 t2.length t1.length ct2 ct1 t2 t1 _ rt2 (rt1.up b4 (Nat.le_refl _)) dt2 dt1 (by omega) (by omega) (by rw [HV1.out]; exact hpos)).mono ?_
  rintro e w5 ⟨T3, ct3, t3, rfl, hct3, rt3, dt3, tt3, vt3, b5⟩
  have HV3 := hid vt3
  have HB3 : Hid (val 4294967296 t3 < 4294967296 ^ 40) := by rw [vt3]; exact Nat.lt_trans (Nat.mod_lt _ (by rw [HV1.out]; exact hpos)) HB1.out
  have hl3' : t3.length ≤ 40 := tr_len tt3 40 HB3.out
  clear vt3 tt3
  go_wp2_with fail
  refine (digits_c A2 n2 c2 l2 _ (r2.up (bchain (bchain (bchain (bchain b1 b2) b3) b4) b5) (Nat.le_refl _)) (by omega)).mono ?_
  rintro e w6 ⟨T4, ct4, t4, rfl, hct4, rt4, dt4, tt4, vt4, b6⟩
  have HV4 := hid vt4
  have HB4 : Hid (val 4294967296 t4 < 4294967296 ^ 40) := by rw [vt4]; exact val_bd r2 (by omega)
  have hl4' : t4.length ≤ 40 := tr_len tt4 40 HB4.out
  clear vt4 tt4
  go_wp2_with fail
  refine (mod_c T4 T1 t4.length t1.length ct4 ct1 t4 t1 _ rt4 (rt1.up (bchain (bchain b4 b5) b6) (Nat.le_refl _)) dt4 dt1 (by omega) (by omega) (by rw [HV1.out]; exact hpos)).mono ?_
  rintro e w7 ⟨T5, ct5, t5, rfl, hct5, rt5, dt5, tt5, vt5, b7⟩
  have HV5 := hid vt5
  have HB5 : Hid (val 4294967296 t5 < 4294967296 ^ 40) := by rw [vt5]; exact Nat.lt_trans (Nat.mod_lt _ (by rw [HV1.out]; exact hpos)) HB1.out
  have hl5' : t5.length ≤ 40 := tr_len tt5 40 HB5.out
  clear vt5 tt5
  go_wp2_with fail
  refine (len_c p l0 _ (hM2.keep (bchain (bchain (bchain (bchain b3 b4) b5) b6) b7) hM2.lt)).mono ?_
  rintro e w' ⟨rfl, rfl⟩
  go_wp2_with fail
  refine (mwords_c p l0 _ (hM2.keep (bchain (bchain (bchain (bchain b3 b4) b5) b6) b7) hM2.lt)).mono ?_
  rintro e w8 ⟨T6, ct6, t6, rfl, hct6, rt6, vt6, b8⟩
  have HV6 := hid vt6
  clear vt6
  go_wp2_with fail
  refine (same_c T6 A0 l0.length l0.length ct6 c0 _ t6 l0 _ rt6 (r0.up (bchain (bchain (bchain (bchain (bchain (bchain (bchain b1 b2) b3) b4) b5) b6) b7) b8) (Nat.le_refl _)) (by omega)).mono ?_
  rintro e w9 ⟨rfl, S9⟩
  have b9 := S9 w8.heap.size
  clear S9
  rw [decide_eq_true (eq_of_val rt6 r0 (by rw [HV6.out]))]
  go_wp2_with fail
  refine (reduce_c A1 n1 c1 p l1 l0 _ (r1.up (bchain (bchain (bchain (bchain (bchain (bchain (bchain (bchain b1 b2) b3) b4) b5) b6) b7) b8) b9) (Nat.le_refl _)) (hM2.keep (bchain (bchain (bchain (bchain (bchain (bchain b3 b4) b5) b6) b7) b8) b9) hM2.lt) (by omega)).mono ?_
  rintro e w10 ⟨T7, ct7, t7, rfl, hct7, rt7, vt7, b10⟩
  have HV7 := hid vt7
  clear vt7
  go_wp2_with fail
  refine (words_c T3 t3.length ct3 t3 l0.length _ (rfl) _ (rt3.up (bchain (bchain (bchain (bchain b6 b7) b8) b9) b10) (Nat.le_refl _)) dt3 (by omega)).mono ?_
  rintro e w11 ⟨T8, ct8, t8, rfl, hct8, rt8, vt8, b11⟩
  have HV8 := hid vt8
  clear vt8
  go_wp2_with fail
  refine (same_c T7 T8 l0.length l0.length ct7 ct8 _ t7 t8 _ (rt7.up b11 (Nat.le_refl _)) rt8 (by omega)).mono ?_
  rintro e w12 ⟨rfl, S12⟩
  have b12 := S12 w11.heap.size
  clear S12
  rw [decide_eq_true (eq_of_val rt7 rt8 (by rw [HV7.out, HV8.out, HV3.out, HV2.out, HV1.out]; exact (Nat.mod_eq_of_lt (Nat.lt_trans (Nat.mod_lt _ hpos) (val_lt _ (by decide) l0 r0.lt))).symm))]
  go_wp2_with fail
  refine (madd_c A1 A2 n1 n2 c1 c2 p l1 l2 l0 _ (r1.up (bchain (bchain (bchain (bchain (bchain (bchain (bchain (bchain (bchain (bchain (bchain b1 b2) b3) b4) b5) b6) b7) b8) b9) b10) b11) b12) (Nat.le_refl _)) (r2.up (bchain (bchain (bchain (bchain (bchain (bchain (bchain (bchain (bchain (bchain (bchain b1 b2) b3) b4) b5) b6) b7) b8) b9) b10) b11) b12) (Nat.le_refl _)) (hM2.keep (bchain (bchain (bchain (bchain (bchain (bchain (bchain (bchain (bchain b3 b4) b5) b6) b7) b8) b9) b10) b11) b12) hM2.lt) (by omega) (by omega) hpos).mono ?_
  rintro e w13 ⟨T9, ct9, t9, rfl, hct9, rt9, vt9, b13⟩
  have HV9 := hid vt9
  clear vt9
  go_wp2_with fail
  refine (refAdd_c T3 T5 t3.length t5.length ct3 ct5 t3 t5 _ (rt3.up (bchain (bchain (bchain (bchain (bchain (bchain (bchain b6 b7) b8) b9) b10) b11) b12) b13) (Nat.le_refl _)) (rt5.up (bchain (bchain (bchain (bchain (bchain b8 b9) b10) b11) b12) b13) (Nat.le_refl _)) dt3 dt5 (by omega) (by omega)).mono ?_
  rintro e w14 ⟨T10, ct10, t10, rfl, hct10, rt10, dt10, tt10, vt10, b14⟩
  have HV10 := hid vt10
  have HB10 : Hid (val 4294967296 t10 < 4294967296 ^ 41) := by rw [vt10]; exact add_bd HB3.out HB5.out (by decide) (by decide)
  have hl10' : t10.length ≤ 41 := tr_len tt10 41 HB10.out
  clear vt10 tt10
  go_wp2_with fail
  refine (mod_c T10 T1 t10.length t1.length ct10 ct1 t10 t1 _ rt10 (rt1.up (bchain (bchain (bchain (bchain (bchain (bchain (bchain (bchain (bchain (bchain b4 b5) b6) b7) b8) b9) b10) b11) b12) b13) b14) (Nat.le_refl _)) dt10 dt1 (by omega) (by omega) (by rw [HV1.out]; exact hpos)).mono ?_
  rintro e w15 ⟨T11, ct11, t11, rfl, hct11, rt11, dt11, tt11, vt11, b15⟩
  have HV11 := hid vt11
  have HB11 : Hid (val 4294967296 t11 < 4294967296 ^ 40) := by rw [vt11]; exact Nat.lt_trans (Nat.mod_lt _ (by rw [HV1.out]; exact hpos)) HB1.out
  have hl11' : t11.length ≤ 40 := tr_len tt11 40 HB11.out
  clear vt11 tt11
  go_wp2_with fail
  refine (words_c T11 t11.length ct11 t11 l0.length _ (rfl) _ rt11 dt11 (by omega)).mono ?_
  rintro e w16 ⟨T12, ct12, t12, rfl, hct12, rt12, vt12, b16⟩
  have HV12 := hid vt12
  clear vt12
  go_wp2_with fail
  refine (same_c T9 T12 l0.length l0.length ct9 ct12 _ t9 t12 _ (rt9.up (bchain (bchain b14 b15) b16) (Nat.le_refl _)) rt12 (by omega)).mono ?_
  rintro e w17 ⟨rfl, S17⟩
  have b17 := S17 w16.heap.size
  clear S17
  rw [decide_eq_true (eq_of_val rt9 rt12 (by rw [HV9.out, HV12.out, HV11.out, HV10.out, HV3.out, HV5.out, HV2.out, HV4.out, HV1.out, ← Nat.add_mod]; exact (Nat.mod_eq_of_lt (Nat.lt_trans (Nat.mod_lt _ hpos) (val_lt _ (by decide) l0 r0.lt))).symm))]
  go_wp2_with fail
  refine (msub_c A1 A2 n1 n2 c1 c2 p l1 l2 l0 _ (r1.up (bchain (bchain (bchain (bchain (bchain (bchain (bchain (bchain (bchain (bchain (bchain (bchain (bchain (bchain (bchain (bchain b1 b2) b3) b4) b5) b6) b7) b8) b9) b10) b11) b12) b13) b14) b15) b16) b17) (Nat.le_refl _)) (r2.up (bchain (bchain (bchain (bchain (bchain (bchain (bchain (bchain (bchain (bchain (bchain (bchain (bchain (bchain (bchain (bchain b1 b2) b3) b4) b5) b6) b7) b8) b9) b10) b11) b12) b13) b14) b15) b16) b17) (Nat.le_refl _)) (hM2.keep (bchain (bchain (bchain (bchain (bchain (bchain (bchain (bchain (bchain (bchain (bchain (bchain (bchain (bchain b3 b4) b5) b6) b7) b8) b9) b10) b11) b12) b13) b14) b15) b16) b17) hM2.lt) (by omega) (by omega) hpos).mono ?_
  rintro e w18 ⟨T13, ct13, t13, rfl, hct13, rt13, vt13, b18⟩
  have HV13 := hid vt13
  clear vt13
  go_wp2_with fail
  refine (refAdd_c T3 T1 t3.length t1.length ct3 ct1 t3 t1 _ (rt3.up (bchain (bchain (bchain (bchain (bchain (bchain (bchain (bchain (bchain (bchain (bchain (bchain b6 b7) b8) b9) b10) b11) b12) b13) b14) b15) b16) b17) b18) (Nat.le_refl _)) (rt1.up (bchain (bchain (bchain (bchain (bchain (bchain (bchain (bchain (bchain (bchain (bchain (bchain (bchain (bchain b4 b5) b6) b7) b8) b9) b10) b11) b12) b13) b14) b15) b16) b17) b18) (Nat.le_refl _)) dt3 dt1 (by omega) (by omega)).mono ?_
  rintro e w19 ⟨T14, ct14, t14, rfl, hct14, rt14, dt14, tt14, vt14, b19⟩
  have HV14 := hid vt14
  have HB14 : Hid (val 4294967296 t14 < 4294967296 ^ 41) := by rw [vt14]; exact add_bd HB3.out HB1.out (by decide) (by decide)
  have hl14' : t14.length ≤ 41 := tr_len tt14 41 HB14.out
  clear vt14 tt14
  go_wp2_with fail
  refine (refSub_c T14 T5 t14.length t5.length ct14 ct5 t14 t5 _ rt14 (rt5.up (bchain (bchain (bchain (bchain (bchain (bchain (bchain (bchain (bchain (bchain (bchain b8 b9) b10) b11) b12) b13) b14) b15) b16) b17) b18) b19) (Nat.le_refl _)) dt14 dt5 (by omega) (by rw [HV14.out, HV5.out, HV1.out]; exact Nat.le_trans (Nat.le_of_lt (Nat.mod_lt _ hpos)) (Nat.le_add_left _ _))).mono ?_
  rintro e w20 ⟨T15, ct15, t15, rfl, hct15, rt15, dt15, tt15, vt15, b20⟩
  have HV15 := hid vt15
  have HB15 : Hid (val 4294967296 t15 < 4294967296 ^ 41) := by rw [vt15]; exact Nat.lt_of_le_of_lt (Nat.sub_le _ _) HB14.out
  have hl15' : t15.length ≤ 41 := tr_len tt15 41 HB15.out
  clear vt15 tt15
  go_wp2_with fail
  refine (mod_c T15 T1 t15.length t1.length ct15 ct1 t15 t1 _ rt15 (rt1.up (bchain (bchain (bchain (bchain (bchain (bchain (bchain (bchain (bchain (bchain (bchain (bchain (bchain (bchain (bchain (bchain b4 b5) b6) b7) b8) b9) b10) b11) b12) b13) b14) b15) b16) b17) b18) b19) b20) (Nat.le_refl _)) dt15 dt1 (by omega) (by omega) (by rw [HV1.out]; exact hpos)).mono ?_
  rintro e w21 ⟨T16, ct16, t16, rfl, hct16, rt16, dt16, tt16, vt16, b21⟩
  have HV16 := hid vt16
  have HB16 : Hid (val 4294967296 t16 < 4294967296 ^ 40) := by rw [vt16]; exact Nat.lt_trans (Nat.mod_lt _ (by rw [HV1.out]; exact hpos)) HB1.out
  have hl16' : t16.length ≤ 40 := tr_len tt16 40 HB16.out
  clear vt16 tt16
  go_wp2_with fail
  refine (words_c T16 t16.length ct16 t16 l0.length _ (rfl) _ rt16 dt16 (by omega)).mono ?_
  rintro e w22 ⟨T17, ct17, t17, rfl, hct17, rt17, vt17, b22⟩
  have HV17 := hid vt17
  clear vt17
  go_wp2_with fail
  refine (same_c T13 T17 l0.length l0.length ct13 ct17 _ t13 t17 _ (rt13.up (bchain (bchain (bchain b19 b20) b21) b22) (Nat.le_refl _)) rt17 (by omega)).mono ?_
  rintro e w23 ⟨rfl, S23⟩
  have b23 := S23 w22.heap.size
  clear S23
  rw [decide_eq_true (eq_of_val rt13 rt17 (by rw [HV13.out, HV17.out, HV16.out, HV15.out, HV14.out, HV3.out, HV5.out, HV2.out, HV4.out, HV1.out]; exact (Nat.mod_eq_of_lt (Nat.lt_trans (Nat.mod_lt _ hpos) (val_lt _ (by decide) l0 r0.lt))).symm))]
  go_wp2_with fail
  refine (mmul_c A1 A2 n1 n2 c1 c2 p l1 l2 l0 _ (r1.up (bchain (bchain (bchain (bchain (bchain (bchain (bchain (bchain (bchain (bchain (bchain (bchain (bchain (bchain (bchain (bchain (bchain (bchain (bchain (bchain (bchain (bchain b1 b2) b3) b4) b5) b6) b7) b8) b9) b10) b11) b12) b13) b14) b15) b16) b17) b18) b19) b20) b21) b22) b23) (Nat.le_refl _)) (r2.up (bchain (bchain (bchain (bchain (bchain (bchain (bchain (bchain (bchain (bchain (bchain (bchain (bchain (bchain (bchain (bchain (bchain (bchain (bchain (bchain (bchain (bchain b1 b2) b3) b4) b5) b6) b7) b8) b9) b10) b11) b12) b13) b14) b15) b16) b17) b18) b19) b20) b21) b22) b23) (Nat.le_refl _)) (hM2.keep (bchain (bchain (bchain (bchain (bchain (bchain (bchain (bchain (bchain (bchain (bchain (bchain (bchain (bchain (bchain (bchain (bchain (bchain (bchain (bchain b3 b4) b5) b6) b7) b8) b9) b10) b11) b12) b13) b14) b15) b16) b17) b18) b19) b20) b21) b22) b23) hM2.lt) (by omega) (by omega)).mono ?_
  rintro e w24 ⟨T18, ct18, t18, rfl, hct18, rt18, vt18, b24⟩
  have HV18 := hid vt18
  clear vt18
  go_wp2_with fail
  refine (refMul_c T3 T5 t3.length t5.length ct3 ct5 t3 t5 _ (rt3.up (bchain (bchain (bchain (bchain (bchain (bchain (bchain (bchain (bchain (bchain (bchain (bchain (bchain (bchain (bchain (bchain (bchain (bchain b6 b7) b8) b9) b10) b11) b12) b13) b14) b15) b16) b17) b18) b19) b20) b21) b22) b23) b24) (Nat.le_refl _)) (rt5.up (bchain (bchain (bchain (bchain (bchain (bchain (bchain (bchain (bchain (bchain (bchain (bchain (bchain (bchain (bchain (bchain b8 b9) b10) b11) b12) b13) b14) b15) b16) b17) b18) b19) b20) b21) b22) b23) b24) (Nat.le_refl _)) dt3 dt5 (by omega) (by omega)).mono ?_
  rintro e w25 ⟨T19, ct19, t19, rfl, hct19, rt19, dt19, tt19, vt19, b25⟩
  have HV19 := hid vt19
  have HB19 : Hid (val 4294967296 t19 < 4294967296 ^ 80) := by rw [vt19]; exact mul_bd HB3.out HB5.out
  have hl19' : t19.length ≤ 80 := tr_len tt19 80 HB19.out
  clear vt19 tt19
  go_wp2_with fail
  refine (mod_c T19 T1 t19.length t1.length ct19 ct1 t19 t1 _ rt19 (rt1.up (bchain (bchain (bchain (bchain (bchain (bchain (bchain (bchain (bchain (bchain (bchain (bchain (bchain (bchain (bchain (bchain (bchain (bchain (bchain (bchain (bchain b4 b5) b6) b7) b8) b9) b10) b11) b12) b13) b14) b15) b16) b17) b18) b19) b20) b21) b22) b23) b24) b25) (Nat.le_refl _)) dt19 dt1 (by omega) (by omega) (by rw [HV1.out]; exact hpos)).mono ?_
  rintro e w26 ⟨T20, ct20, t20, rfl, hct20, rt20, dt20, tt20, vt20, b26⟩
  have HV20 := hid vt20
  have HB20 : Hid (val 4294967296 t20 < 4294967296 ^ 40) := by rw [vt20]; exact Nat.lt_trans (Nat.mod_lt _ (by rw [HV1.out]; exact hpos)) HB1.out
  have hl20' : t20.length ≤ 40 := tr_len tt20 40 HB20.out
  clear vt20 tt20
  go_wp2_with fail
  refine (words_c T20 t20.length ct20 t20 l0.length _ (rfl) _ rt20 dt20 (by omega)).mono ?_
  rintro e w27 ⟨T21, ct21, t21, rfl, hct21, rt21, vt21, b27⟩
  have HV21 := hid vt21
  clear vt21
  go_wp2_with fail
  refine (same_c T18 T21 l0.length l0.length ct18 ct21 _ t18 t21 _ (rt18.up (bchain (bchain b25 b26) b27) (Nat.le_refl _)) rt21 (by omega)).mono ?_
  rintro e w28 ⟨rfl, S28⟩
  have b28 := S28 w27.heap.size
  clear S28
  rw [decide_eq_true (eq_of_val rt18 rt21 (by rw [HV18.out, HV21.out, HV20.out, HV19.out, HV3.out, HV5.out, HV2.out, HV4.out, HV1.out, ← Nat.mul_mod]; exact (Nat.mod_eq_of_lt (Nat.lt_trans (Nat.mod_lt _ hpos) (val_lt _ (by decide) l0 r0.lt))).symm))]
  go_wp2
  go_ret
  exact ⟨rfl, (bchain (bchain (bchain (bchain (bchain (bchain (bchain (bchain (bchain (bchain (bchain (bchain (bchain (bchain (bchain (bchain (bchain (bchain (bchain (bchain (bchain (bchain (bchain (bchain (bchain (bchain (bchain b1 b2) b3) b4) b5) b6) b7) b8) b9) b10) b11) b12) b13) b14) b15) b16) b17) b18) b19) b20) b21) b22) b23) b24) b25) b26) b27) b28)⟩
end Go.Proofs.Ythliochnmlbgcaa
