/-
  avouchlaw01.LimbPowers returns true, whatever it is given, and turns nothing that was there.
-/
import Derived.Test.YthliochnmlbgcaaLawLib
import Derived.Test.YthliochnmlbgcaaRefI
namespace Go.Proofs.Ythliochnmlbgcaa
open Go.RowKit
set_option linter.unusedVariables false

set_option maxRecDepth 100000 in
set_option maxHeartbeats 16000000 in
theorem limbPowers_w (A0 A1 A2 : Option Addr) (n0 n1 n2 c0 c1 c2 : Nat) (l0 l1 l2 : List Nat) (w : World) (r0 : Rd w w.heap.size A0 n0 l0) (r1 : Rd w w.heap.size A1 n1 l1) (r2 : Rd w w.heap.size A2 n2 l2) :
    Calls Try.prog 6 #[.slice A0 n0 c0, .slice A1 n1 c1, .slice A2 n2 c2] w fun e w' => e = .returned (.bool true) ∧ Below w.heap.size w w' := by
  by_cases g0 : 4 < n0
  · have d0 : decide ((4 : Int) < (n0 : Int)) = true := by simp; omega
    go_enter Try.func6, Try.ntmps6
    go_wp2_with fail
    refine (speaks_c _).mono ?_
    rintro e w1 ⟨rfl, b1⟩
    go_wp2_with fail
    refine (speaks_c _).mono ?_
    rintro e w2 ⟨rfl, b2⟩
    go_wp2
    go_ret
    exact ⟨rfl, (bchain b1 b2)⟩
  have d0 : decide ((4 : Int) < (n0 : Int)) = false := by simp; omega
  by_cases g1 : 4 < n1
  · have d1 : decide ((4 : Int) < (n1 : Int)) = true := by simp; omega
    go_enter Try.func6, Try.ntmps6
    go_wp2_with fail
    refine (speaks_c _).mono ?_
    rintro e w1 ⟨rfl, b1⟩
    go_wp2_with fail
    refine (speaks_c _).mono ?_
    rintro e w2 ⟨rfl, b2⟩
    go_wp2
    go_ret
    exact ⟨rfl, (bchain b1 b2)⟩
  have d1 : decide ((4 : Int) < (n1 : Int)) = false := by simp; omega
  by_cases g2 : 2 < n2
  · have d2 : decide ((2 : Int) < (n2 : Int)) = true := by simp; omega
    go_enter Try.func6, Try.ntmps6
    go_wp2_with fail
    refine (speaks_c _).mono ?_
    rintro e w1 ⟨rfl, b1⟩
    go_wp2_with fail
    refine (speaks_c _).mono ?_
    rintro e w2 ⟨rfl, b2⟩
    go_wp2
    go_ret
    exact ⟨rfl, (bchain b1 b2)⟩
  have d2 : decide ((2 : Int) < (n2 : Int)) = false := by simp; omega
  by_cases gr : Rt l0
  rotate_left
  · have hf := rtB_f gr
    go_enter Try.func6, Try.ntmps6
    go_wp2_with fail
    refine (speaks_c _).mono ?_
    rintro e w1 ⟨rfl, b1⟩
    go_wp2_with fail
    refine (right_c A0 n0 c0 _ l0 _ (r0.up b1 (Nat.le_refl _)) (by omega)).mono ?_
    rintro e w' ⟨rfl, rfl⟩
    rw [hf]
    go_wp2_with fail
    refine (speaks_c _).mono ?_
    rintro e w2 ⟨rfl, b2⟩
    go_wp2
    go_ret
    exact ⟨rfl, (bchain b1 b2)⟩
  have hf := rtB_t gr
  have hpos := rt_pos r0.lt gr
  have hl0 : l0.length ≤ 16 := by rw [r0.len]; omega
  go_enter Try.func6, Try.ntmps6
  go_wp2_with fail
  refine (speaks_c _).mono ?_
  rintro e w1 ⟨rfl, b1⟩
  go_wp2_with fail
  refine (right_c A0 n0 c0 _ l0 _ (r0.up b1 (Nat.le_refl _)) (by omega)).mono ?_
  rintro e w' ⟨rfl, rfl⟩
  rw [hf]
  clear hf
  have HR := hid gr
  clear gr
  obtain rfl := r0.len
  go_wp2_with fail
  refine (new_some A0 l0.length c0 l0 _ (r0.up b1 (Nat.le_refl _)) HR.out).mono ?_
  rintro e w2 ⟨p, rfl, hp, hM2, b2⟩
  go_wp2_with fail
  refine (mexp_c A1 A2 n1 n2 c1 c2 p l1 l2 l0 _ (r1.up (bchain b1 b2) (Nat.le_refl _)) (r2.up (bchain b1 b2) (Nat.le_refl _)) hM2 (by omega) (by omega)).mono ?_
  rintro e w3 ⟨T1, ct1, t1, rfl, hct1, rt1, vt1, b3⟩
  have HV1 := hid vt1
  clear vt1
  go_wp2_with fail
  refine (digits_c A1 n1 c1 l1 _ (r1.up (bchain (bchain b1 b2) b3) (Nat.le_refl _)) (by omega)).mono ?_
  rintro e w4 ⟨T2, ct2, t2, rfl, hct2, rt2, dt2, tt2, vt2, b4⟩
  have HV2 := hid vt2
  have HB2 : Hid (val 4294967296 t2 < 4294967296 ^ 8) := by rw [vt2]; exact val_bd r1 (by omega)
  have hl2' : t2.length ≤ 8 := tr_len tt2 8 HB2.out
  clear vt2 tt2
  go_wp2_with fail
  refine (digits_c A2 n2 c2 l2 _ (r2.up (bchain (bchain (bchain b1 b2) b3) b4) (Nat.le_refl _)) (by omega)).mono ?_
  rintro e w5 ⟨T3, ct3, t3, rfl, hct3, rt3, dt3, tt3, vt3, b5⟩
  have HV3 := hid vt3
  have HB3 : Hid (val 4294967296 t3 < 4294967296 ^ 4) := by rw [vt3]; exact val_bd r2 (by omega)
  have hl3' : t3.length ≤ 4 := tr_len tt3 4 HB3.out
  clear vt3 tt3
  go_wp2_with fail
  refine (digits_c A0 l0.length c0 l0 _ (r0.up (bchain (bchain (bchain (bchain b1 b2) b3) b4) b5) (Nat.le_refl _)) (by omega)).mono ?_
  rintro e w6 ⟨T4, ct4, t4, rfl, hct4, rt4, dt4, tt4, vt4, b6⟩
  have HV4 := hid vt4
  have HB4 : Hid (val 4294967296 t4 < 4294967296 ^ 8) := by rw [vt4]; exact val_bd r0 (by omega)
  have hl4' : t4.length ≤ 8 := tr_len tt4 8 HB4.out
  clear vt4 tt4
  go_wp2_with fail
  refine (refExp_c T2 T3 T4 t2.length t3.length t4.length ct2 ct3 ct4 t2 t3 t4 _ (rt2.up (bchain b5 b6) (Nat.le_refl _)) (rt3.up b6 (Nat.le_refl _)) rt4 dt2 dt3 dt4 (by omega) (by omega) (by omega) (by rw [HV4.out]; exact hpos)).mono ?_
  rintro e w7 ⟨T5, ct5, t5, rfl, hct5, rt5, dt5, tt5, vt5, b7⟩
  have HV5 := hid vt5
  have HB5 : Hid (val 4294967296 t5 < 4294967296 ^ 8) := by rw [vt5]; exact Nat.lt_trans (Nat.mod_lt _ (by rw [HV4.out]; exact hpos)) HB4.out
  have hl5' : t5.length ≤ 8 := tr_len tt5 8 HB5.out
  clear vt5 tt5
  go_wp2_with fail
  refine (words_c T5 t5.length ct5 t5 l0.length _ (rfl) _ rt5 dt5 (by omega)).mono ?_
  rintro e w8 ⟨T6, ct6, t6, rfl, hct6, rt6, vt6, b8⟩
  have HV6 := hid vt6
  clear vt6
  go_wp2_with fail
  refine (same_c T1 T6 l0.length l0.length ct1 ct6 _ t1 t6 _ (rt1.up (bchain (bchain (bchain (bchain b4 b5) b6) b7) b8) (Nat.le_refl _)) rt6 (by omega)).mono ?_
  rintro e w9 ⟨rfl, S9⟩
  have b9 := S9 w8.heap.size
  clear S9
  rw [decide_eq_true (eq_of_val rt1 rt6 (by rw [HV1.out, HV6.out, HV5.out, HV2.out, HV3.out, HV4.out]; exact (Nat.mod_eq_of_lt (Nat.lt_trans (Nat.mod_lt _ hpos) (val_lt _ (by decide) l0 r0.lt))).symm))]
  go_wp2
  go_ret
  exact ⟨rfl, (bchain (bchain (bchain (bchain (bchain (bchain (bchain (bchain b1 b2) b3) b4) b5) b6) b7) b8) b9)⟩
end Go.Proofs.Ythliochnmlbgcaa
