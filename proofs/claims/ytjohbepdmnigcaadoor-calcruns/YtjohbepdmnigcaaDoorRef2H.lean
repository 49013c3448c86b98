/-
  avouchref02.Add, Sub, Exp, Inverse: what each call does.
-/
import Derived.Test.YtjohbepdmnigcaaDoorRef2F
import Derived.Test.YtjohbepdmnigcaaDoorRefH
import Derived.Test.YtjohbepdmnigcaaDoorLOpsC
namespace Go.Proofs.YtjohbepdmnigcaaDoor
open Go.RowKit
set_option linter.unusedVariables false

theorem add_mod_p {X Y : Nat} (hX : X < pN) (hY : Y < pN) (h : pN ≤ X + Y) : X + Y - pN = (X + Y) % pN := by
  rw [Nat.mod_eq_sub_mod h, Nat.mod_eq_of_lt (by omega)]
theorem sub_mod_p {X Y : Nat} (hX : X < pN) (hY : Y < pN) (h : Y ≤ X) : X - Y = (X + (pN - Y)) % pN := by
  rw [show X + (pN - Y) = (X - Y) + pN by omega, Nat.add_mod_right, Nat.mod_eq_of_lt (by omega)]
theorem sub_mod_p' {X Y : Nat} (hX : X < pN) (hY : Y < pN) (h : ¬ Y ≤ X) : X + pN - Y = (X + (pN - Y)) % pN := by
  rw [Nat.mod_eq_of_lt (by omega)]; omega
def bits1000 : Nat := 1000
theorem p_1000 : pN < 2 ^ bits1000 := Nat.lt_of_lt_of_le (show pN < 2 ^ 254 by decide) (Nat.pow_le_pow_right (by decide) (by decide))
theorem two_p : pN + pN < 4294967296 ^ 20 := by decide

set_option maxRecDepth 20000 in
theorem dAddP_c (u v : Value) (X Y : Nat) (w : World) (hu : Dg w u X) (hv : Dg w v Y) (hX : Hid (X < pN)) (hY : Hid (Y < pN)) :
    Calls Tryd.prog 41 #[u, v] w fun e w' => ∃ r, e = .returned r ∧ Dg w' r ((X + Y) % pN) ∧ Below w.heap.size w w' := by
  have HB : Hid (X + Y < 4294967296 ^ 20) := hid (Nat.lt_trans (Nat.add_lt_add hX.out hY.out) two_p)
  go_enter Tryd.func41, Tryd.ntmps41
  go_wp2_with fail
  refine (dAdd_c u v X Y w hu hv HB.out).mono ?_
  rintro e w1 ⟨rs, rfl, hs, b1⟩
  go_wp2_with fail
  refine (p2_c w1).mono ?_
  rintro e w2 ⟨rp, rfl, hp, b2⟩
  have hs2 := hs.up b2
  have b12 := bchain b1 b2
  go_wp2_with fail
  refine (dCmp_c rs rp _ _ w2 hs2 hp).mono ?_
  rintro e w' ⟨rfl, rfl⟩
  by_cases hge : pN ≤ X + Y
  · have hd : decide (0 ≤ cmpN (X + Y) pN) = true := cmpN_ge hge
    have HV := hid (add_mod_p hX.out hY.out hge)
    have HGE := hid hge
    clear hge hp
    go_wp2_with fail
    refine (p2_c w2).mono ?_
    rintro e w3 ⟨rq, rfl, hq, b3⟩
    have b13 := bchain b12 b3
    go_wp2_with fail
    refine (dSub_c rs rq _ _ w3 (hs2.up b3) hq HGE.out HB.out).mono ?_
    rintro e w4' ⟨r, rfl, hr, b4⟩
    rw [HV.out] at hr
    have R := hid (And.intro hr (bchain b13 b4))
    clear hr hs hs2 hq hd
    go_wp2
    go_ret
    exact ⟨_, rfl, R.out.1, R.out.2⟩
  · have hd : decide (0 ≤ cmpN (X + Y) pN) = false := cmpN_lt' (Nat.lt_of_not_le hge)
    rw [← Nat.mod_eq_of_lt (Nat.lt_of_not_le hge)] at hs2
    have R := hid (And.intro hs2 b12)
    clear hs hs2 hp hge
    go_wp2
    go_ret
    exact ⟨_, rfl, R.out.1, R.out.2⟩

set_option maxRecDepth 20000 in
theorem dSubP_c (u v : Value) (X Y : Nat) (w : World) (hu : Dg w u X) (hv : Dg w v Y) (hX : Hid (X < pN)) (hY : Hid (Y < pN)) :
    Calls Tryd.prog 38 #[u, v] w fun e w' => ∃ r, e = .returned r ∧ Dg w' r ((X + (pN - Y)) % pN) ∧ Below w.heap.size w w' := by
  have HB : Hid (X + pN < 4294967296 ^ 20) := hid (Nat.lt_trans (Nat.add_lt_add_right hX.out _) two_p)
  go_enter Tryd.func38, Tryd.ntmps38
  go_wp2_with fail
  refine (dCmp_c u v _ _ w hu hv).mono ?_
  rintro e w' ⟨rfl, rfl⟩
  by_cases hge : Y ≤ X
  · have hd : decide (0 ≤ cmpN X Y) = true := cmpN_ge hge
    have HV := hid (sub_mod_p hX.out hY.out hge)
    have HGE := hid hge
    clear hge
    go_wp2_with fail
    refine (dSub_c u v X Y w hu hv HGE.out (p_big hX.out)).mono ?_
    rintro e w1 ⟨r, rfl, hr, b1⟩
    rw [HV.out] at hr
    have R := hid (And.intro hr b1)
    clear hr hd
    go_wp2
    go_ret
    exact ⟨_, rfl, R.out.1, R.out.2⟩
  · have hd : decide (0 ≤ cmpN X Y) = false := cmpN_lt' (Nat.lt_of_not_le hge)
    have HV := hid (sub_mod_p' hX.out hY.out hge)
    clear hge
    go_wp2_with fail
    refine (p2_c w).mono ?_
    rintro e w1 ⟨rp, rfl, hp, b1⟩
    go_wp2_with fail
    refine (dAdd_c u rp X pN w1 (hu.up b1) hp HB.out).mono ?_
    rintro e w2 ⟨rs, rfl, hs, b2⟩
    have b12 := bchain b1 b2
    go_wp2_with fail
    refine (dSub_c rs v _ Y w2 hs (hv.up b12) (Nat.le_trans (Nat.le_of_lt hY.out) (Nat.le_add_left _ _)) HB.out).mono ?_
    rintro e w3 ⟨r, rfl, hr, b3⟩
    rw [HV.out] at hr
    have R := hid (And.intro hr (bchain b12 b3))
    clear hr hd hs hp
    go_wp2
    go_ret
    exact ⟨_, rfl, R.out.1, R.out.2⟩

theorem dOne (w : World) (v : Nat) (hv : v < 4294967296) (h0 : v ≠ 0) : Dg (w.alloc (.cells #[.int .u64 (v : Int)] 37)) (.slice (some ⟨w.heap.size, 0, none⟩) 1 1) v := by
  have h := rdw_one w v (Nat.lt_trans hv (by decide))
  have hs : (w.alloc (.cells #[.int .u64 (v : Int)] 37)).heap.size = w.heap.size + 1 := by simp
  rw [← hs] at h
  exact ⟨_, 1, [v], rfl, Nat.le_refl _, by simp, h, by intro x hx; simp at hx; omega, Or.inr (by simpa using h0), by simp [val, pv]⟩

set_option maxRecDepth 20000 in
set_option maxHeartbeats 4000000 in
theorem dExpP_c (u v : Value) (X E : Nat) (w : World) (hu : Dg w u X) (hv : Dg w v E) (hX : Hid (X < pN)) (hE : Hid (E < 2 ^ bits1000)) :
    Calls Tryd.prog 64 #[u, v] w fun e w' => ∃ r, e = .returned r ∧ Dg w' r (X ^ E % pN) ∧ Below w.heap.size w w' := by
  have b1 : Below w.heap.size w (w.alloc (.cells #[.int .u64 1] 37)) := (Below.refl _ _).alloc (Nat.le_refl _) _
  have ho := dOne w 1 (by decide) (by decide)
  have hu1 := hu.up b1
  have hv1 := hv.up b1
  obtain ⟨Av, cv, lv, rfl, k1, k2, k3, k4, k5, k6⟩ := hv1
  have hblE0 := blen_le hE.out
  have hblE : blen E ≤ 1000 := hblE0
  clear hblE0
  have HBL := hid (blen_lt E)
  have K6 := hid k6
  have B1 := hid b1
  clear k6 b1 hu hv
  change Dg (w.alloc (.cells #[.int .u64 1] 37)) _ 1 at ho
  go_enter Tryd.func64, Tryd.ntmps64
  go_wp2_with fail
  refine (refBits_c Av lv.length cv _ lv _ k3 k4 (by omega) k1).mono ?_
  rintro e w' ⟨rfl, rfl⟩
  rw [K6.out]
  generalize w.alloc (.cells #[.int .u64 1] 37) = w1 at *
  go_wp2
  go_loopw [5, 6] (fun r i wr => ∃ k : Nat, k ≤ bits1000 ∧ i = .int .i64 ((k : Int) - 1) ∧ Below w1.heap.size w1 wr ∧ Dg wr r (X ^ (E / 2 ^ k) % pN)) (fun _ i _ => (intOf i + 1).toNat)
  case atStart =>
    refine ⟨blen E, hblE, rfl, Below.refl _ _, ?_⟩
    rw [Nat.div_eq_of_lt HBL.out, Nat.pow_zero]
    exact ho
  case round =>
    obtain ⟨k, hk, rfl, hbw, hr⟩ := hrel
    rcases k with _ | k
    · have R : Hid (Dg wr u5 (X ^ E % pN) ∧ Below w.heap.size w wr) := by
        rw [Nat.pow_zero, Nat.div_one] at hr
        exact hid ⟨hr, bchain B1.out hbw⟩
      clear hr ho hu1
      go_wp2
      go_ret
      exact ⟨_, rfl, R.out.1, R.out.2⟩
    · have e1 : (((k + 1 : Nat) : Int) - 1) = (k : Int) := by omega
      rw [e1]
      clear e1
      go_wp2_with fail
      refine (ref2Mul_c _ _ _ _ wr hr hr (hid (Nat.mod_lt _ pN_pos)) (hid (Nat.mod_lt _ pN_pos))).mono ?_
      rintro e w2 ⟨q, rfl, hq, b2⟩
      have hk' : k < 1000 := hk
      have b12 := bchain hbw b2
      have HST := hid (pow_step X E k pN _ rfl)
      go_wp2_with fail
      refine (bit_c Av lv.length cv _ lv k w2 (k3.up b12 (Nat.le_refl _)) k4 (by omega)).mono ?_
      rintro e w' ⟨rfl, rfl⟩
      rw [K6.out]
      have hb2 : E / 2 ^ k % 2 = 0 ∨ E / 2 ^ k % 2 = 1 := by omega
      rcases hb2 with hb2 | hb2
      · rw [hb2]
        have HF : Hid (Dg w2 q (X ^ (E / 2 ^ k) % pN)) := by
          rw [← HST.out, hb2, if_neg (by decide), Nat.mul_one, Nat.mod_mod]
          exact hid hq
        clear hb2 hq hr ho
        go_wp2
        go_roundw
        case rel => exact ⟨k, by omega, by go_num, b12, HF.out⟩
        case measure => simp [intOf]
      · rw [hb2]
        have HB2 := hid hb2
        clear hb2
        go_wp2_with fail
        refine (ref2Mul_c q u _ X w2 hq (hu1.up b12) (hid (Nat.mod_lt _ pN_pos)) hX).mono ?_
        rintro e w3 ⟨s, rfl, hs, b3⟩
        have b13 := bchain b12 b3
        have HF : Hid (Dg w3 s (X ^ (E / 2 ^ k) % pN)) := by
          rw [← HST.out, HB2.out, if_pos rfl, Nat.mul_mod_mod]
          exact hid hs
        clear hs hq hr ho
        go_wp2
        go_roundw
        case rel => exact ⟨k, by omega, by go_num, b13, HF.out⟩
        case measure => simp [intOf]

set_option maxRecDepth 20000 in
theorem dInvP_c (u : Value) (X : Nat) (w : World) (hu : Dg w u X) (hX : Hid (X < pN)) :
    Calls Tryd.prog 40 #[u] w fun e w' => ∃ r, e = .returned r ∧ Dg w' r (X ^ (pN - 2) % pN) ∧ Below w.heap.size w w' := by
  go_enter Tryd.func40, Tryd.ntmps40
  go_wp2_with fail
  refine (p2_c w).mono ?_
  rintro e w1 ⟨rp, rfl, hp, b1⟩
  have b2 : Below w1.heap.size w1 (w1.alloc (.cells #[.int .u64 2] 37)) := (Below.refl _ _).alloc (Nat.le_refl _) _
  have ht := dOne w1 2 (by decide) (by decide)
  change Dg (w1.alloc (.cells #[.int .u64 2] 37)) _ 2 at ht
  have hp2 := hp.up b2
  have b12 := bchain b1 b2
  clear b2 hp
  go_wp2_with fail
  refine (dSub_c _ _ pN 2 _ hp2 ht (by decide) (by decide)).mono ?_
  rintro e w3 ⟨re, rfl, he, b3⟩
  have b13 := bchain b12 b3
  clear ht hp2
  go_wp2_with fail
  refine (dExpP_c u re X (pN - 2) w3 (hu.up b13) he hX (hid (Nat.lt_of_le_of_lt (Nat.sub_le _ _) p_1000))).mono ?_
  rintro e w4' ⟨r, rfl, hr, b4⟩
  have R := hid (And.intro hr (bchain b13 b4))
  clear hr he
  go_wp2
  go_ret
  exact ⟨_, rfl, R.out.1, R.out.2⟩
end Go.Proofs.YtjohbepdmnigcaaDoor
