/-
  (*Modulus).Sub, Exp: what each call does.
-/
import Derived.Test.YtfonpmahcdmajaaDoorLOpsB
namespace Go.Proofs.YtfonpmahcdmajaaDoor
open Go.RowKit
set_option linter.unusedVariables false

set_option maxHeartbeats 2000000 in
theorem msub_c (A B : Option Addr) (na nb ca cb p : Nat) (la lb l : List Nat) (w : World) (ha : Rd w w.heap.size A na la) (hb : Rd w w.heap.size B nb lb) (hM : ModP w p l) (hna : na ≤ 5000) (hnb : nb ≤ 5000) (hpos : 0 < val 18446744073709551616 l) :
    Calls Tryd.prog 84 #[.pointer (some ⟨p, 0, none⟩), .slice A na ca, .slice B nb cb] w fun e w' => Wds w e w' l.length ((val 18446744073709551616 la % val 18446744073709551616 l + val 18446744073709551616 l - val 18446744073709551616 lb % val 18446744073709551616 l) % val 18446744073709551616 l) := by
  have hl16 := hM.rt.2.1
  go_enter Tryd.func84, Tryd.ntmps84
  go_wp2_with fail
  refine (reduce_c A na ca p la l w ha hM hna).mono ?_
  rintro e w1 ⟨A1, c1, l1, rfl, hc1, rd1, v1, b1⟩
  have hM1 := hM.keep b1 hM.lt
  have rb1 := hb.up b1 (Nat.le_refl _)
  have HV1 := hid v1
  clear v1
  go_wp2_with fail
  refine (reduce_c B nb cb p lb l w1 rb1 hM1 hnb).mono ?_
  rintro e w2 ⟨A2, c2, l2, rfl, hc2, rd2, v2, b2⟩
  have hM2 := hM1.keep b2 hM1.lt
  have rd12 := rd1.up b2 (Nat.le_refl _)
  have b12 : Below w.heap.size w w2 := b1.trans (b2.mono b1.size)
  have HV2 := hid v2
  clear v2
  go_wp2_with fail
  refine (sub_c A1 A2 l.length l.length c1 c2 l1 l2 w2 rd12 rd2 (by omega) (by omega)).mono ?_
  rintro e w3 ⟨c3, rfl, h3⟩
  rw [Nat.max_self] at h3 ⊢
  obtain ⟨r3, rd3, v3, b3, hc3⟩ := h3.wds
  clear h3
  have hM3 := hM2.keep b3 hM2.lt
  have b13 : Below w.heap.size w w3 := b12.trans (b3.mono b12.size)
  obtain ⟨bw, ow, cw, br, cr, s, lr, k1, k2, k3, k4, k5, k6, k7, k8, k9, k10⟩ := id hM3
  have HW := k4.more (Nat.le_of_lt k9)
  have hML : val 18446744073709551616 l < 18446744073709551616 ^ l.length := val_lt _ (by decide) l k4.lt
  have hr3 := val_lt _ (by decide) r3 rd3.lt
  rw [rd3.len] at hr3
  rw [pv_out _ l1 _ (by rw [rd12.len]; exact Nat.le_refl _), pv_out _ l2 _ (by rw [rd2.len]; exact Nat.le_refl _), HV1.out, HV2.out] at v3
  have hm1 := Nat.mod_lt (val 18446744073709551616 la) hpos
  have hm2 := Nat.mod_lt (val 18446744073709551616 lb) hpos
  have H7 := hid k7
  clear k7
  obtain ⟨x, hx⟩ : ∃ x, x = val 18446744073709551616 la % val 18446744073709551616 l := ⟨_, rfl⟩
  obtain ⟨y, hy⟩ : ∃ y, y = val 18446744073709551616 lb % val 18446744073709551616 l := ⟨_, rfl⟩
  rw [← hx] at v3 hm1
  rw [← hy] at v3 hm2
  have HX := hid hx
  have HY := hid hy
  clear hx hy
  have hc3' : c3 = 0 ∨ c3 = 1 := by omega
  rcases hc3' with rfl | rfl
  · have R : Hid (Wds w (.returned (.slice (some ⟨w2.heap.size, 0, none⟩) l.length l.length)) w3 l.length ((val 18446744073709551616 la % val 18446744073709551616 l + val 18446744073709551616 l - val 18446744073709551616 lb % val 18446744073709551616 l) % val 18446744073709551616 l)) := by
      refine ⟨_, _, r3, rfl, Nat.le_refl _, rd3, ?_, b13⟩
      rw [← HX.out, ← HY.out, show x + val 18446744073709551616 l - y = (x - y) + val 18446744073709551616 l by omega, Nat.add_mod_right, Nat.mod_eq_of_lt (by omega)]
      omega
    clear v3
    go_wp2
    go_ret
    exact R.out
  · have HV3 := hid v3
    clear v3
    go_wp2_with fail
    refine (add_c _ _ l.length l.length l.length cw r3 l w3 rd3 HW (by omega) (by omega)).mono ?_
    rintro e w4 ⟨c4, rfl, h4⟩
    rw [Nat.max_self] at h4 ⊢
    have R : Hid (Wds w (.returned (.slice (some ⟨w3.heap.size, 0, none⟩) l.length l.length)) w4 l.length ((val 18446744073709551616 la % val 18446744073709551616 l + val 18446744073709551616 l - val 18446744073709551616 lb % val 18446744073709551616 l) % val 18446744073709551616 l)) := by
      obtain ⟨r4, rd4, v4, b4, hc4⟩ := h4.wds
      have hr4 := val_lt _ (by decide) r4 rd4.lt
      rw [rd4.len] at hr4
      refine ⟨_, _, r4, rfl, Nat.le_refl _, rd4, ?_, b13.trans (b4.mono b13.size)⟩
      rw [← HX.out, ← HY.out]
      rw [pv_out _ r3 _ (by rw [rd3.len]; exact Nat.le_refl _), pv_out _ l _ (Nat.le_refl _)] at v4
      have h3' := HV3.out
      generalize 18446744073709551616 ^ l.length = P at *
      have hc4' : c4 = 0 ∨ c4 = 1 := by omega
      rw [Nat.mod_eq_of_lt (by omega)]
      rcases hc4' with rfl | rfl <;> omega
    clear h4
    go_wp2
    go_ret
    exact R.out

theorem bit_mod64 (x j : Nat) (hj : j < 64) : x % 18446744073709551616 / 2 ^ j % 2 = x / 2 ^ j % 2 := by
  have e : (18446744073709551616 : Nat) = 2 ^ j * (2 * 2 ^ (63 - j)) := by
    rw [← Nat.pow_succ', ← Nat.pow_add, show j + (63 - j).succ = 64 by omega]
  rw [e, Nat.mod_mul_right_div_self, Nat.mod_mul_right_mod]
theorem bit_at64 (l : List Nat) (h : allLt l) (k : Nat) : l.getD (k / 64) 0 / 2 ^ (k % 64) % 2 = val 18446744073709551616 l / 2 ^ k % 2 := by
  rw [← digit_at 18446744073709551616 (by decide) l h (k / 64), bit_mod64 _ _ (Nat.mod_lt _ (by decide))]
  have e : val 18446744073709551616 l / 2 ^ k = val 18446744073709551616 l / 18446744073709551616 ^ (k / 64) / 2 ^ (k % 64) := by
    rw [Nat.div_div_eq_div_mul, show (18446744073709551616 : Nat) = 2 ^ 64 by decide, ← Nat.pow_mul, ← Nat.pow_add, Nat.div_add_mod]
  rw [e]
theorem blen_lt (n : Nat) : n < 2 ^ blen n := by
  unfold blen
  split
  · subst_vars; decide
  · exact Nat.lt_log2_self
theorem blen_le {n k : Nat} (h : n < 2 ^ k) : blen n ≤ k := by
  unfold blen
  split
  · omega
  · rename_i h0
    exact (Nat.log2_lt h0).2 h
/-- One step of a power. -/
theorem pow_step (a E k M b : Nat) (hb : E / 2 ^ k % 2 = b) : (a ^ (E / 2 ^ (k + 1)) % M) * (a ^ (E / 2 ^ (k + 1)) % M) % M * (if b = 1 then a % M else 1) % M = a ^ (E / 2 ^ k) % M := by
  have e : E / 2 ^ k = 2 * (E / 2 ^ (k + 1)) + b := by
    rw [Nat.pow_succ, ← Nat.div_div_eq_div_mul]; omega
  generalize E / 2 ^ (k + 1) = q at e ⊢
  have e2 : a ^ (2 * q + b) = a ^ q * a ^ q * a ^ b := by rw [Nat.pow_add, Nat.two_mul, Nat.pow_add]
  rw [e, e2, ← Nat.mul_mod]
  have hb2 : b = 0 ∨ b = 1 := by omega
  rcases hb2 with rfl | rfl
  · simp
  · rw [if_pos rfl, Nat.pow_one, ← Nat.mul_mod]

theorem and_one (x s : Nat) (hx : x < 18446744073709551616) : bits .and .u64 ((x : Int) / 2 ^ s) 1 = ((x / 2 ^ s % 2 : Nat) : Int) := by
  have e2 : (x : Int) / 2 ^ s = ((x / 2 ^ s : Nat) : Int) := by
    rw [show ((2 : Int) ^ s) = ((2 ^ s : Nat) : Int) by simp, ← Int.natCast_ediv]
  have hb : x / 2 ^ s < 18446744073709551616 := Nat.lt_of_le_of_lt (Nat.div_le_self _ _) hx
  have h := bits_and_u64_nat (x / 2 ^ s) 1 hb (by omega)
  rw [Nat.and_one_is_mod] at h
  rw [e2]
  exact h

set_option maxHeartbeats 2000000 in
theorem mexp_c (A B : Option Addr) (na ne ca ce p : Nat) (la le l : List Nat) (w : World) (ha : Rd w w.heap.size A na la) (hb : Rd w w.heap.size B ne le) (hM : ModP w p l) (hna : na ≤ 5000) (hne : ne ≤ 5000) :
    Calls Tryd.prog 58 #[.pointer (some ⟨p, 0, none⟩), .slice A na ca, .slice B ne ce] w fun e w' => Wds w e w' l.length (val 18446744073709551616 la ^ val 18446744073709551616 le % val 18446744073709551616 l) := by
  have hl16 := hM.rt.2.1
  go_enter Tryd.func58, Tryd.ntmps58
  go_wp2_with fail
  refine (reduce_c A na ca p la l w ha hM hna).mono ?_
  rintro e w1 ⟨A1, c1, l1, rfl, hc1, rd1, v1, b1⟩
  have hM1 := hM.keep b1 hM.lt
  have HV1 := hid v1
  have r1 := rd_one w1 1 1 rfl (by omega)
  have hbl1 : Below w1.heap.size w1 (w1.alloc (.cells #[.int .u64 1] 22)) := (Below.refl _ _).alloc (Nat.le_refl _) _
  have hz : (w1.alloc (.cells #[.int .u64 1] 22)).heap.size = w1.heap.size + 1 := by simp
  rw [← hz] at r1
  have hM1' := hM1.keep hbl1 hM1.lt
  have HZ := hid hz
  clear v1 hz
  go_wp2_with fail
  refine (reduce_c _ 1 1 p [1] l _ r1 hM1' (by omega)).mono ?_
  rintro e w2 ⟨A2, c2, l2, rfl, hc2, rd2, v2, b2⟩
  rw [val_one] at v2
  have b2' : Below w1.heap.size w1 w2 := hbl1.trans (b2.mono (by rw [HZ.out]; omega))
  have hM2 := hM1.keep b2' hM1.lt
  have b12 : Below w.heap.size w w2 := b1.trans (b2'.mono b1.size)
  have rd12 := rd1.up b2' (Nat.le_refl _)
  have rb2 := hb.up b12 (Nat.le_refl _)
  have HV2 := hid v2
  have hbl := blen_le (n := val 18446744073709551616 le) (k := 64 * ne) (by have := val_lt _ (by decide) le hb.lt; rw [hb.len] at this; rw [Nat.pow_mul]; exact this)
  have HBL := hid (blen_lt (val 18446744073709551616 le))
  clear v2 b2 hbl1 r1 hM1' b2'
  go_wp2_with fail
  refine (bits_c B ne ce _ le w2 rb2 (by omega)).mono ?_
  rintro e w' ⟨rfl, rfl⟩
  go_wp2
  go_loopw [8, 9] (fun r i wr => ∃ k : Nat, k ≤ 64 * ne ∧ i = .int .i64 ((k : Int) - 1) ∧ Below w2.heap.size w2 wr ∧ ∃ A3 c3 l3, r = .slice A3 l.length c3 ∧ l.length ≤ c3 ∧ Rd wr wr.heap.size A3 l.length l3 ∧ Hid (val 18446744073709551616 l3 = val 18446744073709551616 la ^ (val 18446744073709551616 le / 2 ^ k) % val 18446744073709551616 l)) (fun _ i _ => (intOf i + 1).toNat)
  case atStart =>
    refine ⟨blen (val 18446744073709551616 le), hbl, rfl, Below.refl _ _, A2, c2, l2, rfl, hc2, rd2, ?_⟩
    show _ = _
    rw [HV2.out, Nat.div_eq_of_lt HBL.out, Nat.pow_zero]
  case round =>
    obtain ⟨k, hk, rfl, hbw, A3, c3, l3, rfl, hc3, rd3, HV3⟩ := hrel
    rcases k with _ | k
    · have R : Hid (Wds w (.returned (.slice A3 l.length c3)) wr l.length (val 18446744073709551616 la ^ val 18446744073709551616 le % val 18446744073709551616 l)) := by
        refine ⟨_, _, l3, rfl, hc3, rd3, ?_, b12.trans (hbw.mono b12.size)⟩
        rw [HV3.out, Nat.pow_zero, Nat.div_one]
      go_wp2
      go_ret
      exact R.out
    · have e1 : (((k + 1 : Nat) : Int) - 1) = (k : Int) := by omega
      rw [e1]
      clear e1
      have hMw := hM2.keep hbw hM2.lt
      have rbw := rb2.up hbw (Nat.le_refl _)
      have rd1w := rd12.up hbw (Nat.le_refl _)
      go_wp2_with fail
      refine (mmul_c A3 A3 l.length l.length c3 c3 p l3 l3 l _ rd3 rd3 hMw (by omega) (by omega)).mono ?_
      rintro e w4 ⟨A4, c4, l4, rfl, hc4, rd4, v4, b4⟩
      have b24 : Below w2.heap.size w2 w4 := hbw.trans (b4.mono hbw.size)
      have hM4 := hMw.keep b4 hMw.lt
      have rb4 := rbw.up b4 (Nat.le_refl _)
      have rd14 := rd1w.up b4 (Nat.le_refl _)
      have HV4 := hid v4
      have hk64 : k / 64 < ne := by omega
      obtain ⟨bb, ob, rfl, hbb, hcb⟩ := rb4.at_ hk64
      have x0 := at64_nonneg le (k / 64)
      have hand : bits .and .u64 (at64 le (k / 64) / 2 ^ (k % 64)) 1 = ((val 18446744073709551616 le / 2 ^ k % 2 : Nat) : Int) := by
        rw [← bit_at64 le hb.lt k]; exact and_one _ _ (getD_lt _ (by decide) le hb.lt _)
      have HST := hid (pow_step (val 18446744073709551616 la) (val 18446744073709551616 le) k (val 18446744073709551616 l) _ rfl)
      clear v4 rbw rd1w
      have hb2 : val 18446744073709551616 le / 2 ^ k % 2 = 0 ∨ val 18446744073709551616 le / 2 ^ k % 2 = 1 := by omega
      rcases hb2 with hb2 | hb2
      · have hbit : (bits .and .u64 (at64 le (k / 64) / 2 ^ (k % 64)) 1 == 1) = false := by rw [hand, hb2]; rfl
        have HF : Hid (val 18446744073709551616 l4 = val 18446744073709551616 la ^ (val 18446744073709551616 le / 2 ^ k) % val 18446744073709551616 l) := by
          show _ = _
          rw [HV4.out, HV3.out, ← HST.out, hb2, if_neg (by decide), Nat.mul_one, Nat.mod_mod]
        clear hand hb2
        go_wp2
        go_roundw
        case rel => exact ⟨k, by omega, by go_num, b24, A4, c4, l4, rfl, hc4, rd4, HF⟩
        case measure => simp [intOf]
      · have hbit : (bits .and .u64 (at64 le (k / 64) / 2 ^ (k % 64)) 1 == 1) = true := by rw [hand, hb2]; rfl
        have HB2 := hid hb2
        clear hand hb2
        go_wp2_with fail
        refine (mmul_c A4 A1 l.length l.length c4 c1 p l4 l1 l _ rd4 rd14 hM4 (by omega) (by omega)).mono ?_
        rintro e w5 ⟨A5, c5, l5, rfl, hc5, rd5, v5, b5⟩
        have b25 : Below w2.heap.size w2 w5 := b24.trans (b5.mono b24.size)
        have HF : Hid (val 18446744073709551616 l5 = val 18446744073709551616 la ^ (val 18446744073709551616 le / 2 ^ k) % val 18446744073709551616 l) := by
          show _ = _
          rw [v5, HV4.out, HV3.out, HV1.out, ← HST.out, HB2.out, if_pos rfl]
        clear v5
        go_wp2
        go_roundw
        case rel => exact ⟨k, by omega, by go_num, b25, A5, c5, l5, rfl, hc5, rd5, HF⟩
        case measure => simp [intOf]
end Go.Proofs.YtfonpmahcdmajaaDoor
