/-
  avouchref01.Exp: what the call does.
-/
import Derived.Test.YthliochnmlbgcaaRefH
import Derived.Test.YthliochnmlbgcaaLOpsC
namespace Go.Proofs.Ythliochnmlbgcaa
open Go.RowKit
set_option linter.unusedVariables false

set_option maxHeartbeats 4000000 in
theorem refExp_c (A E M : Option Addr) (na ne nm ca ce cm : Nat) (la le lm : List Nat) (w : World) (ha : Rd w w.heap.size A na la) (he : Rd w w.heap.size E ne le) (hm : Rd w w.heap.size M nm lm) (da : D32 la) (de : D32 le) (dm : D32 lm)
    (hna : na ≤ 1000) (hne : ne ≤ 1000) (hnm : nm ≤ 400) (hpos : 0 < val 4294967296 lm) :
    Calls Try.prog 37 #[.slice A na ca, .slice E ne ce, .slice M nm cm] w fun e w' => Dig w e w' (val 4294967296 la ^ val 4294967296 le % val 4294967296 lm) := by
  have HM : Hid (val 4294967296 lm < 4294967296 ^ nm) := by have := val_lt _ (by decide) lm dm; rw [hm.len] at this; exact this
  have HE : Hid (val 4294967296 le < 2 ^ (32 * ne)) := by have := val_lt _ (by decide) le de; rw [he.len] at this; rw [Nat.pow_mul]; exact this
  have r1 := rd_one w 1 1 rfl (by omega)
  have hbl1 : Below w.heap.size w (w.alloc (.cells #[.int .u64 1] 25)) := (Below.refl _ _).alloc (Nat.le_refl _) _
  have hz : (w.alloc (.cells #[.int .u64 1] 25)).heap.size = w.heap.size + 1 := by simp
  rw [← hz] at r1
  have HR1 := hid (And.intro r1 hbl1)
  clear hz r1 hbl1
  go_enter Try.func37, Try.ntmps37
  go_wp2_with fail
  generalize w.alloc (.cells #[.int .u64 1] 25) = w0 at HR1 ⊢
  obtain ⟨r1, b0⟩ := HR1.out
  clear HR1
  refine (mod_c _ M 1 nm 1 cm [1] lm w0 r1 (hm.up b0 (Nat.le_refl _)) (d32_one (by omega)) dm (by omega) (by omega) hpos).mono ?_
  rintro e w1 ⟨A1, c1, l1, rfl, hc1, rd1, d1, t1, v1, b1⟩
  rw [val_one] at v1
  have HV1 := hid v1
  have b01 : Below w.heap.size w w1 := b0.trans (b1.mono b0.size)
  clear v1 b0 b1 r1
  go_wp2_with fail
  refine (mod_c A M na nm ca cm la lm w1 (ha.up b01 (Nat.le_refl _)) (hm.up b01 (Nat.le_refl _)) da dm hna (by omega) hpos).mono ?_
  rintro e w2 ⟨A2, c2, l2, rfl, hc2, rd2, d2, t2, v2, b2⟩
  have HV2 := hid v2
  have b02 : Below w.heap.size w w2 := b01.trans (b2.mono b01.size)
  have rd12 := rd1.up b2 (Nat.le_refl _)
  have hl2 : l2.length ≤ nm := tr_len t2 _ (by rw [v2]; exact Nat.lt_trans (Nat.mod_lt _ hpos) HM.out)
  clear v2 b2 rd1 b01
  go_wp2
  go_loopw [7, 8] (fun r i wr => ∃ k : Nat, k ≤ 32 * ne ∧ i = .int .i64 ((k : Int) - 1) ∧ Below w2.heap.size w2 wr ∧ Hid (DigV wr r (val 4294967296 la ^ (val 4294967296 le / 2 ^ k) % val 4294967296 lm))) (fun _ i _ => (intOf i + 1).toNat)
  case atStart =>
    refine ⟨32 * ne, Nat.le_refl _, by go_num, Below.refl _ _, ?_⟩
    rw [Nat.div_eq_of_lt HE.out, Nat.pow_zero]
    exact ⟨A1, c1, l1, rfl, hc1, rd12, d1, t1, HV1.out⟩
  case round =>
    obtain ⟨k, hk, rfl, hbw, HD⟩ := hrel
    have b0w : Below w.heap.size w wr := b02.trans (hbw.mono b02.size)
    obtain ⟨A3, c3, l3, rfl, hc3, rd3, d3, t3, v3⟩ := HD.out
    have HV3 := hid v3
    have hl3 : l3.length ≤ nm := tr_len t3 _ (by rw [v3]; exact Nat.lt_trans (Nat.mod_lt _ hpos) HM.out)
    clear v3 HD
    rcases k with _ | k
    · have R : Hid (val 4294967296 l3 = val 4294967296 la ^ val 4294967296 le % val 4294967296 lm) := by
        show _ = _
        rw [HV3.out, Nat.pow_zero, Nat.div_one]
      clear HV3
      go_wp2
      go_ret
      exact ⟨A3, c3, l3, rfl, hc3, rd3, d3, t3, R.out, b0w⟩
    · have e1 : (((k + 1 : Nat) : Int) - 1) = (k : Int) := by omega
      rw [e1]
      clear e1
      have rm := hm.up b0w (Nat.le_refl _)
      have re := he.up b0w (Nat.le_refl _)
      have r2 := rd2.up hbw (Nat.le_refl _)
      go_wp2_with fail
      refine (refMul_c A3 A3 _ _ c3 c3 l3 l3 wr rd3 rd3 d3 d3 (by omega) (by omega)).mono ?_
      rintro e w4 ⟨A4, c4, l4, rfl, hc4, rd4, d4, t4, v4, b4⟩
      have HV4 := hid v4
      have hl4 : l4.length ≤ nm + nm := tr_len t4 _ (by
        rw [v4, HV3.out, Nat.pow_add 4294967296 nm nm]
        have h := Nat.lt_trans (Nat.mod_lt (val 4294967296 la ^ (val 4294967296 le / 2 ^ (k + 1))) hpos) HM.out
        exact Nat.mul_lt_mul'' h h)
      have rm4 := rm.up b4 (Nat.le_refl _)
      clear v4
      go_wp2_with fail
      refine (mod_c A4 M _ nm c4 cm l4 lm w4 rd4 rm4 d4 dm (by omega) (by omega) hpos).mono ?_
      rintro e w5 ⟨A5, c5, l5, rfl, hc5, rd5, d5, t5, v5, b5⟩
      have HV5 := hid v5
      have hl5 : l5.length ≤ nm := tr_len t5 _ (by rw [v5]; exact Nat.lt_trans (Nat.mod_lt _ hpos) HM.out)
      have bw5 : Below wr.heap.size wr w5 := b4.trans (b5.mono b4.size)
      have b25 : Below w2.heap.size w2 w5 := hbw.trans (bw5.mono hbw.size)
      have re5 := re.up bw5 (Nat.le_refl _)
      have rm5 := rm.up bw5 (Nat.le_refl _)
      have r25 := r2.up bw5 (Nat.le_refl _)
      have HST := hid (pow_step (val 4294967296 la) (val 4294967296 le) k (val 4294967296 lm) _ rfl)
      clear v5 b4 b5 rd4 rm4 rm re r2 bw5
      have hb2 : val 4294967296 le / 2 ^ k % 2 = 0 ∨ val 4294967296 le / 2 ^ k % 2 = 1 := by omega
      go_wp2_with fail
      refine (bit_c E ne ce _ le k w5 re5 de (by omega)).mono ?_
      rintro e w' ⟨rfl, rfl⟩
      rcases hb2 with hb2 | hb2
      · rw [hb2]
        have HF : Hid (DigV w5 (.slice A5 l5.length c5) (val 4294967296 la ^ (val 4294967296 le / 2 ^ k) % val 4294967296 lm)) := by
          refine ⟨A5, c5, l5, rfl, hc5, rd5, d5, t5, ?_⟩
          rw [HV5.out, HV4.out, HV3.out, ← HST.out, hb2, if_neg (by decide), Nat.mul_one, Nat.mod_mod]
        clear hb2
        go_wp2
        go_roundw
        case rel => exact ⟨k, by omega, by go_num, b25, HF⟩
        case measure => simp [intOf]
      · rw [hb2]
        have HB2 := hid hb2
        clear hb2
        go_wp2_with fail
        refine (refMul_c A5 A2 _ _ c5 c2 l5 l2 w5 rd5 r25 d5 d2 (by omega) (by omega)).mono ?_
        rintro e w6 ⟨A6, c6, l6, rfl, hc6, rd6, d6, t6, v6, b6⟩
        have HV6 := hid v6
        have hl6 : l6.length ≤ nm + nm := tr_len t6 _ (by
          rw [v6, HV5.out, HV2.out, Nat.pow_add 4294967296 nm nm]
          exact Nat.mul_lt_mul'' (Nat.lt_trans (Nat.mod_lt _ hpos) HM.out) (Nat.lt_trans (Nat.mod_lt _ hpos) HM.out))
        have rm6 := rm5.up b6 (Nat.le_refl _)
        clear v6
        go_wp2_with fail
        refine (mod_c A6 M _ nm c6 cm l6 lm w6 rd6 rm6 d6 dm (by omega) (by omega) hpos).mono ?_
        rintro e w7 ⟨A7, c7, l7, rfl, hc7, rd7, d7, t7, v7, b7⟩
        have b27 : Below w2.heap.size w2 w7 := b25.trans ((b6.trans (b7.mono b6.size)).mono b25.size)
        have HF : Hid (DigV w7 (.slice A7 l7.length c7) (val 4294967296 la ^ (val 4294967296 le / 2 ^ k) % val 4294967296 lm)) := by
          refine ⟨A7, c7, l7, rfl, hc7, rd7, d7, t7, ?_⟩
          rw [v7, HV6.out, HV5.out, HV4.out, HV3.out, HV2.out, ← HST.out, HB2.out, if_pos rfl]
        clear v7 b6 b7 rd6 rm6
        go_wp2
        go_roundw
        case rel => exact ⟨k, by omega, by go_num, b27, HF⟩
        case measure => simp [intOf]
end Go.Proofs.Ythliochnmlbgcaa
