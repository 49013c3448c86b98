/-
  limb.Bits, (*Modulus).Add, Sub, Exp: what each call does.
-/
import Derived.Test.YtfonpmahcdmajaaDoorLOps
import Derived.Test.YtfonpmahcdmajaaDoorRefH
namespace Go.Proofs.YtfonpmahcdmajaaDoor
open Go.RowKit
set_option linter.unusedVariables false

theorem bitLen_blen (x : Nat) (h0 : x ≠ 0) (hx : x < 18446744073709551616) : Lib.bitLen x = blen x := by
  have h1 : 1 ≤ Lib.bitLen x ∧ 2 ^ (Lib.bitLen x - 1) ≤ x ∧ x < 2 ^ Lib.bitLen x := Lib.bitLenAux_bounds 64 x (by omega) h0
  obtain ⟨a, b, c⟩ := h1
  have := blen_eq (k := Lib.bitLen x - 1) b (by rw [show Lib.bitLen x - 1 + 1 = Lib.bitLen x by omega]; exact c)
  omega
theorem blen_top (l : List Nat) (hl : allLt l) (k : Nat) (hz : ∀ j, k + 1 ≤ j → l.getD j 0 = 0) (h0 : l.getD k 0 ≠ 0) (hk : k < l.length) : blen (val 18446744073709551616 l) = k * 64 + blen (l.getD k 0) := by
  have hx := getD_lt _ (by decide) l hl k
  have h1 : 1 ≤ Lib.bitLen (l.getD k 0) ∧ 2 ^ (Lib.bitLen (l.getD k 0) - 1) ≤ l.getD k 0 ∧ l.getD k 0 < 2 ^ Lib.bitLen (l.getD k 0) := Lib.bitLenAux_bounds 64 _ (by omega) h0
  rw [← bitLen_blen _ h0 hx]
  obtain ⟨a, b, c⟩ := h1
  have hv : val 18446744073709551616 l = pv 18446744073709551616 l k + l.getD k 0 * 18446744073709551616 ^ k := by
    unfold val; rw [pv_zeros _ _ _ _ hz (by omega), pv_succ]
  have hp := pv_lt _ (by decide) l hl k
  have e64 : 18446744073709551616 ^ k = 2 ^ (64 * k) := by rw [Nat.pow_mul]
  have := blen_eq (n := val 18446744073709551616 l) (k := k * 64 + (Lib.bitLen (l.getD k 0) - 1)) ?_ ?_
  · omega
  · rw [hv, Nat.pow_add, Nat.mul_comm k 64, ← e64]
    have : 18446744073709551616 ^ k * 2 ^ (Lib.bitLen (l.getD k 0) - 1) ≤ 18446744073709551616 ^ k * l.getD k 0 := Nat.mul_le_mul_left _ b
    rw [Nat.mul_comm (l.getD k 0)]
    omega
  · rw [hv, show k * 64 + (Lib.bitLen (l.getD k 0) - 1) + 1 = 64 * k + Lib.bitLen (l.getD k 0) by omega, Nat.pow_add, ← e64]
    have : 18446744073709551616 ^ k * (l.getD k 0 + 1) ≤ 18446744073709551616 ^ k * 2 ^ Lib.bitLen (l.getD k 0) := Nat.mul_le_mul_left _ c
    rw [Nat.mul_add, Nat.mul_comm _ (l.getD k 0)] at this
    omega

set_option maxHeartbeats 400000 in
theorem bits_c (A : Option Addr) (n c B : Nat) (l : List Nat) (w : World) (h : Rd w B A n l) (hn : n ≤ 10000) :
    Calls Tryd.prog 92 #[.slice A n c] w fun e w' => e = .returned (.int .i64 (blen (val 18446744073709551616 l) : Int)) ∧ w = w' := by
  go_enter Tryd.func92, Tryd.ntmps92
  go_wp2
  go_loop [3] (fun i => ∃ k : Nat, k ≤ n ∧ i = .int .i64 ((k : Int) - 1) ∧ Hid (∀ j, k ≤ j → l.getD j 0 = 0)) (fun i => (intOf i + 1).toNat)
  case atStart => exact ⟨n, Nat.le_refl _, rfl, fun j hj => getD_out l j (by rw [h.len]; exact hj)⟩
  case round =>
    obtain ⟨k, hk, rfl, H⟩ := hrel
    rcases k with _ | k
    · have HF : Hid ((blen (val 18446744073709551616 l) : Int) = 0) := by
        have : val 18446744073709551616 l = 0 := by unfold val; rw [pv_zeros _ _ _ _ H.out (Nat.zero_le _)]; rfl
        show _ = _
        rw [this]; rfl
      go_wp2
      go_ret
      exact ⟨ret_int HF.out.symm, rfl⟩
    · have e1 : (((k + 1 : Nat) : Int) - 1) = (k : Int) := by omega
      rw [e1]
      clear e1
      obtain ⟨b, off, rfl, hb, hcell⟩ := h.at_ (k := k) (by omega)
      have x0 := at64_nonneg l k
      have x1 : at64 l k ≤ 18446744073709551615 := by have := at64_lt h.lt k; omega
      by_cases hz : l.getD k 0 = 0
      · have hz' : (at64 l k != 0) = false := by unfold at64; rw [hz]; rfl
        have H2 : Hid (∀ j, k ≤ j → l.getD j 0 = 0) := by
          intro j hj
          by_cases hj' : j = k
          · subst hj'; exact hz
          · exact H.out j (by omega)
        clear hz
        go_wp2
        go_round
        case rel => exact ⟨k, by omega, by go_num, H2⟩
        case measure => simp [intOf]
      · have hz' : (at64 l k != 0) = true := bne_iff_ne.2 (by unfold at64; omega)
        have HF : Hid ((blen (val 18446744073709551616 l) : Int) = (k : Int) * 64 + (Lib.bitLen (at64 l k).toNat : Int)) := by
          have e : (at64 l k).toNat = l.getD k 0 := by unfold at64; omega
          show _ = _
          rw [e, bitLen_blen _ hz (getD_lt _ (by decide) l h.lt k), blen_top l h.lt k H.out hz (by rw [h.len]; omega)]
          omega
        have hb64 := Lib.bitLen_le (at64 l k).toNat 64 (by omega) (by omega)
        clear hz
        go_wp2_with fail
        refine (len64_c _ x0 x1 _).mono ?_
        rintro e w' ⟨rfl, rfl⟩
        go_wp2
        go_ret
        exact ⟨ret_int HF.out.symm, rfl⟩

theorem AddRel.wds {w w' : World} {n c : Nat} {la lb : List Nat} (h : AddRel w w.heap.size n la lb w' n c) : ∃ r, Rd w' w'.heap.size (some ⟨w.heap.size, 0, none⟩) n r ∧ val 18446744073709551616 r + c * 18446744073709551616 ^ n = pv 18446744073709551616 la n + pv 18446744073709551616 lb n ∧ Below w.heap.size w w' ∧ c ≤ 1 := by
  obtain ⟨ws, hl, hB, hb, hc, he⟩ := h
  have rd := hB.rd (off := 0) (n := n) (B := w'.heap.size) (by omega) hB.size
  rw [List.drop_zero, List.take_of_length_le (by omega)] at rd
  exact ⟨ws, rd, by unfold val; rw [hl]; exact he, hb, hc⟩
theorem SubRel.wds {w w' : World} {n c : Nat} {la lb : List Nat} (h : SubRel w w.heap.size n la lb w' n c) : ∃ r, Rd w' w'.heap.size (some ⟨w.heap.size, 0, none⟩) n r ∧ val 18446744073709551616 r + pv 18446744073709551616 lb n = pv 18446744073709551616 la n + c * 18446744073709551616 ^ n ∧ Below w.heap.size w w' ∧ c ≤ 1 := by
  obtain ⟨ws, hl, hB, hb, hc, he⟩ := h
  have rd := hB.rd (off := 0) (n := n) (B := w'.heap.size) (by omega) hB.size
  rw [List.drop_zero, List.take_of_length_le (by omega)] at rd
  exact ⟨ws, rd, by unfold val; rw [hl]; exact he, hb, hc⟩

theorem cmpN_ge {x y : Nat} (h : y ≤ x) : decide (0 ≤ cmpN x y) = true := by
  unfold cmpN; rw [if_neg (by omega)]; split <;> decide
theorem cmpN_lt' {x y : Nat} (h : x < y) : decide (0 ≤ cmpN x y) = false := by rw [cmpN_lt h]; decide

set_option maxHeartbeats 2000000 in
theorem madd_c (A B : Option Addr) (na nb ca cb p : Nat) (la lb l : List Nat) (w : World) (ha : Rd w w.heap.size A na la) (hb : Rd w w.heap.size B nb lb) (hM : ModP w p l) (hna : na ≤ 5000) (hnb : nb ≤ 5000) (hpos : 0 < val 18446744073709551616 l) :
    Calls Tryd.prog 86 #[.pointer (some ⟨p, 0, none⟩), .slice A na ca, .slice B nb cb] w fun e w' => Wds w e w' l.length ((val 18446744073709551616 la + val 18446744073709551616 lb) % val 18446744073709551616 l) := by
  have hl16 := hM.rt.2.1
  go_enter Tryd.func86, Tryd.ntmps86
  go_wp2_with fail
  refine (reduce_c A na ca p la l w ha hM hna).mono ?_
  rintro e w1 ⟨A1, c1, l1, rfl, hc1, rd1, v1, b1⟩
  have hM1 := hM.keep b1 hM.lt
  have rb1 := hb.up b1 (Nat.le_refl _)
  have HV1 := hid v1
  clear v1
  go_wp2_with fail
  refine (reduce_c B nb cb p lb l w1 rb1 hM1 hnb).mono ?_
  rintro e w2 ⟨A2, c2, l2, rfl, hc2, rd2, v2, b2⟩
  have hM2 := hM1.keep b2 hM1.lt
  have rd12 := rd1.up b2 (Nat.le_refl _)
  have b12 : Below w.heap.size w w2 := b1.trans (b2.mono b1.size)
  have HV2 := hid v2
  clear v2
  go_wp2_with fail
  refine (add_c A1 A2 l.length l.length c1 c2 l1 l2 w2 rd12 rd2 (by omega) (by omega)).mono ?_
  rintro e w3 ⟨c3, rfl, h3⟩
  rw [Nat.max_self] at h3 ⊢
  obtain ⟨r3, rd3, v3, b3, hc3⟩ := h3.wds
  clear h3
  have hM3 := hM2.keep b3 hM2.lt
  have b13 : Below w.heap.size w w3 := b12.trans (b3.mono b12.size)
  obtain ⟨bw, ow, cw, br, cr, s, lr, k1, k2, k3, k4, k5, k6, k7, k8, k9, k10⟩ := id hM3
  have HW := k4.more (Nat.le_of_lt k9)
  have hML : val 18446744073709551616 l < 18446744073709551616 ^ l.length := val_lt _ (by decide) l k4.lt
  have hr3 := val_lt _ (by decide) r3 rd3.lt
  rw [rd3.len] at hr3
  rw [pv_out _ l1 _ (by rw [rd12.len]; exact Nat.le_refl _), pv_out _ l2 _ (by rw [rd2.len]; exact Nat.le_refl _), HV1.out, HV2.out] at v3
  have hm1 := Nat.mod_lt (val 18446744073709551616 la) hpos
  have hm2 := Nat.mod_lt (val 18446744073709551616 lb) hpos
  have hgoal : (val 18446744073709551616 la + val 18446744073709551616 lb) % val 18446744073709551616 l = (val 18446744073709551616 la % val 18446744073709551616 l + val 18446744073709551616 lb % val 18446744073709551616 l) % val 18446744073709551616 l := by rw [← Nat.add_mod]
  have HG := hid hgoal
  have H7 := hid k7
  clear hgoal k7
  generalize val 18446744073709551616 la % val 18446744073709551616 l = x at v3 hm1 HG
  generalize val 18446744073709551616 lb % val 18446744073709551616 l = y at v3 hm2 HG
  -- with the modulus taken away, or not
  have hfin : ∀ (W' : World) (c4 : Nat), SubRel w3 w3.heap.size l.length r3 l W' l.length c4 → val 18446744073709551616 l ≤ x + y → Wds w (.returned (.slice (some ⟨w3.heap.size, 0, none⟩) l.length l.length)) W' l.length ((val 18446744073709551616 la + val 18446744073709551616 lb) % val 18446744073709551616 l) := by
    intro W' c4 h4 hge
    obtain ⟨r4, rd4, v4, b4, hc4⟩ := h4.wds
    have hr4 := val_lt _ (by decide) r4 rd4.lt
    rw [rd4.len] at hr4
    refine ⟨_, _, r4, rfl, Nat.le_refl _, rd4, ?_, b13.trans (b4.mono b13.size)⟩
    rw [HG.out, show x + y = (x + y - val 18446744073709551616 l) + val 18446744073709551616 l by omega, Nat.add_mod_right, Nat.mod_eq_of_lt (by omega)]
    rw [pv_out _ r3 _ (by rw [rd3.len]; exact Nat.le_refl _), pv_out _ l _ (Nat.le_refl _)] at v4
    generalize 18446744073709551616 ^ l.length = P at *
    have hc3' : c3 = 0 ∨ c3 = 1 := by omega
    have hc4' : c4 = 0 ∨ c4 = 1 := by omega
    rcases hc3' with rfl | rfl <;> rcases hc4' with rfl | rfl <;> omega
  have HFIN := hid hfin
  clear hfin
  have hc3' : c3 = 0 ∨ c3 = 1 := by omega
  rcases hc3' with rfl | rfl
  · have v3' : val 18446744073709551616 r3 = x + y := by omega
    have HV3 := hid v3'
    clear v3 v3'
    by_cases hge : val 18446744073709551616 l ≤ x + y
    · have hcm := cmpN_ge (x := val 18446744073709551616 r3) (y := val 18446744073709551616 l) (by rw [HV3.out]; exact hge)
      have HGE := hid hge
      clear hge
      go_wp2_with fail
      refine (cmp_c _ _ l.length l.length l.length cw r3 l w3 _ rd3 HW (by omega) (by omega)).mono ?_
      rintro e w' ⟨rfl, rfl⟩
      go_wp2_with fail
      refine (sub_c _ _ l.length l.length l.length cw r3 l w3 rd3 HW (by omega) (by omega)).mono ?_
      rintro e w4 ⟨c4, rfl, h4⟩
      rw [Nat.max_self] at h4 ⊢
      have R := hid (HFIN.out w4 c4 h4 HGE.out)
      clear h4
      go_wp2
      go_ret
      exact R.out
    · have hcm := cmpN_lt' (x := val 18446744073709551616 r3) (y := val 18446744073709551616 l) (by rw [HV3.out]; omega)
      have R : Hid (Wds w (.returned (.slice (some ⟨w2.heap.size, 0, none⟩) l.length l.length)) w3 l.length ((val 18446744073709551616 la + val 18446744073709551616 lb) % val 18446744073709551616 l)) :=
        ⟨_, _, r3, rfl, Nat.le_refl _, rd3, by rw [HV3.out, HG.out, Nat.mod_eq_of_lt (by omega)], b13⟩
      clear hge
      go_wp2_with fail
      refine (cmp_c _ _ l.length l.length l.length cw r3 l w3 _ rd3 HW (by omega) (by omega)).mono ?_
      rintro e w' ⟨rfl, rfl⟩
      go_wp2
      go_ret
      exact R.out
  · have HGE : Hid (val 18446744073709551616 l ≤ x + y) := by show _ ≤ _; omega
    clear v3
    go_wp2_with fail
    refine (sub_c _ _ l.length l.length l.length cw r3 l w3 rd3 HW (by omega) (by omega)).mono ?_
    rintro e w4 ⟨c4, rfl, h4⟩
    rw [Nat.max_self] at h4 ⊢
    have R := hid (HFIN.out w4 c4 h4 HGE.out)
    clear h4
    go_wp2
    go_ret
    exact R.out
end Go.Proofs.YtfonpmahcdmajaaDoor
