import Derived.Test.YtfonpmahcdmajaaDoorWidX
import Derived.Test.YtfonpmahcdmajaaDoorLOpsC
import Derived.Test.YtfonpmahcdmajaaDoorGrpU
/-
  avouchref04.Exp: what the call does.
-/
namespace Go.Proofs.YtfonpmahcdmajaaDoor
open Go.RowKit
set_option linter.unusedVariables false

theorem mOf_T (g : Bool) : mOf g < T24 := by cases g <;> decide
theorem mOf_one (g : Bool) : 1 % mOf g = 1 := by cases g <;> decide
theorem exp_odd (a E k M : Nat) (hb : E / 2 ^ k % 2 = 1) : (a ^ (E / 2 ^ (k + 1)) % M) * (a ^ (E / 2 ^ (k + 1)) % M) % M * (a % M) % M = a ^ (E / 2 ^ k) % M := by
  have h := pow_step a E k M 1 hb
  rw [if_pos rfl] at h
  exact h
theorem exp_even (a E k M : Nat) (hb : E / 2 ^ k % 2 = 0) : (a ^ (E / 2 ^ (k + 1)) % M) * (a ^ (E / 2 ^ (k + 1)) % M) % M = a ^ (E / 2 ^ k) % M := by
  have h := pow_step a E k M 0 hb
  rw [if_neg (by decide), Nat.mul_one, Nat.mod_mod] at h
  exact h

set_option maxRecDepth 20000 in
set_option maxHeartbeats 2000000 in
theorem refExp_c (g : Bool) (u v : Value) (X E : Nat) (w : World) (hu : Dg w u X) (hv : Dg w v E) (hE : E < T24) :
    Calls Tryd.prog 71 #[.bool g, u, v] w fun e w' => ∃ r, e = .returned r ∧ Dg w' r (X ^ E % mOf g) ∧ Below w.heap.size w w' := by
  obtain ⟨M, hM⟩ : ∃ M, M = mOf g := ⟨_, rfl⟩
  have HM := hid hM
  have b01 : Below w.heap.size w (w.alloc (.cells #[.int .u64 1] 22)) := (Below.refl _ _).alloc (Nat.le_refl _) _
  have HU := hid (hu.up b01)
  have HV := hid (hv.up b01)
  have HO := hid (one_dg w)
  have HB := hid b01
  have HE := hid hE
  rw [← hM]
  clear hu hv hM b01 hE
  go_enter Tryd.func71, Tryd.ntmps71
  go_wp2_with fail
  refine (refMod_c g u X _ HU.out).mono ?_
  rintro e w1 ⟨a1, rfl, h1, b1⟩
  rw [← HM.out] at h1
  have HA1 := hid h1
  have HV1 := hid (HV.out.up b1)
  have HO1 := hid (HO.out.up b1)
  have HB1 := hid (HB.out.trans (Below.mono (B' := w.heap.size) b1 HB.out.size))
  clear h1 b1 HU HV HO HB
  obtain ⟨A, c, l, rfl, e1, e2, e3, e4, e5, e6⟩ := HV1.out
  have HR := hid e3
  have HD := hid e4
  have H6 := hid e6
  have hbl : blen E ≤ 768 := blen_le (by have := HE.out; rw [show (2 : Nat) ^ 768 = T24 by decide +kernel]; exact this)
  go_wp2_with fail
  refine (refBits_c A l.length c _ l w1 e3 e4 (by omega) e1).mono ?_
  rintro e w' ⟨rfl, rfl⟩
  rw [H6.out]
  obtain ⟨n, hn⟩ : ∃ n, n = blen E := ⟨_, rfl⟩
  rw [← hn] at hbl ⊢
  have HNN := hid hn
  have HBL := hid hbl
  have hw1 : wrap64 ((n : Int) - 1) = (n : Int) - 1 := by unfold wrap64; omega
  clear e1 e2 e3 e4 e5 e6 hn HR HD
  go_wp2_with fail
  try rw [hw1]
  clear hw1 hbl
  go_loopw [7, 8] (fun o i wr => ∃ k : Nat, k ≤ n ∧ i = .int .i64 ((k : Int) - 1) ∧ Dg wr o (X ^ (E / 2 ^ k) % M) ∧ Dg wr a1 (X % M) ∧ Dg wr (.slice A l.length c) E ∧ Below w.heap.size w wr) (fun _ i _ => (intOf i + 1).toNat)
  case atStart =>
    have hlt := blen_lt E
    have hb := HBL.out
    refine ⟨n, Nat.le_refl _, by first | rfl | go_num, ?_, HA1.out, HV1.out, HB1.out⟩
    rw [HNN.out, Nat.div_eq_of_lt hlt, Nat.pow_zero, HM.out, mOf_one]
    exact HO1.out
  case round =>
    clear HO1 HB1 HV1 HA1
    obtain ⟨k, hk, rfl, ho, ha, hv, hb⟩ := hrel
    have HO := hid ho
    have HA := hid ha
    have HV := hid hv
    clear ho ha hv
    rcases k with _ | k
    · have R : Hid (Dg wr u7 (X ^ E % M)) := by have := HO.out; rw [Nat.pow_zero, Nat.div_one] at this; exact this
      go_wp2
      go_ret
      exact ⟨_, rfl, R.out, hb⟩
    · have e1 : (((k + 1 : Nat) : Int) - 1) = (k : Int) := by omega
      rw [e1]
      clear e1
      have k0 : (0 : Int) ≤ (k : Int) := by omega
      have hltM : ∀ Z, Z % M < T24 := fun Z => by rw [HM.out]; exact Nat.lt_trans (Nat.mod_lt _ (mOf_pos g)) (mOf_T g)
      have HLM := hid hltM
      clear hltM
      go_wp2_with fail
      refine (times_c g u7 u7 _ _ wr HO.out HO.out (HLM.out _)).mono ?_
      rintro e w2 ⟨r2, rfl, h2, b2⟩
      rw [← HM.out] at h2
      have H2 := hid h2
      have HA2 := hid (HA.out.up b2)
      have HV2 := hid (HV.out.up b2)
      have hb2 := hb.trans (b2.mono hb.size)
      clear h2 b2
      obtain ⟨A', c', l', e', f1, f2, f3, f4, f5, f6⟩ := HV2.out
      have hbk := HBL.out
      injection e' with e1' e2' e3'
      subst e1' e3'
      have f3' : Rd w2 w2.heap.size A l.length l' := by rw [e2']; exact f3
      have HF4 := hid f4
      have HF6 := hid f6
      clear f1 f2 f3 f4 f5 f6 e2'
      go_wp2_with fail
      refine (bit_c A l.length c _ l' k w2 f3' HF4.out (by omega)).mono ?_
      rintro e w' ⟨rfl, rfl⟩
      rw [HF6.out]
      clear f3'
      have h01 : E / 2 ^ k % 2 = 0 ∨ E / 2 ^ k % 2 = 1 := by omega
      rcases h01 with h0 | h0
      · rw [h0]
        have R := hid (exp_even X E k M h0)
        clear h0
        go_wp2
        go_roundw
        case rel =>
          refine ⟨k, by omega, by go_num, ?_, HA2.out, HV2.out, hb2⟩
          rw [← R.out]; exact H2.out
        case measure => simp [intOf]
      · rw [h0]
        have R := hid (exp_odd X E k M h0)
        clear h0
        go_wp2_with fail
        refine (times_c g r2 a1 _ _ w2 H2.out HA2.out (HLM.out _)).mono ?_
        rintro e w3 ⟨r3, rfl, h3, b3⟩
        rw [← HM.out] at h3
        have H3 := hid h3
        have HA3 := hid (HA2.out.up b3)
        have HV3 := hid (HV2.out.up b3)
        have hb3 := hb2.trans (b3.mono hb2.size)
        clear h3 b3
        go_wp2
        go_roundw
        case rel =>
          refine ⟨k, by omega, by go_num, ?_, HA3.out, HV3.out, hb3⟩
          rw [← R.out]; exact H3.out
        case measure => simp [intOf]
end Go.Proofs.YtfonpmahcdmajaaDoor
/-
  avouchref05.Mul, Exp, avouchref02.Same: what each call does; the squares' powers.
-/
namespace Go.Proofs.YtfonpmahcdmajaaDoor
open Go.RowKit
set_option linter.unusedVariables false

theorem r5Mul_c (u v : Value) (X Y : Nat) (w : World) (hu : Dg w u X) (hv : Dg w v Y) (hY : Y < T24) :
    Calls Tryd.prog 25 #[u, v] w fun e w' => ∃ r, e = .returned r ∧ Dg w' r (X * Y % bigP) ∧ Below w.heap.size w w' := by
  have C := times_c true u v X Y w hu hv hY
  have e : X * Y % mOf true = X * Y % bigP := rfl
  rw [e] at C
  obtain ⟨Z, hZ⟩ : ∃ Z, Z = X * Y % bigP := ⟨_, rfl⟩
  rw [← hZ] at C ⊢
  have HC := hid C
  clear hu hv hY C e hZ
  go_enter Tryd.func25, Tryd.ntmps25
  go_wp2_with fail
  refine HC.out.mono ?_
  rintro e w1 ⟨r, rfl, hr, b1⟩
  have R := hid hr
  clear hr HC
  go_wp2
  go_ret
  exact ⟨_, rfl, R.out, b1⟩
theorem r5Exp_c (u v : Value) (X E : Nat) (w : World) (hu : Dg w u X) (hv : Dg w v E) (hE : E < T24) :
    Calls Tryd.prog 32 #[u, v] w fun e w' => ∃ r, e = .returned r ∧ Dg w' r (X ^ E % bigP) ∧ Below w.heap.size w w' := by
  have C := refExp_c true u v X E w hu hv hE
  have e : X ^ E % mOf true = X ^ E % bigP := rfl
  rw [e] at C
  obtain ⟨Z, hZ⟩ : ∃ Z, Z = X ^ E % bigP := ⟨_, rfl⟩
  rw [← hZ] at C ⊢
  have HC := hid C
  clear hu hv hE C e hZ
  go_enter Tryd.func32, Tryd.ntmps32
  go_wp2_with fail
  refine HC.out.mono ?_
  rintro e w1 ⟨r, rfl, hr, b1⟩
  have R := hid hr
  clear hr HC
  go_wp2
  go_ret
  exact ⟨_, rfl, R.out, b1⟩
theorem same5_c (u v : Value) (X Y : Nat) (w : World) (hu : Dg w u X) (hv : Dg w v Y) :
    Calls Tryd.prog 27 #[u, v] w fun e w' => e = .returned (.bool (decide (X = Y))) ∧ w = w' := by
  have hq := cmpN_zero_iff X Y
  obtain ⟨q, hq'⟩ : ∃ q, q = decide (X = Y) := ⟨_, rfl⟩
  rw [← hq'] at hq ⊢
  clear hq'
  go_enter Tryd.func27, Tryd.ntmps27
  go_wp2_with fail
  refine (gCmp_c u v X Y w hu hv).mono ?_
  rintro e w' ⟨rfl, rfl⟩
  go_wp2
  go_ret
  exact ⟨rfl, rfl⟩
theorem twice_q : 2 * bigQ = bigP - 1 := by decide +kernel
theorem bigP_T24 : bigP < T24 := by rw [T24_eq]; exact bigP_lt
/-- A square's power is 1. -/
theorem square_q (X : Nat) (h : X * X % bigP ≠ 0) : (X * X % bigP) ^ bigQ % bigP = 1 := by
  have h0 : X % bigP ≠ 0 := by
    intro e
    rw [Nat.mul_mod, e, Nat.zero_mul, Nat.zero_mod] at h
    exact h rfl
  rw [← Nat.pow_mod, ← Nat.pow_two, ← Nat.pow_mul, twice_q, Nat.pow_mod]
  exact fermat_prm prm_bigP _ (Nat.pos_of_ne_zero h0) (Nat.mod_lt _ (by decide))
end Go.Proofs.YtfonpmahcdmajaaDoor
