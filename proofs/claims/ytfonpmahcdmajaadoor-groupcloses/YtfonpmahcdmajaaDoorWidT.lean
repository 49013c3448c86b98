/-
  avouchref04.ModP, ModQ, Mod, Size, Read, Bytes; avouchlaw04.Of, Digits: what each call does.
-/
import Derived.Test.YtfonpmahcdmajaaDoorWidS
namespace Go.Proofs.YtfonpmahcdmajaaDoor
open Go.RowKit
set_option linter.unusedVariables false

theorem bigP_T : bigP < T24 := by decide
theorem twoQ : bigP - 1 = 2 * bigQ := by decide
theorem modP_c (u : Value) (X : Nat) (w : World) (hu : Dg w u X) :
    Calls Tryd.prog 23 #[u] w fun e w' => ∃ r, e = .returned r ∧ Dg w' r (X % bigP) ∧ Below w.heap.size w w' := by
  have HU := hid hu
  clear hu
  go_enter Tryd.func23, Tryd.ntmps23
  go_wp2_with fail
  refine (refP_c w).mono ?_
  rintro e w1 ⟨pv, rfl, h1, b1⟩
  have HP := hid h1
  clear h1
  go_wp2_with fail
  refine (fold_c u pv X bigP w1 (HU.out.up b1) HP.out (by decide) bigP_T).mono ?_
  rintro e w2 ⟨r, rfl, h2, b2⟩
  have R := hid h2
  clear h2
  go_wp2
  go_ret
  exact ⟨_, rfl, R.out, bchain b1 b2⟩
/-- A slice of a one that is built. -/
theorem one_dg (w : World) : Dg (w.alloc (.cells #[.int .u64 1] 22)) (.slice (some ⟨w.heap.size, 0, none⟩) 1 1) 1 := by
  have hB := BlkW.new64 w 22 [1] (by intro x hx; simp at hx; omega)
  exact ⟨some ⟨w.heap.size, 0, none⟩, 1, [1], rfl, by decide, by decide, hB.rd0 hB.size rfl, by intro x hx; simp at hx; omega, Or.inr (by decide), by decide⟩

set_option maxRecDepth 20000 in
set_option maxHeartbeats 1000000 in
theorem modQ_c (u : Value) (X : Nat) (w : World) (hu : Dg w u X) :
    Calls Tryd.prog 28 #[u] w fun e w' => ∃ r, e = .returned r ∧ Dg w' r (X % bigQ) ∧ Below w.heap.size w w' := by
  have HU := hid hu
  clear hu
  obtain ⟨Q, hQ⟩ : ∃ Q, Q = bigQ := ⟨_, rfl⟩
  rw [← hQ]
  have HQ := hid hQ
  have H0 : Hid (0 < Q) := hid (by rw [hQ]; decide)
  clear hQ
  go_enter Tryd.func28, Tryd.ntmps28
  go_wp2_with fail
  refine (refP_c w).mono ?_
  rintro e w1 ⟨pv, rfl, h1, b1⟩
  have b12 := b1.alloc b1.size (.cells #[.int .u64 1] 22)
  have HP := hid (h1.up ((Below.refl w1.heap.size w1).alloc (Nat.le_refl _) (.cells #[.int .u64 1] 22)))
  have HO := hid (one_dg w1)
  have HB := hid b12
  clear h1 b1 b12
  go_wp2_with fail
  refine (gSub_c pv _ bigP 1 _ HP.out HO.out (by decide)).mono ?_
  rintro e w2 ⟨mv, rfl, h2, b2⟩
  rw [twoQ, ← HQ.out] at h2
  have b02 := HB.out.trans (Below.mono (B' := w.heap.size) b2 HB.out.size)
  have H2 := hid h2
  clear h2 b2 HB HP HO
  go_wp2_with fail
  refine (fold_c u mv X (2 * Q) w2 (HU.out.up b02) H2.out (by have := H0.out; omega) (by rw [HQ.out]; decide)).mono ?_
  rintro e w3 ⟨r, rfl, h3, b3⟩
  have b03 := bchain b02 b3
  have H3 := hid h3
  have HB3 := hid b03
  clear h3 b03 b02 b3
  go_wp2_with fail
  go_loopw [0] (fun a wr => ∃ X', Dg wr a X' ∧ X' % Q = X % Q ∧ Below w.heap.size w wr) (fun a wr => mval wr a)
  case atStart => exact ⟨_, H3.out, by rw [Nat.mul_comm, Nat.mod_mul_right_mod], HB3.out⟩
  case round =>
    clear H3 HB3 H2
    obtain ⟨Y, ha, hx, hb⟩ := hrel
    have HA := hid ha
    have HX := hid hx
    clear ha hx
    go_wp2_with fail
    refine (refQ_c wr).mono ?_
    rintro e w4 ⟨qv, rfl, h4, b4⟩
    rw [← HQ.out] at h4
    have HA4 := hid (HA.out.up b4)
    have H4 := hid h4
    have hb4 := hb.trans (b4.mono hb.size)
    clear h4
    go_wp2_with fail
    refine (gCmp_c u0 qv Y Q _ HA4.out H4.out).mono ?_
    rintro e w' ⟨rfl, rfl⟩
    rcases Nat.lt_or_ge Y Q with hlt' | hge
    · have hd : decide (0 ≤ cmpN Y Q) = false := cmpN_lt' hlt'
      have R : Hid (Dg w4 u0 (X % Q)) := by
        have := HX.out
        rw [Nat.mod_eq_of_lt hlt'] at this
        rw [← this]
        exact HA4.out
      clear hlt' b4
      go_wp2
      go_ret
      exact ⟨_, rfl, R.out, hb4⟩
    · have hd : decide (0 ≤ cmpN Y Q) = true := cmpN_ge hge
      have HGE := hid hge
      clear hge
      go_wp2_with fail
      refine (refQ_c w4).mono ?_
      rintro e w5 ⟨qv2, rfl, h5, b5⟩
      rw [← HQ.out] at h5
      have H5 := hid h5
      have HA5 := hid (HA4.out.up b5)
      have hb5 := hb4.trans (b5.mono hb4.size)
      clear h5
      go_wp2_with fail
      refine (gSub_c u0 qv2 Y Q w5 HA5.out H5.out HGE.out).mono ?_
      rintro e w7 ⟨sv, rfl, h7, b7⟩
      have H7 := hid h7
      clear h7 hd b4 b5
      go_wp2
      go_roundw
      case rel =>
        refine ⟨_, H7.out, ?_, hb5.trans (b7.mono hb5.size)⟩
        rw [← HX.out]
        exact (Nat.mod_eq_sub_mod HGE.out).symm
      case measure =>
        rw [H7.out.mval, HA.out.mval]
        have := HGE.out
        have := H0.out
        omega

theorem refMod_c (g : Bool) (u : Value) (X : Nat) (w : World) (hu : Dg w u X) :
    Calls Tryd.prog 76 #[.bool g, u] w fun e w' => ∃ r, e = .returned r ∧ Dg w' r (X % mOf g) ∧ Below w.heap.size w w' := by
  cases g
  · go_enter Tryd.func76, Tryd.ntmps76
    go_wp2_with fail
    refine (modQ_c u X w hu).mono ?_
    rintro e w1 ⟨r, rfl, h1, b1⟩
    have R := hid h1
    clear h1 hu
    go_wp2
    go_ret
    exact ⟨_, rfl, R.out, b1⟩
  · go_enter Tryd.func76, Tryd.ntmps76
    go_wp2_with fail
    refine (modP_c u X w hu).mono ?_
    rintro e w1 ⟨r, rfl, h1, b1⟩
    have R := hid h1
    clear h1 hu
    go_wp2
    go_ret
    exact ⟨_, rfl, R.out, b1⟩
theorem refSize_c (g : Bool) (w : World) :
    Calls Tryd.prog 66 #[.bool g] w fun e w' => ∃ r, e = .returned r ∧ Dg w' r (mOf g) ∧ Below w.heap.size w w' := by
  cases g
  · go_enter Tryd.func66, Tryd.ntmps66
    go_wp2_with fail
    refine (refQ_c w).mono ?_
    rintro e w1 ⟨r, rfl, h1, b1⟩
    have R := hid h1
    clear h1
    go_wp2
    go_ret
    exact ⟨_, rfl, R.out, b1⟩
  · go_enter Tryd.func66, Tryd.ntmps66
    go_wp2_with fail
    refine (refP_c w).mono ?_
    rintro e w1 ⟨r, rfl, h1, b1⟩
    have R := hid h1
    clear h1
    go_wp2
    go_ret
    exact ⟨_, rfl, R.out, b1⟩
theorem digitsW_c (X : Nat) (w : World) (hX : X < W12) :
    Calls Tryd.prog 24 #[num X] w fun e w' => ∃ r, e = .returned r ∧ Dg w' r X ∧ Below w.heap.size w w' := by
  have hlen0 := dsc_len X
  have hA0 := o12_new w 24 X
  have ra := hA0.rd0 hA0.size (ds_len X)
  have HL := hid ((Below.refl w.heap.size w).alloc (Nat.le_refl _) (o12 24 X))
  have HV := hid (ds_val X hX)
  have HBD : Hid (X < 4294967296 ^ bigE) := Nat.lt_of_lt_of_le (show X < 4294967296 ^ 24 from by rw [show (4294967296 : Nat) ^ 24 = W12 from T24_eq]; exact hX) (Nat.pow_le_pow_right (by decide) (by decide))
  clear hA0 hX
  unfold num
  go_enter Tryd.func24, Tryd.ntmps24
  go_wp2_with fail
  refine (digits_c _ 12 12 (ds X) _ ra (by decide)).mono ?_
  intro e w1 h
  rw [HV.out] at h
  obtain ⟨r, rfl, hr, b1⟩ := Dg.of h HBD.out
  have R := hid hr
  have b01 := HL.out.trans (Below.mono (B' := w.heap.size) b1 HL.out.size)
  clear hr h ra b1 hlen0 HL
  go_wp2
  go_ret
  exact ⟨_, rfl, R.out, b01⟩
theorem refBytes96_c (u : Value) (X : Nat) (w : World) (hu : Dg w u X) :
    Calls Tryd.prog 19 #[u] w fun e w' => Bts w e w' 96 (X % W12) := by
  obtain ⟨A, c, l, rfl, h1, h2, h3, h4, h5, h6⟩ := hu
  go_enter Tryd.func19, Tryd.ntmps19
  go_wp2_with fail
  refine (words_c A l.length c l 12 12 rfl w h3 h4 (by decide)).mono ?_
  rintro e w1 ⟨A1, c1, l1, rfl, hc1, r1, v1, b1⟩
  go_wp2_with fail
  refine (refBytes_c A1 12 c1 l1 w1 r1 (by decide)).mono ?_
  rintro e w2 ⟨A2, c2, l2, rfl, hc2, r2, v2, b2⟩
  rw [v1, h6] at v2
  have R : Hid (Bts w (.returned (.slice A2 (8 * 12) c2)) w2 (8 * 12) (X % W12)) := hid ⟨A2, c2, l2, rfl, hc2, r2, v2, bchain b1 b2⟩
  clear v1 v2 h6 h4 h5 r1 r2 hc2
  go_wp2
  go_ret
  exact R.out

/-- Twelve words of a slice, as an array. -/
theorem arr_at (b o c : Nat) (w : World) : (Instr.arrayAt 24 (.slice (some ⟨b, o, none⟩) 12 c)).run Tryd.prog w = .ok (.pointer (some ⟨b, o, none⟩)) w := by
  unfold Instr.arrayAt
  rw [Sem.run_bind, run_underlying Tryd.underlying24 w]
  rfl

end Go.Proofs.YtfonpmahcdmajaaDoor
