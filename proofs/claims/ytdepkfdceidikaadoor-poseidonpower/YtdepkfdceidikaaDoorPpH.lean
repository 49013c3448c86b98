import Derived.Test.YtdepkfdceidikaaDoorPpF
/-
  poseidon.Permutation.Permute: what the call does; an example.
-/
namespace Go.Proofs.YtdepkfdceidikaaDoor
open Go.RowKit
set_option linter.unusedVariables false
set_option linter.unusedSimpArgs false


structure PeR (w : World) (b p0 p1 : Nat) (X : Nat → Int) (v : World) : Prop where
  x : ∃ f, BlkV v p0 38 (wds 12 f) ∧ VecZ f X
  z : BlkV v p1 38 (wds 12 z0)
  pi : PI v b
  o : Only b w v
set_option maxRecDepth 20000 in
set_option maxHeartbeats 1000000 in
theorem permute_c (b : Nat) (f : Nat → Int) (X : Nat → Int) (w : World) (hB : PI w b) (hX : VecZ f X) (hG : Glob w) (hlo : 0 < b ∧ 1 < b) :
    Calls Tryd.prog 20 #[.pointer (some ⟨b, 0, none⟩), .agg (wds 12 f).toArray] w fun e w' => ∃ c, e = .returned (.agg (wds 12 c).toArray) ∧ VecZ c (pmZ 65 X) ∧ PI w' b ∧ Only b w w' := by
  have hz := zeroV
  have hlz := wds_len 12 z0
  have hlf := wds_len 12 f
  have hbp : b ≠ w.heap.size := by have := hB.size; omega
  have hbp1 : b ≠ w.heap.size + 1 := by have := hB.size; omega
  have e1 : (w.alloc (oF 38 12 f)).heap.size = w.heap.size + 1 := by simp
  have h0 := (oF_new w 38 12 f).alloc (oF 38 12 z0)
  have h1 := oF_new (w.alloc (oF 38 12 f)) 38 12 z0
  rw [e1] at h1
  have hb := ((Below.refl w.heap.size w).alloc (Nat.le_refl _) (oF 38 12 f)).alloc (by omega) (oF 38 12 z0)
  clear e1
  have R0 := hid (PeR.mk (X := pmZ 0 X) ⟨f, h0, hX⟩ h1 (hB.up hb) (Only.of (b := b) hb))
  have HG := hid hG
  unfold oF at R0
  clear hX hG hB h0 h1 hb
  go_enter Tryd.func20, Tryd.ntmps20
  go_wp2_with fail
  generalize ((w.alloc _).alloc _) = w0 at *
  go_loopw [6] (fun i wr => ∃ k : Nat, k ≤ 65 ∧ i = .int .i64 k ∧ PeR w b (w.heap.size) (w.heap.size + 1) (pmZ k X) wr) (fun i _ => 65 - (intOf i).toNat)
  case atStart => exact ⟨0, by omega, rfl, R0.out⟩
  case round =>
    clear R0
    obtain ⟨k, hk, rfl, hrel⟩ := hrel
    by_cases hlt : k < 65
    · have i0 : (0 : Int) ≤ (k : Int) := by omega
      have i2 : (k : Int) < 65 := by omega
      obtain ⟨⟨h, h1, h2⟩, h3, h4, h5⟩ := hrel
      have HX := hid h1.range
      have HS : Hid (∀ c, VecZ c (rdZ (pcI (k : Int)) (fulI (k : Int)) (pmZ k X)) → VecZ c (pmZ (k + 1) X)) := fun c hc => by
        rw [pcI_nat hlt, fulI_nat] at hc
        exact hc
      have H1 := hid h1
      have H2 := hid h2
      have H3 := hid h3
      have H4 := hid h4
      have H5 := hid h5
      have hlh := wds_len 12 h
      clear h1 h2 h3 h4 h5
      go_wp2_with (first
    | with_reducible refine wpList_load_mid rfl 38 (.tmp 3) rfl (w.heap.size) (0) rfl (wds 12 h) _ (by with_reducible exact HX.out) Tryd.underlying38 rfl (sizeV _) ?_
    | fail)
      refine (round_c b h (pmZ k X) (k : Int) wr H4.out H2.out (H5.out.globF HG.out hlo) hlo).mono ?_
      rintro e w2 ⟨c, rfl, hc, hpi, ho⟩
      have hs0 := H1.out.size
      have hs1 := H3.out.size
      have x2 := ho.blk H1.out (show w.heap.size ≠ b by omega)
      have z2 := ho.blk H3.out (show w.heap.size + 1 ≠ b by omega)
      have HT := hid (x2.thereW 0 12 c (by decide))
      have R2 : Hid (PeR w b (w.heap.size) (w.heap.size + 1) (pmZ (k + 1) X) (w2.setCells (w.heap.size) 0 (wds 12 c))) := hid ⟨⟨c, x2.lay0 c, HS.out c hc⟩, BlkV.put (by omega) _ _ _ z2, by
        obtain ⟨d, g, q1, q2⟩ := hpi
        exact ⟨d, g, BlkV.put (by omega) _ _ _ q1, q2⟩, (H5.out.trans ho).setsUp (Nat.le_refl _) _ _⟩
      have hlc := wds_len 12 c
      clear x2 z2 hc hpi ho H1 H2 H3 H4 H5 HX HS
      go_wp2_with (first
    | with_reducible refine wpList_store_mid rfl 38 (.tmp 3) (.tmp 12) rfl (w.heap.size) (0) (wds 12 c).toArray rfl rfl (by with_reducible exact HT.out) (sizeVA _) (wds_all _ _) ?_
    | fail)
      go_roundw
      case rel => exact ⟨k + 1, by omega, by go_num, R2.out⟩
      case measure => simp [intOf]; omega
    · obtain rfl : k = 65 := by omega
      obtain ⟨⟨h, h1, h2⟩, h3, h4, h5⟩ := hrel
      have HO := hid h1.range
      have HV := hid h2
      have HT := hid (h3.thereW 0 12 h (by decide))
      have HR := hid (h3.lay0 h).range
      have HPI : Hid (PI (wr.setCells (w.heap.size + 1) 0 (wds 12 h)) b) := by
        obtain ⟨d, g, q1, q2⟩ := h4
        exact ⟨d, g, BlkV.put (by omega) _ _ _ q1, q2⟩
      have HB := hid (h5.setsUp (show w.heap.size ≤ w.heap.size + 1 by omega) (wds 12 h) 0)
      have hlh := wds_len 12 h
      clear h1 h2 h3 h4 h5
      go_wp2_with (first
    | with_reducible refine wpList_load_mid rfl 38 (.tmp 3) rfl (w.heap.size) (0) rfl (wds 12 h) _ (by with_reducible exact HO.out) Tryd.underlying38 rfl (sizeV _) ?_
    | with_reducible refine wpList_store_mid rfl 38 (.tmp 4) (.tmp 14) rfl (w.heap.size + 1) (0) (wds 12 h).toArray rfl rfl (by with_reducible exact HT.out) (sizeVA _) (wds_all _ _) ?_
    | fail)
      refine bodyPost_ret (results_cell1 Tryd.results20 ⟨w.heap.size + 1, 0, none⟩ _ rfl (run_loadVar_mid _ (w.heap.size + 1) 0 38 (wds 12 h) _ HR.out Tryd.underlying38 rfl (sizeV _))) rfl ?_
      exact ⟨_, rfl, HV.out, HPI.out, HB.out⟩
end Go.Proofs.YtdepkfdceidikaaDoor
/-
  avouchlaw10.speaks: the walk.
-/
namespace Go.Proofs.YtdepkfdceidikaaDoor
open Go.RowKit
set_option linter.unusedVariables false
set_option linter.unusedSimpArgs false


theorem from2_c (w : World) (hG : Glob w) : Calls Tryd.prog 18 #[.int .u64 2] w fun e w' => ∃ r, e = .returned r ∧ Ez r 2 ∧ Below w.heap.size w w' := fromUint64Z_c 2 w (by decide) hG
theorem from32_c (w : World) (hG : Glob w) : Calls Tryd.prog 18 #[.int .u64 32] w fun e w' => ∃ r, e = .returned r ∧ Ez r 32 ∧ Below w.heap.size w w' := fromUint64Z_c 32 w (by decide) hG
theorem pw5_2 : pw5 2 % pZ = 32 % pZ := by decide +kernel
theorem pw5_2n : pw5 2 % pZ ≠ 0 := by decide +kernel
theorem Glob.lo {w : World} (hG : Glob w) {p : Nat} (h : w.heap.size ≤ p) : 0 < p ∧ 1 < p := ⟨Nat.lt_of_lt_of_le hG.sizeP h, Nat.lt_of_lt_of_le hG.sizeR h⟩
theorem over_only {w w1 w2 : World} {p : Nat} (b1 : Below w.heap.size w w1) (ho : Only p w1 w2) (hp : w.heap.size ≤ p) : Below w.heap.size w w2 := b1.trans (ho.below hp b1.size)
set_option maxRecDepth 20000 in
set_option maxHeartbeats 1000000 in
theorem speaks10_c (w : World) (hG : Glob w) : Calls Tryd.prog 5 #[] w fun e w' => e = .returned (.bool true) ∧ Below w.heap.size w w' := by
  have hz := zeroV
  have hlz := wds_len 12 z0
  have HG := hid hG
  clear hG
  go_enter Tryd.func5, Tryd.ntmps5
  go_wp2_with fail
  refine (pnew_c w).mono ?_
  rintro e w1 ⟨p, rfl, hp, hpi, b1⟩
  go_wp2_with fail
  refine (permute_c p z0 (fun _ => 0) w1 hpi VecZ.zeros (HG.out.up b1) (HG.out.lo hp)).mono ?_
  rintro e w2 ⟨c, rfl, hc, hpi2, ho⟩
  have B2 := hid (over_only b1 ho hp)
  obtain ⟨n1, n2, n3⟩ := newRow w2 38 12 c
  have N1 := hid n1
  have HC := hid (hc.at_ 0 (by decide)).out
  have HL := hid (n2.sub 0 4 (by decide))
  have B3 := hid (bchain B2.out n3)
  obtain ⟨a, ha⟩ : ∃ a : Nat → Int, a = fun k => c (0 + k) := ⟨_, rfl⟩
  have HA : Hid (Ez (.agg (wds 4 a).toArray) (pmZ 65 (fun _ => 0) 0)) := by rw [ha]; exact HC.out
  rw [← ha] at HL
  have hla := wds_len 4 a
  have hlc := wds_len 12 c
  clear ha n1 n2 n3 hc hpi hpi2 ho b1 hp HC B2
  unfold oF at N1 HL B3
  go_wp2_with (first
    | with_reducible refine wpList_store_mid rfl 38 (.tmp 2) (.tmp 8) rfl (w2.heap.size) 0 (wds 12 c).toArray rfl rfl (by with_reducible exact N1.out) (sizeVA _) (wds_all _ _) ?_
    | with_reducible refine wpList_load_mid rfl 27 (.tmp 9) rfl (w2.heap.size) 0 rfl (wds 4 a) _ (by with_reducible exact HL.out) Tryd.underlying27 rfl (sizeE _) ?_
    | fail)
  obtain ⟨w3, hw3⟩ : ∃ x, x = (w2.alloc (.cells (wds 12 z0).toArray 38)).setCells w2.heap.size 0 (wds 12 c) := ⟨_, rfl⟩
  rw [← hw3] at B3 ⊢
  clear hw3 N1 HL
  refine (isZero_f _ _ w3 HA.out pm_zero).mono ?_
  rintro e w4 ⟨rfl, b4⟩
  have B4 := hid (bchain B3.out b4)
  clear b4 B3
  go_wp2_with fail
  refine (from2_c w4 (HG.out.up B4.out)).mono ?_
  rintro e w5 ⟨r1, rfl, h1, b5⟩
  have B5 := hid (bchain B4.out b5)
  clear b5 B4
  go_wp2_with fail
  refine (power_c r1 2 w5 h1 (HG.out.up B5.out)).mono ?_
  rintro e w6 ⟨r2, rfl, h2, b6⟩
  have B6 := hid (bchain B5.out b6)
  clear b6 B5
  go_wp2_with fail
  refine (from32_c w6 (HG.out.up B6.out)).mono ?_
  rintro e w7 ⟨r3, rfl, h3, b7⟩
  have B7 := hid (bchain B6.out b7)
  clear b7 B6
  go_wp2_with fail
  refine (equal_t r2 r3 _ _ w7 h2 h3 pw5_2).mono ?_
  rintro e w8 ⟨rfl, b8⟩
  have B8 := hid (bchain B7.out b8)
  clear b8 B7
  go_wp2_with fail
  refine (from2_c w8 (HG.out.up B8.out)).mono ?_
  rintro e w9 ⟨r4, rfl, h4, b9⟩
  have B9 := hid (bchain B8.out b9)
  clear b9 B8
  go_wp2_with fail
  refine (power_c r4 2 w9 h4 (HG.out.up B9.out)).mono ?_
  rintro e w10 ⟨r5, rfl, h5, b10⟩
  have B10 := hid (bchain B9.out b10)
  clear b10 B9
  go_wp2_with fail
  refine (isZero_f _ _ w10 h5 pw5_2n).mono ?_
  rintro e w11 ⟨rfl, b11⟩
  have B11 := hid (bchain B10.out b11)
  clear b11 B10
  go_wp2_with fail
  go_ret
  exact ⟨rfl, B11.out⟩
end Go.Proofs.YtdepkfdceidikaaDoor
