/-
  avouchlaw09.MatrixReckons: the walk.
-/
import Derived.Test.YtlpccdbcaffmmaaDoorLawMMin
namespace Go.Proofs.YtlpccdbcaffmmaaDoor
open Go.RowKit
set_option linter.unusedVariables false
set_option linter.unusedSimpArgs false


theorem cong_refl (X : MZ) : MCong X X := fun _ _ _ _ => rfl
set_option maxRecDepth 40000 in
set_option maxHeartbeats 2000000 in
theorem matrixReckons_w (A0 : Nat → Option Addr) (n0 c0 : Nat → Nat) (l0 : Nat → List Nat) (A1 : Nat → Option Addr) (n1 c1 : Nat → Nat) (l1 : Nat → List Nat) (w : World) (hN0 : N9 w w.heap.size A0 n0 l0) (hN1 : N9 w w.heap.size A1 n1 l1) (hG : Glob w) :
    Calls Tryd.prog 3 #[.agg (sls A0 n0 c0).toArray, .agg (sls A1 n1 c1).toArray] w fun e w' => e = .returned (.bool true) ∧ Below w.heap.size w w' := by
  have e1 : (w.alloc (.cells (sls A0 n0 c0).toArray 24)).heap.size = w.heap.size + 1 := by simp
  have x0 := (BlkV.new w 24 (sls A0 n0 c0)).alloc (.cells (sls A1 n1 c1).toArray 24)
  have hls0 := sls_len A0 n0 c0
  have x1 := BlkV.new (w.alloc (.cells (sls A0 n0 c0).toArray 24)) 24 (sls A1 n1 c1)
  rw [e1] at x1
  have hls1 := sls_len A1 n1 c1
  have HB := hid (((Below.refl w.heap.size w).alloc (Nat.le_refl _) (.cells (sls A0 n0 c0).toArray 24)).alloc (by omega) (.cells (sls A1 n1 c1).toArray 24))
  have HX0 := hid x0
  have HN0 := hid hN0
  have HX1 := hid x1
  have HN1 := hid hN1
  have HG := hid hG
  clear x0 hN0 x1 hN1 e1 hG
  by_cases hF0 : Few n0
  · by_cases hF1 : Few n1
    · go_enter Tryd.func3, Tryd.ntmps3
      go_wp2_with fail
      generalize ((w.alloc _).alloc _) = w0 at *
      refine (speaks9_c w0 (HG.out.up HB.out)).mono ?_
      rintro e w1 ⟨rfl, b1⟩
      have HX0' := hid (HX0.out.up b1)
      clear HX0
      have HX0 := HX0'
      clear HX0'
      have HX1' := hid (HX1.out.up b1)
      clear HX1
      have HX1 := HX1'
      clear HX1'
      have HB' := hid (bchain HB.out b1)
      clear HB
      have HB := HB'
      clear HB' b1
      go_wp2_with (first
    | refine wpList_load_midG (by rfl) 24 (.tmp 2) rfl (w.heap.size) 0 rfl (sls A0 n0 c0) _ (by with_reducible exact HX0.out.range) Tryd.underlying24 rfl (sizeNA _ _ _) ?_
    | fail)
      refine (few_t A0 n0 c0 w1 hF0).mono ?_
      rintro e w1f0 ⟨rfl, bf0⟩
      have HX0' := hid (HX0.out.up bf0)
      clear HX0
      have HX0 := HX0'
      clear HX0'
      have HX1' := hid (HX1.out.up bf0)
      clear HX1
      have HX1 := HX1'
      clear HX1'
      have HB' := hid (bchain HB.out bf0)
      clear HB
      have HB := HB'
      clear HB' bf0
      go_wp2_with (first
    | refine wpList_load_midG (by rfl) 24 (.tmp 3) rfl (w.heap.size + 1) 0 rfl (sls A1 n1 c1) _ (by with_reducible exact HX1.out.range) Tryd.underlying24 rfl (sizeNA _ _ _) ?_
    | fail)
      refine (few_t A1 n1 c1 w1f0 hF1).mono ?_
      rintro e w1f0f1 ⟨rfl, bf1⟩
      have HX0' := hid (HX0.out.up bf1)
      clear HX0
      have HX0 := HX0'
      clear HX0'
      have HX1' := hid (HX1.out.up bf1)
      clear HX1
      have HX1 := HX1'
      clear HX1'
      have HB' := hid (bchain HB.out bf1)
      clear HB
      have HB := HB'
      clear HB' bf1
      have hz := zeroM
      have hlz := wds_len 36 z0
      have hzv := zeroV
      have hlv := wds_len 12 z0
      go_wp2_with (first
    | with_reducible refine wpList_load_mid rfl 24 (.tmp 2) rfl (w.heap.size) 0 rfl (sls A0 n0 c0) _ (by with_reducible exact HX0.out.range) Tryd.underlying24 rfl (sizeNA _ _ _) ?_
    | fail)
      refine (of9_c A0 n0 c0 l0 w1f0f1 ((HN0.out.below HB.out (Nat.le_refl _)).more HB.out.size) hF0 (HG.out.up HB.out)).mono ?_
      rintro e wo0 ⟨f0, r0, rfl, hM0, hR0, bo0⟩
      obtain ⟨nn1, nn2, nn3⟩ := newRow wo0 34 36 f0
      have N1 := hid nn1
      have HM0 := hid hM0
      have HY0 := hid nn2
      have HR0 := hid (hR0.up nn3)
      have bb0 := bchain bo0 nn3
      have hlf0 := wds_len 36 f0
      clear nn1 nn2 nn3 hM0 hR0 bo0
      have HX0' := hid (HX0.out.up bb0)
      clear HX0
      have HX0 := HX0'
      clear HX0'
      have HX1' := hid (HX1.out.up bb0)
      clear HX1
      have HX1 := HX1'
      clear HX1'
      have HB' := hid (bchain HB.out bb0)
      clear HB
      have HB := HB'
      clear HB' bb0
      unfold oF at N1 HY0 HR0 HX0 HX1 HB
      go_wp2_with (first
    | with_reducible refine wpList_store_mid rfl 34 (.tmp 5) (.tmp 28) rfl (wo0.heap.size) (0) (wds 36 f0).toArray rfl rfl (by with_reducible exact N1.out) (sizeMA _) (wds_all _ _) ?_
    | with_reducible refine wpList_load_mid rfl 24 (.tmp 3) rfl (w.heap.size + 1) 0 rfl (sls A1 n1 c1) _ (by with_reducible exact HX1.out.range) Tryd.underlying24 rfl (sizeNA _ _ _) ?_
    | fail)
      clear N1
      obtain ⟨p0, hp0⟩ : ∃ b, b = wo0.heap.size := ⟨_, rfl⟩
      rw [← hp0] at HY0 HR0 HX0 HX1 HB ⊢
      generalize ((wo0.alloc _).setCells _ _ _) = wm0 at *
      clear hp0
      refine (of9_c A1 n1 c1 l1 wm0 ((HN1.out.below HB.out (Nat.le_refl _)).more HB.out.size) hF1 (HG.out.up HB.out)).mono ?_
      rintro e wo1 ⟨f1, r1, rfl, hM1, hR1, bo1⟩
      obtain ⟨nn1, nn2, nn3⟩ := newRow wo1 34 36 f1
      have N1 := hid nn1
      have HM1 := hid hM1
      have HY1 := hid nn2
      have HR1 := hid (hR1.up nn3)
      have bb1 := bchain bo1 nn3
      have hlf1 := wds_len 36 f1
      clear nn1 nn2 nn3 hM1 hR1 bo1
      have HX0' := hid (HX0.out.up bb1)
      clear HX0
      have HX0 := HX0'
      clear HX0'
      have HX1' := hid (HX1.out.up bb1)
      clear HX1
      have HX1 := HX1'
      clear HX1'
      have HY0' := hid (HY0.out.up bb1)
      clear HY0
      have HY0 := HY0'
      clear HY0'
      have HR0' := hid (HR0.out.up bb1)
      clear HR0
      have HR0 := HR0'
      clear HR0'
      have HB' := hid (bchain HB.out bb1)
      clear HB
      have HB := HB'
      clear HB' bb1
      have HPP := hid (HY1.out)
      have HSUB : Hid (∀ v b, BlkV v b 34 (wds 36 f1) → v.rangeAt b 0 (wds 12 fun k => f1 (0 + k))) := fun v b hv => hv.sub 0 12 (by decide)
      have HV0 : Hid (VecZ (fun k => f1 (0 + k)) (nums l1 0)) := ⟨fun j hj => (HM1.out.at_ 0 j (by decide) hj).shift.eq rfl rfl⟩
      obtain ⟨a, ha⟩ : ∃ a : Nat → Int, a = fun k => f1 (0 + k) := ⟨_, rfl⟩
      rw [← ha] at HSUB HV0
      clear ha HPP
      have hla := wds_len 12 a
      have HRG := hid (HSUB.out _ _ HY1.out)
      unfold oF at N1 HY1 HR1 HX0 HX1 HY0 HR0 HB HRG
      go_wp2_with (first
    | with_reducible refine wpList_store_mid rfl 34 (.tmp 7) (.tmp 33) rfl (wo1.heap.size) (0) (wds 36 f1).toArray rfl rfl (by with_reducible exact N1.out) (sizeMA _) (wds_all _ _) ?_
    | with_reducible refine wpList_load_mid rfl 34 (.tmp 5) rfl (p0) (0) rfl (wds 36 f0) _ (by with_reducible exact HY0.out.range) Tryd.underlying34 rfl (sizeM _) ?_
    | with_reducible refine wpList_load_mid rfl 32 (.tmp 36) rfl (wo1.heap.size) (0) rfl (wds 12 a) _ (by with_reducible exact HRG.out) Tryd.underlying32 rfl (sizeV _) ?_
    | fail)
      clear N1 HRG
      obtain ⟨p1, hp1⟩ : ∃ b, b = wo1.heap.size := ⟨_, rfl⟩
      rw [← hp1] at HY1 HR1 HX0 HX1 HY0 HR0 HB ⊢
      generalize ((wo1.alloc _).setCells _ _ _) = wm1 at *
      clear hp1
      refine (apply_c f0 a (nums l0) (nums l1 0) wm1 HM0.out HV0.out (HG.out.up HB.out)).mono ?_
      rintro e wp ⟨g, rfl, hg, bp⟩
      obtain ⟨nn1, nn2, nn3⟩ := newRow wp 32 12 g
      have N1 := hid nn1
      have HVG := hid hg
      have HZ := hid nn2
      have bpp := bchain bp nn3
      have hlg := wds_len 12 g
      clear nn1 nn2 nn3 hg bp
      have HX0' := hid (HX0.out.up bpp)
      clear HX0
      have HX0 := HX0'
      clear HX0'
      have HX1' := hid (HX1.out.up bpp)
      clear HX1
      have HX1 := HX1'
      clear HX1'
      have HY0' := hid (HY0.out.up bpp)
      clear HY0
      have HY0 := HY0'
      clear HY0'
      have HY1' := hid (HY1.out.up bpp)
      clear HY1
      have HY1 := HY1'
      clear HY1'
      have HR0' := hid (HR0.out.up bpp)
      clear HR0
      have HR0 := HR0'
      clear HR0'
      have HR1' := hid (HR1.out.up bpp)
      clear HR1
      have HR1 := HR1'
      clear HR1'
      have HB' := hid (bchain HB.out bpp)
      clear HB
      have HB := HB'
      clear HB' bpp
      unfold oF at N1 HZ HX0 HX1 HY0 HY1 HR0 HR1 HB
      obtain ⟨bx, cx, rfl, hq1, hq2⟩ := HR0.out.at_
      obtain ⟨bv, cv, rfl, hbv, hcv⟩ := HR1.out.at_
      obtain ⟨d0, hd0, cd0⟩ := hcv 0 (by decide)
      obtain ⟨b0, c0', rfl, hq3, hq4⟩ := hd0.at_
      have HD0 := hid hd0
      clear hcv hd0 hq1 hq2 hq3 hq4 hbv
      go_wp2_with (first
    | with_reducible refine wpList_store_mid rfl 32 (.tmp 9) (.tmp 38) rfl (wp.heap.size) (0) (wds 12 g).toArray rfl rfl (by with_reducible exact N1.out) (sizeVA _) (wds_all _ _) ?_
    | fail)
      clear N1 cd0
      obtain ⟨pz, hpz⟩ : ∃ b, b = wp.heap.size := ⟨_, rfl⟩
      rw [← hpz] at HZ HX0 HX1 HY0 HY1 HR0 HR1 HB HD0 ⊢
      generalize ((wp.alloc _).setCells _ _ _) = wq at *
      clear hpz
      refine (r9Apply_c _ _ (nums l0) (nums l1 0) wq HR0.out HD0.out).mono ?_
      rintro e wr0 ⟨vd, rfl, hvd, br⟩
      obtain ⟨bw, cw, rfl, hq5, hq6⟩ := hvd.at_
      clear hq5 hq6
      have HW := hid hvd
      clear hvd HD0
      have HX0' := hid (HX0.out.up br)
      clear HX0
      have HX0 := HX0'
      clear HX0'
      have HX1' := hid (HX1.out.up br)
      clear HX1
      have HX1 := HX1'
      clear HX1'
      have HY0' := hid (HY0.out.up br)
      clear HY0
      have HY0 := HY0'
      clear HY0'
      have HY1' := hid (HY1.out.up br)
      clear HY1
      have HY1 := HY1'
      clear HY1'
      have HR0' := hid (HR0.out.up br)
      clear HR0
      have HR0 := HR0'
      clear HR0'
      have HR1' := hid (HR1.out.up br)
      clear HR1
      have HR1 := HR1'
      clear HR1'
      have HZ' := hid (HZ.out.up br)
      clear HZ
      have HZ := HZ'
      clear HZ'
      have HB' := hid (bchain HB.out br)
      clear HB
      have HB := HB'
      clear HB' br
      go_wp2_with fail
      obtain ⟨w2, rfl⟩ : ∃ x, x = wr0 := ⟨wr0, rfl⟩
      go_loopw [44] (fun i wr => ∃ k : Nat, k ≤ 3 ∧ i = .int .i64 k ∧ Below w2.heap.size w2 wr) (fun i _ => 3 - (intOf i).toNat)
      case atStart => exact ⟨0, by omega, rfl, Below.refl _ _⟩
      case round =>
        obtain ⟨k, hk, rfl, hb0⟩ := hrel
        by_cases hlt : k < 3
        · have i0 : (0 : Int) ≤ (k : Int) := by omega
          have i2 : (k : Int) < 3 := by omega
          obtain ⟨bw', cw', ew, hbw, hcw⟩ := (HW.out.up hb0).at_
          injection ew with ew1 ew2 ew3
          injection ew1 with ew1
          injection ew1 with ew1
          subst ew1 ew3
          obtain ⟨d, hd, cd⟩ := hcw k hlt
          have OA : Hid (∀ v, Below wr.heap.size wr v → v.cell? ⟨bw, k, none⟩ = some d) := fun v hv => (hv.cell (p := ⟨bw, k, none⟩) hbw).trans cd
          have EB := hid hd
          have EA := hid (HVG.out.el hlt)
          have OE : Hid (∀ v, BlkV v pz 32 (wds 12 g) → v.rangeAt pz (k * 4) (wds 4 fun j => g (k * 4 + j))) := fun v hv => hv.sub _ 4 (by omega)
          obtain ⟨ga, hga⟩ : ∃ a : Nat → Int, a = fun j => g (k * 4 + j) := ⟨_, rfl⟩
          rw [← hga] at EA OE
          have hb0' := hb0
          have HZ1 := hid (HZ.out.up hb0)
          clear hcw cd hd ew2 hga
          go_wp2_with fail
          have hb00 : Below wr.heap.size wr wr.drew := (Below.refl _ _).drew
          have hx0 := HZ1.out.up hb00
          refine wp_region_held_drew (S := fun v => BlkV v pz 32 (wds 12 g) ∧ Below wr.heap.size wr v) (by kernel_rfl) ⟨hx0, hb00⟩ (fun hHeld => ?_)
          refine wpAnyH_take (i := 0) (v := ?_) rfl (by kernel_rfl) (by kernel_rfl) (by kernel_rfl) (fun _ _ _ h => h) (Or.inl ⟨by rfl, fun v hv => ?_⟩) (by with_reducible assumption) ?_
          rotate_left
          · go_simp
            try with_reducible rfl
          simp only [Act.put, List.setIfInBounds_toArray, List.set_cons_zero, List.set_cons_succ, List.getElem_toArray, List.getElem_cons_zero, List.getElem_cons_succ]
          refine wpAnyH_take (i := 1) (v := ?_) rfl (by kernel_rfl) (by kernel_rfl) (by kernel_rfl) (fun _ _ _ h => h) (Or.inl ⟨by rfl, fun v hv => ?_⟩) (by with_reducible assumption) ?_
          rotate_left
          · go_simp
            try with_reducible rfl
          simp only [Act.put, List.setIfInBounds_toArray, List.set_cons_zero, List.set_cons_succ, List.getElem_toArray, List.getElem_cons_zero, List.getElem_cons_succ]
          refine wpAnyH_take (i := 2) (v := .agg (wds 4 ga).toArray) rfl (by kernel_rfl) (by kernel_rfl) (by kernel_rfl) (fun _ _ _ h => h) (yieldsIf_load_mid (by rfl) 30 (.tmp 48) rfl (pz) (k * 4) rfl (wds 4 ga) _ (fun v hv => OE.out v hv.1) Tryd.underlying30 rfl (sizeE _)) (by with_reducible assumption) ?_
          simp only [Act.put, List.setIfInBounds_toArray, List.set_cons_zero, List.set_cons_succ, List.getElem_toArray, List.getElem_cons_zero, List.getElem_cons_succ]
          refine wpAnyH_take (i := 3) (v := ?_) rfl (by kernel_rfl) (by kernel_rfl) (by kernel_rfl) (fun _ _ _ h => h) (Or.inl ⟨by rfl, fun v hv => ?_⟩) (by with_reducible assumption) ?_
          rotate_left
          · go_simp
            try with_reducible rfl
          simp only [Act.put, List.setIfInBounds_toArray, List.set_cons_zero, List.set_cons_succ, List.getElem_toArray, List.getElem_cons_zero, List.getElem_cons_succ]
          refine wpAnyH_take (i := 4) (v := ?_) rfl (by kernel_rfl) (by kernel_rfl) (by kernel_rfl) (fun _ _ _ h => h) (Or.inl ⟨by rfl, fun v hv => ?_⟩) (by with_reducible assumption) ?_
          rotate_left
          · go_simp
            try with_reducible rfl
          simp only [Act.put, List.setIfInBounds_toArray, List.set_cons_zero, List.set_cons_succ, List.getElem_toArray, List.getElem_cons_zero, List.getElem_cons_succ]
          refine wpAnyH_take (i := 5) (v := ?_) rfl (by kernel_rfl) (by kernel_rfl) (by kernel_rfl) (fun _ _ _ h => h) (Or.inl ⟨by rfl, fun v hv => ?_⟩) (by with_reducible assumption) ?_
          rotate_left
          · go_simp
            try with_reducible rfl
          simp only [Act.put, List.setIfInBounds_toArray, List.set_cons_zero, List.set_cons_succ, List.getElem_toArray, List.getElem_cons_zero, List.getElem_cons_succ]
          refine wpAnyH_take (i := 6) (v := ?_) rfl (by kernel_rfl) (by kernel_rfl) (by kernel_rfl) (fun _ _ _ h => h) (Or.inl ⟨by rfl, fun v hv => ?_⟩) (by with_reducible assumption) ?_
          rotate_left
          · have hcc := OA.out v hv.2
            go_simp
            try with_reducible rfl
          simp only [Act.put, List.setIfInBounds_toArray, List.set_cons_zero, List.set_cons_succ, List.getElem_toArray, List.getElem_cons_zero, List.getElem_cons_succ]
          refine wpAnyH_ready (rs := [7]) (by kernel_rfl) (by simp) ?_
          refine (AllReadyH.cons rfl (fun K hK => ?_) AllReadyH.nil)
          go_simp
          go_at_call 12
          with_reducible refine (is_t _ _ _ _ wr.drew EA.out (EB.out.up (hb00)) (HG.out.up (bchain HB.out (hb0'.trans ((hb00).mono hb0'.size)))) rfl).mono ?_
          rintro e wq1 ⟨rfl, hbq1⟩
          have hx_q1 := (hx0).up hbq1
          have b_q1 := bchain hb00 hbq1
          try dsimp only
          refine hK.out _ _ (⟨hx_q1, b_q1⟩) (fun hHeld => ?_)
          clear hK K
          try simp only [Act.put, List.setIfInBounds_toArray, List.set_cons_zero, List.set_cons_succ, List.getElem_toArray, List.getElem_cons_zero, List.getElem_cons_succ]
          refine wpAnyH_take (i := 8) (v := ?_) rfl (by kernel_rfl) (by kernel_rfl) (by kernel_rfl) (fun _ _ _ h => h) (Or.inl ⟨by rfl, fun v hv => ?_⟩) (by with_reducible assumption) ?_
          rotate_left
          · go_simp
            try with_reducible rfl
          simp only [Act.put, List.setIfInBounds_toArray, List.set_cons_zero, List.set_cons_succ, List.getElem_toArray, List.getElem_cons_zero, List.getElem_cons_succ]
          refine wpAnyH_done (by kernel_rfl) ?_ _
          have HBZ := hid (hb0.trans ((b_q1).mono hb0.size))
          clear hb0
          go_wp2_with fail
          go_roundw
          case rel => exact ⟨k + 1, by omega, by go_num, HBZ.out⟩
          case measure => simp [intOf]; omega
        · obtain rfl : k = 3 := by omega
          have HY0' := hid (HY0.out.up hb0)
          clear HY0
          have HY0 := HY0'
          clear HY0'
          have HY1' := hid (HY1.out.up hb0)
          clear HY1
          have HY1 := HY1'
          clear HY1'
          have HR0' := hid (HR0.out.up hb0)
          clear HR0
          have HR0 := HR0'
          clear HR0'
          have HR1' := hid (HR1.out.up hb0)
          clear HR1
          have HR1 := HR1'
          clear HR1'
          have HB' := hid (bchain HB.out hb0)
          clear HB
          have HB := HB'
          clear HB' hb0
          clear HX0 HX1 HZ HW
          go_wp2_with (first
    | with_reducible refine wpList_load_mid rfl 34 (.tmp 5) rfl (p0) (0) rfl (wds 36 f0) _ (by with_reducible exact HY0.out.range) Tryd.underlying34 rfl (sizeM _) ?_
    | with_reducible refine wpList_load_mid rfl 34 (.tmp 7) rfl (p1) (0) rfl (wds 36 f1) _ (by with_reducible exact HY1.out.range) Tryd.underlying34 rfl (sizeM _) ?_
    | fail)
          refine (mxMul_c f0 f1 (nums l0) (nums l1) wr HM0.out HM1.out (HG.out.up HB.out)).mono ?_
          rintro e wa ⟨ga, rfl, hga, ba⟩
          have HGA := hid hga
          clear hga
          have HR0' := hid (HR0.out.up ba)
          clear HR0
          have HR0 := HR0'
          clear HR0'
          have HR1' := hid (HR1.out.up ba)
          clear HR1
          have HR1 := HR1'
          clear HR1'
          have HB' := hid (bchain HB.out ba)
          clear HB
          have HB := HB'
          clear HB' ba
          go_wp2_with fail
          refine (r9Mul_c _ _ (nums l0) (nums l1) wa HR0.out HR1.out).mono ?_
          rintro e wb ⟨vb, rfl, hvb, bb⟩
          have HVB := hid hvb
          clear hvb HR0 HR1
          have HB' := hid (bchain HB.out bb)
          clear HB
          have HB := HB'
          clear HB' bb
          go_wp2_with fail
          refine (is9_t ga vb _ _ wb HGA.out HVB.out (HG.out.up HB.out) (cong_refl _)).mono ?_
          rintro e wc ⟨rfl, bc⟩
          have HB' := hid (bchain HB.out bc)
          clear HB
          have HB := HB'
          clear HB' bc
          go_wp2_with fail
          refine (cauchy_c wc (HG.out.up HB.out)).mono ?_
          rintro e wd ⟨gd, rfl, hgd, bd⟩
          have HGD := hid hgd
          clear hgd
          have HB' := hid (bchain HB.out bd)
          clear HB
          have HB := HB'
          clear HB' bd
          go_wp2_with fail
          refine (refCauchy_c wd).mono ?_
          rintro e we ⟨ve, rfl, hve, be⟩
          have HVE := hid hve
          clear hve
          have HB' := hid (bchain HB.out be)
          clear HB
          have HB := HB'
          clear HB' be
          go_wp2_with fail
          refine (is9_t gd ve _ _ we HGD.out HVE.out (HG.out.up HB.out) (cong_refl _)).mono ?_
          rintro e wg ⟨rfl, bg⟩
          have HB' := hid (bchain HB.out bg)
          clear HB
          have HB := HB'
          clear HB' bg
          go_wp2
          go_ret
          exact ⟨rfl, HB.out⟩
    · go_enter Tryd.func3, Tryd.ntmps3
      go_wp2_with fail
      generalize ((w.alloc _).alloc _) = w0 at *
      refine (speaks9_c w0 (HG.out.up HB.out)).mono ?_
      rintro e w1 ⟨rfl, b1⟩
      have HX0' := hid (HX0.out.up b1)
      clear HX0
      have HX0 := HX0'
      clear HX0'
      have HX1' := hid (HX1.out.up b1)
      clear HX1
      have HX1 := HX1'
      clear HX1'
      have HB' := hid (bchain HB.out b1)
      clear HB
      have HB := HB'
      clear HB' b1
      go_wp2_with (first
    | refine wpList_load_midG (by rfl) 24 (.tmp 2) rfl (w.heap.size) 0 rfl (sls A0 n0 c0) _ (by with_reducible exact HX0.out.range) Tryd.underlying24 rfl (sizeNA _ _ _) ?_
    | fail)
      refine (few_t A0 n0 c0 w1 hF0).mono ?_
      rintro e w1f0 ⟨rfl, bf0⟩
      have HX0' := hid (HX0.out.up bf0)
      clear HX0
      have HX0 := HX0'
      clear HX0'
      have HX1' := hid (HX1.out.up bf0)
      clear HX1
      have HX1 := HX1'
      clear HX1'
      have HB' := hid (bchain HB.out bf0)
      clear HB
      have HB := HB'
      clear HB' bf0
      go_wp2_with (first
    | refine wpList_load_midG (by rfl) 24 (.tmp 3) rfl (w.heap.size + 1) 0 rfl (sls A1 n1 c1) _ (by with_reducible exact HX1.out.range) Tryd.underlying24 rfl (sizeNA _ _ _) ?_
    | fail)
      refine (few_f A1 n1 c1 w1f0 hF1).mono ?_
      rintro e w1f0f1 ⟨rfl, bf1⟩
      have HX0' := hid (HX0.out.up bf1)
      clear HX0
      have HX0 := HX0'
      clear HX0'
      have HX1' := hid (HX1.out.up bf1)
      clear HX1
      have HX1 := HX1'
      clear HX1'
      have HB' := hid (bchain HB.out bf1)
      clear HB
      have HB := HB'
      clear HB' bf1
      go_wp2_with fail
      refine (speaks9_c w1f0f1 (HG.out.up HB.out)).mono ?_
      rintro e wz ⟨rfl, bz⟩
      have HBZ := hid (bchain HB.out bz)
      clear bz
      go_wp2
      go_ret
      exact ⟨rfl, HBZ.out⟩
  · go_enter Tryd.func3, Tryd.ntmps3
    go_wp2_with fail
    generalize ((w.alloc _).alloc _) = w0 at *
    refine (speaks9_c w0 (HG.out.up HB.out)).mono ?_
    rintro e w1 ⟨rfl, b1⟩
    have HX0' := hid (HX0.out.up b1)
    clear HX0
    have HX0 := HX0'
    clear HX0'
    have HX1' := hid (HX1.out.up b1)
    clear HX1
    have HX1 := HX1'
    clear HX1'
    have HB' := hid (bchain HB.out b1)
    clear HB
    have HB := HB'
    clear HB' b1
    go_wp2_with (first
    | refine wpList_load_midG (by rfl) 24 (.tmp 2) rfl (w.heap.size) 0 rfl (sls A0 n0 c0) _ (by with_reducible exact HX0.out.range) Tryd.underlying24 rfl (sizeNA _ _ _) ?_
    | fail)
    refine (few_f A0 n0 c0 w1 hF0).mono ?_
    rintro e w1f0 ⟨rfl, bf0⟩
    have HX0' := hid (HX0.out.up bf0)
    clear HX0
    have HX0 := HX0'
    clear HX0'
    have HX1' := hid (HX1.out.up bf0)
    clear HX1
    have HX1 := HX1'
    clear HX1'
    have HB' := hid (bchain HB.out bf0)
    clear HB
    have HB := HB'
    clear HB' bf0
    go_wp2_with fail
    refine (speaks9_c w1f0 (HG.out.up HB.out)).mono ?_
    rintro e wz ⟨rfl, bz⟩
    have HBZ := hid (bchain HB.out bz)
    clear bz
    go_wp2
    go_ret
    exact ⟨rfl, HBZ.out⟩
end Go.Proofs.YtlpccdbcaffmmaaDoor
