/-
  avouchlaw10.PoseidonPermutes: the walk.
-/
import Derived.Test.YtdepkfdceidikaaGreatDoorPrD
namespace Go.Proofs.YtdepkfdceidikaaGreatDoor
open Go.RowKit
set_option linter.unusedVariables false
set_option linter.unusedSimpArgs false

set_option maxRecDepth 100000 in
set_option maxHeartbeats 40000000 in
theorem poseidonPermutes_w (A0 : Nat → Option Addr) (n0 c0 : Nat → Nat) (l0 : Nat → List Nat) (r : Int) (w : World) (hN0 : N3 w w.heap.size A0 n0 l0) (hG : Glob w) :
    Calls Tryz.prog 3 #[.agg #[.slice (A0 0) (n0 0) (c0 0), .slice (A0 1) (n0 1) (c0 1), .slice (A0 2) (n0 2) (c0 2)], .int .i64 r] w fun e w' => e = .returned (.bool true) ∧ Below w.heap.size w w' := by
  have x0 := BlkV.new w 23 [.slice (A0 0) (n0 0) (c0 0), .slice (A0 1) (n0 1) (c0 1), .slice (A0 2) (n0 2) (c0 2)]
  have HX0 := hid x0
  have HN0 := hid hN0
  have HB := hid ((Below.refl w.heap.size w).alloc (Nat.le_refl _) (.cells #[.slice (A0 0) (n0 0) (c0 0), .slice (A0 1) (n0 1) (c0 1), .slice (A0 2) (n0 2) (c0 2)] 23))
  have HG := hid hG
  clear x0 hN0  hG
  by_cases hF0 : Few3 n0
  · go_enter Tryz.func3, Tryz.ntmps3
    go_wp2_with fail
    generalize (w.alloc _) = w0 at *
    refine (speaks10_c w0 (HG.out.up HB.out)).mono ?_
    rintro e w1 ⟨rfl, b1⟩
    have HX0' := hid (HX0.out.up b1)
    clear HX0
    have HX0 := HX0'
    clear HX0'
    have HB' := hid (bchain HB.out b1)
    clear HB
    have HB := HB'
    clear HB' b1
    have C0 := HX0.out.cell (i := 0) (by simp)
    have C1 := HX0.out.cell (i := 1) (by simp)
    have C2 := HX0.out.cell (i := 2) (by simp)
    simp only [List.getElem_cons_zero, List.getElem_cons_succ] at C0 C1 C2
    go_wp2_with fail
    clear C0 C1 C2
    refine (few3_t A0 n0 c0 w1 hF0).mono ?_
    rintro e w1f0 ⟨rfl, bf0⟩
    have HX0' := hid (HX0.out.up bf0)
    clear HX0
    have HX0 := HX0'
    clear HX0'
    have HB' := hid (bchain HB.out bf0)
    clear HB
    have HB := HB'
    clear HB' bf0
    go_wp2_with fail
    refine (pnew_c w1f0).mono ?_
    rintro e w3 ⟨p, rfl, hp, hpi, b3⟩
    have hpw : w.heap.size ≤ p := Nat.le_trans HB.out.size hp
    have HPI := hid hpi
    clear hpi hp
    have HX0' := hid (HX0.out.up b3)
    clear HX0
    have HX0 := HX0'
    clear HX0'
    have HB' := hid (bchain HB.out b3)
    clear HB
    have HB := HB'
    clear HB' b3
    go_wp2_with fail
    refine (r10New_c w3).mono ?_
    rintro e w4 ⟨tv, tM, rfl, htz, b4⟩
    have HTZ := hid htz
    have hpl : p < w3.heap.size := HPI.out.size
    have hpl4 := Nat.lt_of_lt_of_le hpl b4.size
    obtain ⟨bc, cc, bm, cm, htv, htM⟩ := htz.form
    subst htv htM
    clear htz
    have HX0' := hid (HX0.out.up b4)
    clear HX0
    have HX0 := HX0'
    clear HX0'
    have HPI' := hid (HPI.out.up b4)
    clear HPI
    have HPI := HPI'
    clear HPI'
    have HB' := hid (bchain HB.out b4)
    clear HB
    have HB := HB'
    clear HB' b4
    have hb5 : Below w4.heap.size w4 (w4.alloc (.cells #[(.slice (some ⟨bc, 0, none⟩) 195 cc), (.slice (some ⟨bm, 0, none⟩) 3 cm)] 32)) := (Below.refl _ _).alloc (Nat.le_refl _) _
    have HT := hid (BlkV.new w4 32 [(.slice (some ⟨bc, 0, none⟩) 195 cc), (.slice (some ⟨bm, 0, none⟩) 3 cm)])
    have HX0' := hid (HX0.out.up hb5)
    clear HX0
    have HX0 := HX0'
    clear HX0'
    have HPI' := hid (HPI.out.up hb5)
    clear HPI
    have HPI := HPI'
    clear HPI'
    have HTZ' := hid (HTZ.out.up hb5)
    clear HTZ
    have HTZ := HTZ'
    clear HTZ'
    have HB' := hid (bchain HB.out hb5)
    clear HB
    have HB := HB'
    clear HB' hb5
    have C0 := HX0.out.cell (i := 0) (by simp)
    have C1 := HX0.out.cell (i := 1) (by simp)
    have C2 := HX0.out.cell (i := 2) (by simp)
    simp only [List.getElem_cons_zero, List.getElem_cons_succ] at C0 C1 C2
    have hzv := zeroV
    have hlv := wds_len 12 z0
    go_wp2_with fail
    clear C0 C1 C2
    obtain ⟨w5, hw5⟩ : ∃ x, x = w4.alloc (.cells #[(.slice (some ⟨bc, 0, none⟩) 195 cc), (.slice (some ⟨bm, 0, none⟩) 3 cm)] 32) := ⟨_, rfl⟩
    rw [← hw5] at HT HPI HTZ HX0 HB ⊢
    obtain ⟨p6, hp6⟩ : ∃ x, x = w4.heap.size := ⟨_, rfl⟩
    rw [← hp6] at HT hpl4 ⊢
    clear hw5 hp6
    refine (of10_c A0 n0 c0 l0 w5 ((HN0.out.below HB.out (Nat.le_refl _)).more HB.out.size) hF0 (HG.out.up HB.out)).mono ?_
    rintro e w6 ⟨f, rv, rfl, hf, hr, b6⟩
    have HF := hid hf
    have HR := hid hr
    obtain ⟨br, cr, rfl, _, _⟩ := hr.at_
    clear hf hr
    have HX0' := hid (HX0.out.up b6)
    clear HX0
    have HX0 := HX0'
    clear HX0'
    have HPI' := hid (HPI.out.up b6)
    clear HPI
    have HPI := HPI'
    clear HPI'
    have HTZ' := hid (HTZ.out.up b6)
    clear HTZ
    have HTZ := HTZ'
    clear HTZ'
    have HT' := hid (HT.out.up b6)
    clear HT
    have HT := HT'
    clear HT'
    have HB' := hid (bchain HB.out b6)
    clear HB
    have HB := HB'
    clear HB' b6
    obtain ⟨nn1, nn2, nn3⟩ := newRow w6 39 12 f
    have N1 := hid nn1
    have HY := hid nn2
    have HR' := hid (HR.out.up nn3)
    clear HR
    have HR := HR'
    clear HR' nn1 nn2
    have hlf := wds_len 12 f
    have hpl6 := HPI.out.size
    have HX0' := hid (HX0.out.up nn3)
    clear HX0
    have HX0 := HX0'
    clear HX0'
    have HPI' := hid (HPI.out.up nn3)
    clear HPI
    have HPI := HPI'
    clear HPI'
    have HTZ' := hid (HTZ.out.up nn3)
    clear HTZ
    have HTZ := HTZ'
    clear HTZ'
    have HT' := hid (HT.out.up nn3)
    clear HT
    have HT := HT'
    clear HT'
    have HB' := hid (bchain HB.out nn3)
    clear HB
    have HB := HB'
    clear HB' nn3
    unfold oF at N1 HY HR HPI HTZ HT HX0 HB
    go_wp2_with (first
    | with_reducible refine wpList_store_mid rfl 39 (.tmp 7) (.tmp 22) rfl (w6.heap.size) (0) (wds 12 f).toArray rfl rfl (by with_reducible exact N1.out) (sizeVA _) (wds_all _ _) ?_
    | fail)
    obtain ⟨w7, hw7⟩ : ∃ x, x = (w6.alloc (.cells (wds 12 z0).toArray 39)).setCells w6.heap.size 0 (wds 12 f) := ⟨_, rfl⟩
    rw [← hw7] at HY HR HPI HTZ HT HX0 HB ⊢
    obtain ⟨p7, hp7⟩ : ∃ x, x = w6.heap.size := ⟨_, rfl⟩
    rw [← hp7] at HY hpl6 ⊢
    clear hw7 hp7 N1 HX0
    have h6 : p6 ≠ p := by omega
    have h7 : p7 ≠ p := by omega
    have hlo := HG.out.lo hpw
    have e0 := PmS.up (PmS.mk HY.out HT.out HPI.out HTZ.out HR.out HB.out) (Below.refl _ _).drew
    clear HY HT HPI HTZ HR HB hpl hpl4 hpl6
    refine wp_region_held_drew (S := PmS w p p6 p7 f (.slice (some ⟨bc, 0, none⟩) 195 cc) (.slice (some ⟨bm, 0, none⟩) 3 cm) (.slice (some ⟨br, 0, none⟩) 3 cr) (num3 l0)) (by kernel_rfl) e0 (fun hHeld => ?_)
    refine wpAnyH_take (i := 0) (v := ?_) rfl (by kernel_rfl) (by kernel_rfl) (by kernel_rfl) (fun _ _ _ h => h) (Or.inl ⟨by rfl, fun v hv => ?_⟩) (by with_reducible assumption) ?_
    rotate_left
    · go_simp
      try with_reducible rfl
    simp only [Act.put, List.setIfInBounds_toArray, List.set_cons_zero, List.set_cons_succ, List.getElem_toArray, List.getElem_cons_zero, List.getElem_cons_succ]
    refine wpAnyH_take (i := 1) (v := .agg (wds 12 f).toArray) rfl (by kernel_rfl) (by kernel_rfl) (by kernel_rfl) (fun _ _ _ h => h) (yieldsIf_load_mid (by rfl) 39 (.tmp 7) rfl (p7) (0) rfl (wds 12 f) _ (fun v hv => hv.x.range) Tryz.underlying39 rfl (sizeV _)) (by with_reducible assumption) ?_
    simp only [Act.put, List.setIfInBounds_toArray, List.set_cons_zero, List.set_cons_succ, List.getElem_toArray, List.getElem_cons_zero, List.getElem_cons_succ]
    refine wpAnyH_take (i := 2) (v := ?_) rfl (by kernel_rfl) (by kernel_rfl) (by kernel_rfl) (fun _ _ _ h => h) (Or.inl ⟨by rfl, fun v hv => ?_⟩) (by with_reducible assumption) ?_
    rotate_left
    · go_simp
      try with_reducible rfl
    simp only [Act.put, List.setIfInBounds_toArray, List.set_cons_zero, List.set_cons_succ, List.getElem_toArray, List.getElem_cons_zero, List.getElem_cons_succ]
    refine wpAnyH_take (i := 4) (v := .agg ([(.slice (some ⟨bc, 0, none⟩) 195 cc), (.slice (some ⟨bm, 0, none⟩) 3 cm)]).toArray) rfl (by kernel_rfl) (by kernel_rfl) (by kernel_rfl) (fun _ _ _ h => h) (yieldsIf_load_mid (by rfl) 32 (.tmp 6) rfl (p6) (0) rfl ([(.slice (some ⟨bc, 0, none⟩) 195 cc), (.slice (some ⟨bm, 0, none⟩) 3 cm)]) _ (fun v hv => hv.t.range) Tryz.underlying32 rfl (@sizeTab2 (.slice (some ⟨bc, 0, none⟩) 195 cc) _)) (by with_reducible assumption) ?_
    simp only [Act.put, List.setIfInBounds_toArray, List.set_cons_zero, List.set_cons_succ, List.getElem_toArray, List.getElem_cons_zero, List.getElem_cons_succ]
    refine wpAnyH_take (i := 5) (v := ?_) rfl (by kernel_rfl) (by kernel_rfl) (by kernel_rfl) (fun _ _ _ h => h) (Or.inl ⟨by rfl, fun v hv => ?_⟩) (by with_reducible assumption) ?_
    rotate_left
    · go_simp
      try with_reducible rfl
    simp only [Act.put, List.setIfInBounds_toArray, List.set_cons_zero, List.set_cons_succ, List.getElem_toArray, List.getElem_cons_zero, List.getElem_cons_succ]
    refine wpAnyH_take (i := 6) (v := ?_) rfl (by kernel_rfl) (by kernel_rfl) (by kernel_rfl) (fun _ _ _ h => h) (Or.inl ⟨by rfl, fun v hv => ?_⟩) (by with_reducible assumption) ?_
    rotate_left
    · go_simp
      try with_reducible rfl
    simp only [Act.put, List.setIfInBounds_toArray, List.set_cons_zero, List.set_cons_succ, List.getElem_toArray, List.getElem_cons_zero, List.getElem_cons_succ]
    refine wpAnyH_ready (rs := [3]) (by kernel_rfl) (by simp) ?_
    refine (AllReadyH.cons rfl (fun K hK => ?_) AllReadyH.nil)
    go_simp
    go_at_call 13
    with_reducible refine (round_c p f (num3 l0) r w7.drew (e0).pi HF.out (HG.out.up (e0).b) hlo).mono ?_
    rintro e wr1 ⟨gc, rfl, hgc, hqr1, hor1, hkr1⟩
    have e_r1 := PmS.onl e0 h6 h7 hpw hqr1 hor1 hkr1
    clear hqr1 hor1 hkr1
    try dsimp only
    refine hK.out _ _ (e_r1) (fun hHeld => ?_)
    clear hK K
    try simp only [Act.put, List.setIfInBounds_toArray, List.set_cons_zero, List.set_cons_succ, List.getElem_toArray, List.getElem_cons_zero, List.getElem_cons_succ]
    refine wpAnyH_ready (rs := [7]) (by kernel_rfl) (by simp) ?_
    refine (AllReadyH.cons rfl (fun K hK => ?_) AllReadyH.nil)
    go_simp
    go_at_call 14
    with_reducible refine (r10Round_c _ _ _ r (num3 l0) wr1 (e_r1).tz (e_r1).dv).mono ?_
    rintro e wr2 ⟨dr, rfl, hdr, hbr2⟩
    have e_r2 := (e_r1).up hbr2
    try dsimp only
    refine hK.out _ _ (e_r2) (fun hHeld => ?_)
    clear hK K
    try simp only [Act.put, List.setIfInBounds_toArray, List.set_cons_zero, List.set_cons_succ, List.getElem_toArray, List.getElem_cons_zero, List.getElem_cons_succ]
    refine wpAnyH_ready (rs := [8]) (by kernel_rfl) (by simp) ?_
    refine (AllReadyH.cons rfl (fun K hK => ?_) AllReadyH.nil)
    go_simp
    go_at_call 12
    with_reducible refine (is10_t gc dr _ _ wr2 hgc hdr (HG.out.up (e_r2).b) (fun _ _ => rfl)).mono ?_
    rintro e wr3 ⟨rfl, hbr3⟩
    have e_r3 := (e_r2).up hbr3
    try dsimp only
    refine hK.out _ _ (e_r3) (fun hHeld => ?_)
    clear hK K
    try simp only [Act.put, List.setIfInBounds_toArray, List.set_cons_zero, List.set_cons_succ, List.getElem_toArray, List.getElem_cons_zero, List.getElem_cons_succ]
    refine wpAnyH_take (i := 9) (v := ?_) rfl (by kernel_rfl) (by kernel_rfl) (by kernel_rfl) (fun _ _ _ h => h) (Or.inl ⟨by rfl, fun v hv => ?_⟩) (by with_reducible assumption) ?_
    rotate_left
    · go_simp
      try with_reducible rfl
    simp only [Act.put, List.setIfInBounds_toArray, List.set_cons_zero, List.set_cons_succ, List.getElem_toArray, List.getElem_cons_zero, List.getElem_cons_succ]
    refine wpAnyH_take (i := 10) (v := ?_) rfl (by kernel_rfl) (by kernel_rfl) (by kernel_rfl) (fun _ _ _ h => h) (Or.inl ⟨by rfl, fun v hv => ?_⟩) (by with_reducible assumption) ?_
    rotate_left
    · go_simp
      try with_reducible rfl
    simp only [Act.put, List.setIfInBounds_toArray, List.set_cons_zero, List.set_cons_succ, List.getElem_toArray, List.getElem_cons_zero, List.getElem_cons_succ]
    refine wpAnyH_take (i := 11) (v := .agg (wds 12 f).toArray) rfl (by kernel_rfl) (by kernel_rfl) (by kernel_rfl) (fun _ _ _ h => h) (yieldsIf_load_mid (by rfl) 39 (.tmp 7) rfl (p7) (0) rfl (wds 12 f) _ (fun v hv => hv.x.range) Tryz.underlying39 rfl (sizeV _)) (by with_reducible assumption) ?_
    simp only [Act.put, List.setIfInBounds_toArray, List.set_cons_zero, List.set_cons_succ, List.getElem_toArray, List.getElem_cons_zero, List.getElem_cons_succ]
    refine wpAnyH_take (i := 13) (v := .agg ([(.slice (some ⟨bc, 0, none⟩) 195 cc), (.slice (some ⟨bm, 0, none⟩) 3 cm)]).toArray) rfl (by kernel_rfl) (by kernel_rfl) (by kernel_rfl) (fun _ _ _ h => h) (yieldsIf_load_mid (by rfl) 32 (.tmp 6) rfl (p6) (0) rfl ([(.slice (some ⟨bc, 0, none⟩) 195 cc), (.slice (some ⟨bm, 0, none⟩) 3 cm)]) _ (fun v hv => hv.t.range) Tryz.underlying32 rfl (@sizeTab2 (.slice (some ⟨bc, 0, none⟩) 195 cc) _)) (by with_reducible assumption) ?_
    simp only [Act.put, List.setIfInBounds_toArray, List.set_cons_zero, List.set_cons_succ, List.getElem_toArray, List.getElem_cons_zero, List.getElem_cons_succ]
    refine wpAnyH_take (i := 14) (v := ?_) rfl (by kernel_rfl) (by kernel_rfl) (by kernel_rfl) (fun _ _ _ h => h) (Or.inl ⟨by rfl, fun v hv => ?_⟩) (by with_reducible assumption) ?_
    rotate_left
    · go_simp
      try with_reducible rfl
    simp only [Act.put, List.setIfInBounds_toArray, List.set_cons_zero, List.set_cons_succ, List.getElem_toArray, List.getElem_cons_zero, List.getElem_cons_succ]
    refine wpAnyH_ready (rs := [12]) (by kernel_rfl) (by simp) ?_
    refine (AllReadyH.cons rfl (fun K hK => ?_) AllReadyH.nil)
    go_simp
    go_at_call 15
    with_reducible refine (permute_c p f (num3 l0) wr3 (e_r3).pi HF.out (HG.out.up (e_r3).b) hlo).mono ?_
    rintro e wr4 ⟨gp, rfl, hgp, hqr4, hor4, hkr4⟩
    have e_r4 := PmS.onl e_r3 h6 h7 hpw hqr4 hor4 hkr4
    clear hqr4 hor4 hkr4
    try dsimp only
    refine hK.out _ _ (e_r4) (fun hHeld => ?_)
    clear hK K
    try simp only [Act.put, List.setIfInBounds_toArray, List.set_cons_zero, List.set_cons_succ, List.getElem_toArray, List.getElem_cons_zero, List.getElem_cons_succ]
    refine wpAnyH_ready (rs := [15]) (by kernel_rfl) (by simp) ?_
    refine (AllReadyH.cons rfl (fun K hK => ?_) AllReadyH.nil)
    go_simp
    go_at_call 16
    with_reducible refine (r10Permute_c _ _ _ (num3 l0) wr4 (e_r4).tz (e_r4).dv).mono ?_
    rintro e wr5 ⟨dp, rfl, hdp, hbr5⟩
    have e_r5 := (e_r4).up hbr5
    try dsimp only
    refine hK.out _ _ (e_r5) (fun hHeld => ?_)
    clear hK K
    try simp only [Act.put, List.setIfInBounds_toArray, List.set_cons_zero, List.set_cons_succ, List.getElem_toArray, List.getElem_cons_zero, List.getElem_cons_succ]
    refine wpAnyH_ready (rs := [16]) (by kernel_rfl) (by simp) ?_
    refine (AllReadyH.cons rfl (fun K hK => ?_) AllReadyH.nil)
    go_simp
    go_at_call 12
    with_reducible refine (is10_t gp dp _ _ wr5 hgp hdp (HG.out.up (e_r5).b) (fun _ _ => rfl)).mono ?_
    rintro e wr6 ⟨rfl, hbr6⟩
    have e_r6 := (e_r5).up hbr6
    try dsimp only
    refine hK.out _ _ (e_r6) (fun hHeld => ?_)
    clear hK K
    try simp only [Act.put, List.setIfInBounds_toArray, List.set_cons_zero, List.set_cons_succ, List.getElem_toArray, List.getElem_cons_zero, List.getElem_cons_succ]
    refine wpAnyH_take (i := 17) (v := ?_) rfl (by kernel_rfl) (by kernel_rfl) (by kernel_rfl) (fun _ _ _ h => h) (Or.inl ⟨by rfl, fun v hv => ?_⟩) (by with_reducible assumption) ?_
    rotate_left
    · go_simp
      try with_reducible rfl
    simp only [Act.put, List.setIfInBounds_toArray, List.set_cons_zero, List.set_cons_succ, List.getElem_toArray, List.getElem_cons_zero, List.getElem_cons_succ]
    refine wpAnyH_take (i := 18) (v := ?_) rfl (by kernel_rfl) (by kernel_rfl) (by kernel_rfl) (fun _ _ _ h => h) (Or.inl ⟨by rfl, fun v hv => ?_⟩) (by with_reducible assumption) ?_
    rotate_left
    · go_simp
      try with_reducible rfl
    simp only [Act.put, List.setIfInBounds_toArray, List.set_cons_zero, List.set_cons_succ, List.getElem_toArray, List.getElem_cons_zero, List.getElem_cons_succ]
    refine wpAnyH_done (by kernel_rfl) ?_ _
    have HBE := hid (e_r6).b
    go_wp2_with fail
    go_ret
    exact ⟨rfl, HBE.out⟩
  · go_enter Tryz.func3, Tryz.ntmps3
    go_wp2_with fail
    generalize (w.alloc _) = w0 at *
    refine (speaks10_c w0 (HG.out.up HB.out)).mono ?_
    rintro e w1 ⟨rfl, b1⟩
    have HX0' := hid (HX0.out.up b1)
    clear HX0
    have HX0 := HX0'
    clear HX0'
    have HB' := hid (bchain HB.out b1)
    clear HB
    have HB := HB'
    clear HB' b1
    have C0 := HX0.out.cell (i := 0) (by simp)
    have C1 := HX0.out.cell (i := 1) (by simp)
    have C2 := HX0.out.cell (i := 2) (by simp)
    simp only [List.getElem_cons_zero, List.getElem_cons_succ] at C0 C1 C2
    go_wp2_with fail
    clear C0 C1 C2
    refine (few3_f A0 n0 c0 w1 hF0).mono ?_
    rintro e w1f0 ⟨rfl, bf0⟩
    have HX0' := hid (HX0.out.up bf0)
    clear HX0
    have HX0 := HX0'
    clear HX0'
    have HB' := hid (bchain HB.out bf0)
    clear HB
    have HB := HB'
    clear HB' bf0
    go_wp2_with fail
    refine (speaks10_c w1f0 (HG.out.up HB.out)).mono ?_
    rintro e wz ⟨rfl, bz⟩
    have HBZ := hid (bchain HB.out bz)
    clear bz
    go_wp2
    go_ret
    exact ⟨rfl, HBZ.out⟩
end Go.Proofs.YtdepkfdceidikaaGreatDoor
