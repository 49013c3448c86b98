/-
  avouchlaw10.PoseidonSteps: the walk.
-/
import Derived.Test.YtdepkfdceidikaaGreatDoorPrE
namespace Go.Proofs.YtdepkfdceidikaaGreatDoor
open Go.RowKit
set_option linter.unusedVariables false
set_option linter.unusedSimpArgs false

set_option maxRecDepth 100000 in
set_option maxHeartbeats 40000000 in
theorem poseidonSteps_w (A0 : Nat → Option Addr) (n0 c0 : Nat → Nat) (l0 : Nat → List Nat) (nv : Nat) (w : World) (hN0 : N3 w w.heap.size A0 n0 l0) (hnv : nv < 256) (hG : Glob w) :
    Calls Tryz.prog 6 #[.agg #[.slice (A0 0) (n0 0) (c0 0), .slice (A0 1) (n0 1) (c0 1), .slice (A0 2) (n0 2) (c0 2)], .int .u8 (nv : Int)] w fun e w' => e = .returned (.bool true) ∧ Below w.heap.size w w' := by
  have x0 := BlkV.new w 23 [.slice (A0 0) (n0 0) (c0 0), .slice (A0 1) (n0 1) (c0 1), .slice (A0 2) (n0 2) (c0 2)]
  have HX0 := hid x0
  have HN0 := hid hN0
  have HB := hid ((Below.refl w.heap.size w).alloc (Nat.le_refl _) (.cells #[.slice (A0 0) (n0 0) (c0 0), .slice (A0 1) (n0 1) (c0 1), .slice (A0 2) (n0 2) (c0 2)] 23))
  have HG := hid hG
  clear x0 hN0  hG
  by_cases hF0 : Few3 n0
  · go_enter Tryz.func6, Tryz.ntmps6
    go_wp2_with fail
    generalize (w.alloc _) = w0 at *
    refine (speaks10_c w0 (HG.out.up HB.out)).mono ?_
    rintro e w1 ⟨rfl, b1⟩
    have HX0' := hid (HX0.out.up b1)
    clear HX0
    have HX0 := HX0'
    clear HX0'
    have HB' := hid (bchain HB.out b1)
    clear HB
    have HB := HB'
    clear HB' b1
    have C0 := HX0.out.cell (i := 0) (by simp)
    have C1 := HX0.out.cell (i := 1) (by simp)
    have C2 := HX0.out.cell (i := 2) (by simp)
    simp only [List.getElem_cons_zero, List.getElem_cons_succ] at C0 C1 C2
    go_wp2_with fail
    clear C0 C1 C2
    refine (few3_t A0 n0 c0 w1 hF0).mono ?_
    rintro e w1f0 ⟨rfl, bf0⟩
    have HX0' := hid (HX0.out.up bf0)
    clear HX0
    have HX0 := HX0'
    clear HX0'
    have HB' := hid (bchain HB.out bf0)
    clear HB
    have HB := HB'
    clear HB' bf0
    have hz := zeroV
    have hlz := wds_len 12 z0
    go_wp2_with fail
    refine (pnew_c w1f0).mono ?_
    rintro e w3 ⟨p, rfl, hp, hpi, b3⟩
    have hpw : w.heap.size ≤ p := Nat.le_trans HB.out.size hp
    have HPI := hid hpi
    clear hpi hp
    have HX0' := hid (HX0.out.up b3)
    clear HX0
    have HX0 := HX0'
    clear HX0'
    have HB' := hid (bchain HB.out b3)
    clear HB
    have HB := HB'
    clear HB' b3
    have C0 := HX0.out.cell (i := 0) (by simp)
    have C1 := HX0.out.cell (i := 1) (by simp)
    have C2 := HX0.out.cell (i := 2) (by simp)
    simp only [List.getElem_cons_zero, List.getElem_cons_succ] at C0 C1 C2
    obtain ⟨n, hn⟩ : ∃ n, n = nv % 65 := ⟨_, rfl⟩
    have hn65 : n < 65 := by omega
    have hw1 : IntKind.i64.wrap (nv : Int) = (nv : Int) := by rw [IntKind.wrap_i64]; omega
    have hw2 : (nv : Int) % 65 = (n : Int) := by omega
    have hw3 : (nv : Int).tmod 65 = (n : Int) := by rw [Int.tmod_eq_emod_of_nonneg (by omega)]; omega
    have hw4 : IntKind.i64.wrap (n : Int) = (n : Int) := by rw [IntKind.wrap_i64]; omega
    clear hn
    go_wp2_with fail
    clear C0 C1 C2 hw1 hw2 hw3 hw4
    refine (of10_c A0 n0 c0 l0 w3 ((HN0.out.below HB.out (Nat.le_refl _)).more HB.out.size) hF0 (HG.out.up HB.out)).mono ?_
    rintro e w5 ⟨f, rv, rfl, hf, hr, b5⟩
    have HF := hid hf
    obtain ⟨br, cr, rfl, _, _⟩ := hr.at_
    clear hf hr
    have HX0' := hid (HX0.out.up b5)
    clear HX0
    have HX0 := HX0'
    clear HX0'
    have HPI' := hid (HPI.out.up b5)
    clear HPI
    have HPI := HPI'
    clear HPI'
    have HB' := hid (bchain HB.out b5)
    clear HB
    have HB := HB'
    clear HB' b5
    obtain ⟨nn1, nn2, nn3⟩ := newRow w5 39 12 f
    have N1 := hid nn1
    have HY7 := hid nn2
    have hlf := wds_len 12 f
    have hpl7 := HPI.out.size
    clear nn1 nn2
    have HX0' := hid (HX0.out.up nn3)
    clear HX0
    have HX0 := HX0'
    clear HX0'
    have HPI' := hid (HPI.out.up nn3)
    clear HPI
    have HPI := HPI'
    clear HPI'
    have HB' := hid (bchain HB.out nn3)
    clear HB
    have HB := HB'
    clear HB' nn3
    unfold oF at N1 HY7 HPI HX0 HB
    go_wp2_with (first
    | with_reducible refine wpList_store_mid rfl 39 (.tmp 7) (.tmp 28) rfl (w5.heap.size) (0) (wds 12 f).toArray rfl rfl (by with_reducible exact N1.out) (sizeVA _) (wds_all _ _) ?_
    | fail)
    obtain ⟨w6, hw⟩ : ∃ x, x = (w5.alloc (.cells (wds 12 z0).toArray 39)).setCells w5.heap.size 0 (wds 12 f) := ⟨_, rfl⟩
    rw [← hw] at HY7 HPI HX0 HB ⊢
    obtain ⟨p7, hp7⟩ : ∃ x, x = w5.heap.size := ⟨_, rfl⟩
    rw [← hp7] at HY7 hpl7 ⊢
    clear hw hp7 N1 HX0
    have h7 : p7 ≠ p := by omega
    have hlo := HG.out.lo hpw
    refine (constants_c p (n : Int) w6 HPI.out (HG.out.up HB.out) hlo).mono ?_
    rintro e w8 ⟨c, rfl, hc, hq8, ho8, hk8⟩
    have HC := hid hc
    have x7' := ho8.blk HY7.out h7
    have b8 := HB.out.trans (ho8.below hpw HB.out.size)
    obtain ⟨m1, m2, m3⟩ := newRow w8 39 12 c
    have N1 := hid m1
    have HY9 := hid m2
    have HY7' := hid (x7'.up m3)
    have HP9 := hid (hq8.up m3)
    have HB9 := hid (bchain b8 m3)
    have hlc := wds_len 12 c
    have hpl9 := hq8.size
    have h79 : p7 < w8.heap.size := x7'.size
    have HX7 := hid HY7'.out.range
    clear hc hq8 ho8 hk8 x7' b8 m1 m2 m3 HY7 HPI HB
    unfold oF at N1 HY9 HY7' HP9 HB9 HX7
    go_upto_region 7 with (first
    | with_reducible refine wpList_store_mid rfl 39 (.tmp 9) (.tmp 32) rfl (w8.heap.size) (0) (wds 12 c).toArray rfl rfl (by with_reducible exact N1.out) (sizeVA _) (wds_all _ _) ?_
    | fail)
    obtain ⟨w9, hw9⟩ : ∃ x, x = ((w8.alloc (.cells (wds 12 z0).toArray 39)).setCells w8.heap.size 0 (wds 12 c)) := ⟨_, rfl⟩
    rw [← hw9] at HY9 HY7' HP9 HB9 HX7 ⊢
    obtain ⟨p9, hp9⟩ : ∃ x, x = w8.heap.size := ⟨_, rfl⟩
    rw [← hp9] at HY9 hpl9 h79 ⊢
    have h99 := HY9.out.size
    obtain ⟨k1, k2, k3⟩ := newRow w9 39 12 f
    have N2 := hid k1
    have HY10 := hid k2
    have HY7a := hid (HY7'.out.up k3)
    have HY9a := hid (HY9.out.up k3)
    have HPa := hid (HP9.out.up k3)
    have HBa := hid (bchain HB9.out k3)
    clear hw9 hp9 k1 k2 k3 HY7' HY9 HP9 HB9
    unfold oF at N2 HY10 HY7a HY9a HPa HBa
    go_upto_region 8 with (first
    | with_reducible refine wpList_load_mid rfl 39 (.tmp 7) rfl (p7) (0) rfl (wds 12 f) _ (by with_reducible exact HX7.out) Tryz.underlying39 rfl (sizeV _) ?_
    | with_reducible refine wpList_store_mid rfl 39 (.tmp 10) (.tmp 33) rfl (w9.heap.size) (0) (wds 12 f).toArray rfl rfl (by with_reducible exact N2.out) (sizeVA _) (wds_all _ _) ?_
    | fail)
    obtain ⟨wa, hwa⟩ : ∃ x, x = ((w9.alloc (.cells (wds 12 z0).toArray 39)).setCells w9.heap.size 0 (wds 12 f)) := ⟨_, rfl⟩
    rw [← hwa] at HY10 HY7a HY9a HPa HBa ⊢
    obtain ⟨p10, hp10⟩ : ∃ x, x = w9.heap.size := ⟨_, rfl⟩
    rw [← hp10] at HY10 h99 ⊢
    have h9 : p9 ≠ p := by omega
    have h10 : p10 ≠ p := by omega
    have h710 : p7 ≠ p10 := by omega
    have h910 : p9 ≠ p10 := by omega
    have hw10 : w.heap.size ≤ p10 := by omega
    have S0 := hid (StT.mk HY7a.out HY9a.out HY10.out HPa.out HBa.out)
    have P0 : Hid (SP (rsZ (pcI (n : Int)) (fulI (n : Int)) (num3 l0)) (num3 l0) 0 f) := hid (SP.start HF.out)
    clear hwa hp10 N1 N2 HX7 HY10 HY7a HY9a HPa HBa hpl7 hpl9 h79 h99
    have n0' : (0 : Int) ≤ (n : Int) := by omega
    have n1' : (n : Int) < 65 := by omega
    go_wp2_with fail
    go_loopw [34] (fun i wr => ∃ m : Nat, ∃ g : Nat → Int, m ≤ 3 ∧ i = .int .i64 m ∧ SP (rsZ (pcI (n : Int)) (fulI (n : Int)) (num3 l0)) (num3 l0) m g ∧ StT w p p7 p9 p10 f c g wr) (fun i _ => 3 - (intOf i).toNat)
    case atStart => exact ⟨0, f, by omega, rfl, P0.out, S0.out⟩
    case round =>
      clear S0 P0
      obtain ⟨m, g, hm, rfl, hP, hS⟩ := hrel
      by_cases hltm : m < 3
      · have j0 : (0 : Int) ≤ (m : Int) := by omega
        have j2 : (m : Int) < 3 := by omega
        have EX := hid (hP.here hltm)
        have EC := hid (HC.out.el hltm)
        have HP := hid hP
        have OX : Hid (∀ v, BlkV v p10 39 (wds 12 g) → v.rangeAt p10 (m * 4) (wds 4 fun k => g (m * 4 + k))) := fun v hv => hv.sub _ 4 (by omega)
        have OC : Hid (∀ v, BlkV v p9 39 (wds 12 c) → v.rangeAt p9 (m * 4) (wds 4 fun k => c (m * 4 + k))) := fun v hv => hv.sub _ 4 (by omega)
        obtain ⟨a, ha⟩ : ∃ a : Nat → Int, a = fun k => g (m * 4 + k) := ⟨_, rfl⟩
        obtain ⟨b, hb⟩ : ∃ a : Nat → Int, a = fun k => c (m * 4 + k) := ⟨_, rfl⟩
        rw [← ha] at EX OX
        rw [← hb] at EC OC
        have e0 := StT.up hS (Below.refl _ _).drew
        clear ha hb hP hS
        go_wp2_with fail
        refine wp_region_held_drew (S := fun v => BlkV v p9 39 (wds 12 c)) (by kernel_rfl) (e0).x9 (fun hHeld => ?_)
        refine wpAnyH_take (i := 0) (v := ?_) rfl (by kernel_rfl) (by kernel_rfl) (by kernel_rfl) (fun _ _ _ h => h) (Or.inl ⟨by rfl, fun v hv => ?_⟩) (by with_reducible assumption) ?_
        rotate_left
        · go_simp
          try with_reducible rfl
        simp only [Act.put, List.setIfInBounds_toArray, List.set_cons_zero, List.set_cons_succ, List.getElem_toArray, List.getElem_cons_zero, List.getElem_cons_succ]
        refine wpAnyH_take (i := 1) (v := ?_) rfl (by kernel_rfl) (by kernel_rfl) (by kernel_rfl) (fun _ _ _ h => h) (Or.inl ⟨by rfl, fun v hv => ?_⟩) (by with_reducible assumption) ?_
        rotate_left
        · go_simp
          try with_reducible rfl
        simp only [Act.put, List.setIfInBounds_toArray, List.set_cons_zero, List.set_cons_succ, List.getElem_toArray, List.getElem_cons_zero, List.getElem_cons_succ]
        refine wpAnyH_take (i := 2) (v := ?_) rfl (by kernel_rfl) (by kernel_rfl) (by kernel_rfl) (fun _ _ _ h => h) (Or.inl ⟨by rfl, fun v hv => ?_⟩) (by with_reducible assumption) ?_
        rotate_left
        · go_simp
          try with_reducible rfl
        simp only [Act.put, List.setIfInBounds_toArray, List.set_cons_zero, List.set_cons_succ, List.getElem_toArray, List.getElem_cons_zero, List.getElem_cons_succ]
        refine wpAnyH_take (i := 4) (v := ?_) rfl (by kernel_rfl) (by kernel_rfl) (by kernel_rfl) (fun _ _ _ h => h) (Or.inl ⟨by rfl, fun v hv => ?_⟩) (by with_reducible assumption) ?_
        rotate_left
        · go_simp
          try with_reducible rfl
        simp only [Act.put, List.setIfInBounds_toArray, List.set_cons_zero, List.set_cons_succ, List.getElem_toArray, List.getElem_cons_zero, List.getElem_cons_succ]
        refine wpAnyH_take (i := 5) (v := ?_) rfl (by kernel_rfl) (by kernel_rfl) (by kernel_rfl) (fun _ _ _ h => h) (Or.inl ⟨by rfl, fun v hv => ?_⟩) (by with_reducible assumption) ?_
        rotate_left
        · go_simp
          try with_reducible rfl
        simp only [Act.put, List.setIfInBounds_toArray, List.set_cons_zero, List.set_cons_succ, List.getElem_toArray, List.getElem_cons_zero, List.getElem_cons_succ]
        refine wpAnyH_take (i := 6) (v := .agg (wds 4 b).toArray) rfl (by kernel_rfl) (by kernel_rfl) (by kernel_rfl) (fun _ _ _ h => h) (yieldsIf_load_mid (by rfl) 37 (.tmp 42) rfl (p9) (m * 4) rfl (wds 4 b) _ (fun v hv => OC.out v hv) Tryz.underlying37 rfl (sizeE _)) (by with_reducible assumption) ?_
        simp only [Act.put, List.setIfInBounds_toArray, List.set_cons_zero, List.set_cons_succ, List.getElem_toArray, List.getElem_cons_zero, List.getElem_cons_succ]
        refine wpAnyH_ready (rs := [3]) (by kernel_rfl) (by simp) ?_
        refine (AllReadyH.cons rfl (fun K hK => ?_) AllReadyH.nil)
        refine ready_go (by rfl) ?_
        refine wp_load_mid 37 (.tmp 39) rfl (p10) (m * 4) rfl (wds 4 a) _ (OX.out _ (e0).x10) Tryz.underlying37 rfl (sizeE _) ?_
        refine hK.out _ _ ((e0).x9) (fun hHeld => ?_)
        clear hK K
        try simp only [Act.put, List.setIfInBounds_toArray, List.set_cons_zero, List.set_cons_succ, List.getElem_toArray, List.getElem_cons_zero, List.getElem_cons_succ]
        refine wpAnyH_ready (rs := [7]) (by kernel_rfl) (by simp) ?_
        refine (AllReadyH.cons rfl (fun K hK => ?_) AllReadyH.nil)
        go_simp
        go_at_call 21
        with_reducible refine (eaddZ_c _ _ _ _ wr.drew EX.out EC.out (HG.out.up (e0).b)).mono ?_
        rintro e wr2 ⟨r3, rfl, he3, hbr2⟩
        have e_r2 := (e0).up hbr2
        obtain ⟨gr, rfl⟩ := he3.fn
        try dsimp only
        refine hK.out _ _ ((e_r2).x9) (fun hHeld => ?_)
        clear hK K
        try simp only [Act.put, List.setIfInBounds_toArray, List.set_cons_zero, List.set_cons_succ, List.getElem_toArray, List.getElem_cons_zero, List.getElem_cons_succ]
        refine wpAnyH_take (i := 8) (v := ?_) rfl (by kernel_rfl) (by kernel_rfl) (by kernel_rfl) (fun _ _ _ h => h) (Or.inl ⟨by rfl, fun v hv => ?_⟩) (by with_reducible assumption) ?_
        rotate_left
        · go_simp
          try with_reducible rfl
        simp only [Act.put, List.setIfInBounds_toArray, List.set_cons_zero, List.set_cons_succ, List.getElem_toArray, List.getElem_cons_zero, List.getElem_cons_succ]
        refine wpAnyH_ready (rs := [9]) (by kernel_rfl) (by simp) ?_
        refine (AllReadyH.cons rfl (fun K hK => ?_) AllReadyH.nil)
        refine ready_go (by rfl) ?_
        refine wp_store_mid 37 (.tmp 45) (.tmp 44) rfl (p10) (m * 4) (wds 4 gr).toArray rfl rfl ((e_r2).x10.thereW (m * 4) 4 gr (by omega)) (sizeEA _) (wds_all _ _) ?_
        have eS := hid (StT.lay4 e_r2 h710 h910 h10.symm hw10 (m * 4) (by omega) gr)
        refine hK.out _ _ ((eS.out).x9) (fun hHeld => ?_)
        clear hK K
        try simp only [Act.put, List.setIfInBounds_toArray, List.set_cons_zero, List.set_cons_succ, List.getElem_toArray, List.getElem_cons_zero, List.getElem_cons_succ]
        refine wpAnyH_done (by kernel_rfl) ?_ _
        have HE3 := hid he3
        clear he3 EX EC OX OC e0
        obtain ⟨wb, hwb⟩ : ∃ x, x = wr2.setCells p10 (m * 4) (wds 4 gr) := ⟨_, rfl⟩
        rw [← hwb] at eS ⊢
        clear hwb
        rcases Nat.eq_zero_or_pos m with hm0 | hm0
        · have e0' : ((m : Int) == 0) = true := by simp; omega
          have HRS : Hid ((rsZ (pcI (n : Int)) (fulI (n : Int)) (num3 l0)) m = pw5 ((num3 l0) m + pcI (n : Int) m)) := by
            show _ = _
            unfold rsZ
            rw [show (m == 0) = true by simp; omega, Bool.or_true]
            rfl
          clear hm0
          have OX2 : Hid (wb.rangeAt p10 (m * 4) (wds 4 gr)) := by
            have q := eS.out.x10.sub (m * 4) 4 (by omega)
            rw [wds_ext (g := gr) fun k hk => fput_in hk] at q
            exact q
          have hlgr := wds_len 4 gr
          go_wp2_with (first
    | with_reducible refine wpList_load_mid rfl 37 (.tmp 58) rfl (p10) (m * 4) rfl (wds 4 gr) _ (by with_reducible exact OX2.out) Tryz.underlying37 rfl (sizeE _) ?_
    | fail)
          refine (power_c _ _ wb HE3.out (HG.out.up eS.out.b)).mono ?_
          rintro e wc' ⟨r4, rfl, he4, hb4⟩
          obtain ⟨g4, rfl⟩ := he4.fn
          have e4 := eS.out.up hb4
          have HT4 := hid (e4.x10.thereW (m * 4) 4 g4 (by omega))
          have e5 := e4.lay4 h710 h910 h10.symm hw10 (m * 4) (by omega) g4
          rw [fput_twice] at e5
          have HS5 := hid e5
          have HP5 := hid (HP.out.put (he4.eq HRS.out.symm))
          have hlg4 := wds_len 4 g4
          clear e4 e5 hb4 he4 eS HE3 HP OX2 HRS
          go_wp2_with (first
    | with_reducible refine wpList_store_mid rfl 37 (.tmp 61) (.tmp 60) rfl (p10) (m * 4) (wds 4 g4).toArray rfl rfl (by with_reducible exact HT4.out) (sizeEA _) (wds_all _ _) ?_
    | fail)
          go_roundw
          case rel => exact ⟨m + 1, _, by omega, by go_num, HP5.out, HS5.out⟩
          case measure => simp [intOf]; omega
        · have e0' : ((m : Int) == 0) = false := by simp; omega
          by_cases hn4 : (n : Int) < 4
          · have HRS : Hid ((rsZ (pcI (n : Int)) (fulI (n : Int)) (num3 l0)) m = pw5 ((num3 l0) m + pcI (n : Int) m)) := by
              show _ = _
              unfold rsZ fulI
              rw [decide_eq_true hn4]
              rfl
            clear hm0
            have OX2 : Hid (wb.rangeAt p10 (m * 4) (wds 4 gr)) := by
              have q := eS.out.x10.sub (m * 4) 4 (by omega)
              rw [wds_ext (g := gr) fun k hk => fput_in hk] at q
              exact q
            have hlgr := wds_len 4 gr
            go_wp2_with (first
    | with_reducible refine wpList_load_mid rfl 37 (.tmp 58) rfl (p10) (m * 4) rfl (wds 4 gr) _ (by with_reducible exact OX2.out) Tryz.underlying37 rfl (sizeE _) ?_
    | fail)
            refine (power_c _ _ wb HE3.out (HG.out.up eS.out.b)).mono ?_
            rintro e wc' ⟨r4, rfl, he4, hb4⟩
            obtain ⟨g4, rfl⟩ := he4.fn
            have e4 := eS.out.up hb4
            have HT4 := hid (e4.x10.thereW (m * 4) 4 g4 (by omega))
            have e5 := e4.lay4 h710 h910 h10.symm hw10 (m * 4) (by omega) g4
            rw [fput_twice] at e5
            have HS5 := hid e5
            have HP5 := hid (HP.out.put (he4.eq HRS.out.symm))
            have hlg4 := wds_len 4 g4
            clear e4 e5 hb4 he4 eS HE3 HP OX2 HRS
            go_wp2_with (first
    | with_reducible refine wpList_store_mid rfl 37 (.tmp 61) (.tmp 60) rfl (p10) (m * 4) (wds 4 g4).toArray rfl rfl (by with_reducible exact HT4.out) (sizeEA _) (wds_all _ _) ?_
    | fail)
            go_roundw
            case rel => exact ⟨m + 1, _, by omega, by go_num, HP5.out, HS5.out⟩
            case measure => simp [intOf]; omega
          · have d4 : decide ((n : Int) < 4) = false := decide_eq_false hn4
            by_cases hn61 : 61 ≤ (n : Int)
            · have HRS : Hid ((rsZ (pcI (n : Int)) (fulI (n : Int)) (num3 l0)) m = pw5 ((num3 l0) m + pcI (n : Int) m)) := by
                show _ = _
                unfold rsZ fulI
                rw [d4, decide_eq_true (show 60 < (n : Int) by omega)]
                rfl
              clear hm0
              have OX2 : Hid (wb.rangeAt p10 (m * 4) (wds 4 gr)) := by
                have q := eS.out.x10.sub (m * 4) 4 (by omega)
                rw [wds_ext (g := gr) fun k hk => fput_in hk] at q
                exact q
              have hlgr := wds_len 4 gr
              go_wp2_with (first
    | with_reducible refine wpList_load_mid rfl 37 (.tmp 58) rfl (p10) (m * 4) rfl (wds 4 gr) _ (by with_reducible exact OX2.out) Tryz.underlying37 rfl (sizeE _) ?_
    | fail)
              refine (power_c _ _ wb HE3.out (HG.out.up eS.out.b)).mono ?_
              rintro e wc' ⟨r4, rfl, he4, hb4⟩
              obtain ⟨g4, rfl⟩ := he4.fn
              have e4 := eS.out.up hb4
              have HT4 := hid (e4.x10.thereW (m * 4) 4 g4 (by omega))
              have e5 := e4.lay4 h710 h910 h10.symm hw10 (m * 4) (by omega) g4
              rw [fput_twice] at e5
              have HS5 := hid e5
              have HP5 := hid (HP.out.put (he4.eq HRS.out.symm))
              have hlg4 := wds_len 4 g4
              clear e4 e5 hb4 he4 eS HE3 HP OX2 HRS
              go_wp2_with (first
    | with_reducible refine wpList_store_mid rfl 37 (.tmp 61) (.tmp 60) rfl (p10) (m * 4) (wds 4 g4).toArray rfl rfl (by with_reducible exact HT4.out) (sizeEA _) (wds_all _ _) ?_
    | fail)
              go_roundw
              case rel => exact ⟨m + 1, _, by omega, by go_num, HP5.out, HS5.out⟩
              case measure => simp [intOf]; omega
            · have d61 : decide (61 ≤ (n : Int)) = false := decide_eq_false hn61
              have HRS : Hid ((rsZ (pcI (n : Int)) (fulI (n : Int)) (num3 l0)) m = (num3 l0) m + pcI (n : Int) m) := by
                show _ = _
                unfold rsZ fulI
                rw [d4, decide_eq_false (show ¬ 60 < (n : Int) by omega), show (m == 0) = false by simp; omega]
                rfl
              have HP5 := hid (HP.out.put (HE3.out.eq HRS.out.symm))
              have HS5 := hid eS.out
              clear hm0 eS HE3 HP HRS
              go_wp2_with fail
              go_roundw
              case rel => exact ⟨m + 1, _, by omega, by go_num, HP5.out, HS5.out⟩
              case measure => simp [intOf]; omega
      · obtain rfl : m = 3 := by omega
        have HGV := hid hP.end_
        have hlg := wds_len 12 g
        have e0 := StT.up hS (Below.refl _ _).drew
        clear hP hS
        go_upto_region 15 with fail
        go_cut [6] (fun s wx => ∃ g : Nat → Int, s = .int .i64 n ∧ VecZ g (mzApply mzCauchy (rsZ (pcI (n : Int)) (fulI (n : Int)) (num3 l0))) ∧ StT w p p7 p9 p10 f c g wx)
        case first =>
          refine wp_region_held_drew (S := fun _ => True) (by kernel_rfl) trivial (fun hHeld => ?_)
          refine wpAnyH_ready (rs := [0, 1]) (by kernel_rfl) (by simp) ?_
          refine (AllReadyH.cons rfl (fun K hK => ?_) (AllReadyH.cons rfl (fun K hK => ?_) AllReadyH.nil))
          · go_simp
            go_at_call 23
            with_reducible refine (cauchy_c wr.drew (HG.out.up (e0).b)).mono ?_
            rintro e wv1 ⟨gc, rfl, hgc, hbv1⟩
            have e_v1 := (e0).up hbv1
            try dsimp only
            refine hK.out _ _ (trivial) (fun hHeld => ?_)
            clear hK K
            try simp only [Act.put, List.setIfInBounds_toArray, List.set_cons_zero, List.set_cons_succ, List.getElem_toArray, List.getElem_cons_zero, List.getElem_cons_succ]
            refine wpAnyH_ready (rs := [1]) (by kernel_rfl) (by simp) ?_
            refine (AllReadyH.cons rfl (fun K hK => ?_) AllReadyH.nil)
            refine ready_go (by rfl) ?_
            refine wp_load_mid 39 (.tmp 10) rfl (p10) (0) rfl (wds 12 g) _ ((e_v1).x10.range) Tryz.underlying39 rfl (sizeV _) ?_
            refine hK.out _ _ (trivial) (fun hHeld => ?_)
            clear hK K
            try simp only [Act.put, List.setIfInBounds_toArray, List.set_cons_zero, List.set_cons_succ, List.getElem_toArray, List.getElem_cons_zero, List.getElem_cons_succ]
            refine wpAnyH_ready (rs := [2]) (by kernel_rfl) (by simp) ?_
            refine (AllReadyH.cons rfl (fun K hK => ?_) AllReadyH.nil)
            go_simp
            go_at_call 24
            with_reducible refine (apply_c gc g _ _ wv1 hgc HGV.out (HG.out.up (e_v1).b)).mono ?_
            rintro e wv3 ⟨ga, rfl, hga, hbv3⟩
            have e_v3 := (e_v1).up hbv3
            try dsimp only
            refine hK.out _ _ (trivial) (fun hHeld => ?_)
            clear hK K
            try simp only [Act.put, List.setIfInBounds_toArray, List.set_cons_zero, List.set_cons_succ, List.getElem_toArray, List.getElem_cons_zero, List.getElem_cons_succ]
            refine wpAnyH_ready (rs := [3]) (by kernel_rfl) (by simp) ?_
            refine (AllReadyH.cons rfl (fun K hK => ?_) AllReadyH.nil)
            refine ready_go (by rfl) ?_
            refine wp_store_mid 39 (.tmp 10) (.tmp 65) rfl (p10) (0) (wds 12 ga).toArray rfl rfl ((e_v3).x10.thereW 0 12 ga (by decide)) (sizeVA _) (wds_all _ _) ?_
            have eS := hid (StT.lay e_v3 h710 h910 h10.symm hw10 ga)
            refine hK.out _ _ (trivial) (fun hHeld => ?_)
            clear hK K
            try simp only [Act.put, List.setIfInBounds_toArray, List.set_cons_zero, List.set_cons_succ, List.getElem_toArray, List.getElem_cons_zero, List.getElem_cons_succ]
            refine wpAnyH_done (by kernel_rfl) ?_ _
            go_wp2_with fail
            go_meet
            exact ⟨ga, rfl, hga, eS.out⟩
          · refine ready_go (by rfl) ?_
            refine wp_load_mid 39 (.tmp 10) rfl (p10) (0) rfl (wds 12 g) _ ((e0).x10.range) Tryz.underlying39 rfl (sizeV _) ?_
            refine hK.out _ _ (trivial) (fun hHeld => ?_)
            clear hK K
            try simp only [Act.put, List.setIfInBounds_toArray, List.set_cons_zero, List.set_cons_succ, List.getElem_toArray, List.getElem_cons_zero, List.getElem_cons_succ]
            refine wpAnyH_ready (rs := [0]) (by kernel_rfl) (by simp) ?_
            refine (AllReadyH.cons rfl (fun K hK => ?_) AllReadyH.nil)
            go_simp
            go_at_call 23
            with_reducible refine (cauchy_c wr.drew (HG.out.up (e0).b)).mono ?_
            rintro e wv6 ⟨gc, rfl, hgc, hbv6⟩
            have e_v6 := (e0).up hbv6
            try dsimp only
            refine hK.out _ _ (trivial) (fun hHeld => ?_)
            clear hK K
            try simp only [Act.put, List.setIfInBounds_toArray, List.set_cons_zero, List.set_cons_succ, List.getElem_toArray, List.getElem_cons_zero, List.getElem_cons_succ]
            refine wpAnyH_ready (rs := [2]) (by kernel_rfl) (by simp) ?_
            refine (AllReadyH.cons rfl (fun K hK => ?_) AllReadyH.nil)
            go_simp
            go_at_call 24
            with_reducible refine (apply_c gc g _ _ wv6 hgc HGV.out (HG.out.up (e_v6).b)).mono ?_
            rintro e wv7 ⟨ga, rfl, hga, hbv7⟩
            have e_v7 := (e_v6).up hbv7
            try dsimp only
            refine hK.out _ _ (trivial) (fun hHeld => ?_)
            clear hK K
            try simp only [Act.put, List.setIfInBounds_toArray, List.set_cons_zero, List.set_cons_succ, List.getElem_toArray, List.getElem_cons_zero, List.getElem_cons_succ]
            refine wpAnyH_ready (rs := [3]) (by kernel_rfl) (by simp) ?_
            refine (AllReadyH.cons rfl (fun K hK => ?_) AllReadyH.nil)
            refine ready_go (by rfl) ?_
            refine wp_store_mid 39 (.tmp 10) (.tmp 65) rfl (p10) (0) (wds 12 ga).toArray rfl rfl ((e_v7).x10.thereW 0 12 ga (by decide)) (sizeVA _) (wds_all _ _) ?_
            have eS := hid (StT.lay e_v7 h710 h910 h10.symm hw10 ga)
            refine hK.out _ _ (trivial) (fun hHeld => ?_)
            clear hK K
            try simp only [Act.put, List.setIfInBounds_toArray, List.set_cons_zero, List.set_cons_succ, List.getElem_toArray, List.getElem_cons_zero, List.getElem_cons_succ]
            refine wpAnyH_done (by kernel_rfl) ?_ _
            go_wp2_with fail
            go_meet
            exact ⟨ga, rfl, hga, eS.out⟩
        case rest =>
          clear e0 HGV hlg
          obtain ⟨g, rfl, hg, hS⟩ := hcut
          have HGV := hid hg
          obtain ⟨wd, hwd⟩ : ∃ x, x = wc := ⟨_, rfl⟩
          rw [← hwd] at hS ⊢
          have HS := hid hS
          have HX7 := hid hS.x7.range
          have hlg := wds_len 12 g
          clear hg hS hwd
          go_wp2_with (first
    | with_reducible refine wpList_load_mid rfl 39 (.tmp 7) rfl (p7) (0) rfl (wds 12 f) _ (by with_reducible exact HX7.out) Tryz.underlying39 rfl (sizeV _) ?_
    | fail)
          refine (round_c p f (num3 l0) (n : Int) wd HS.out.pi HF.out (HG.out.up HS.out.b) hlo).mono ?_
          rintro e we ⟨gy, rfl, hgy, hqe, hoe, hke⟩
          rw [rdZ_rs] at hgy
          have HGY := hid hgy
          have xe := hoe.blk HS.out.x10 h10
          have be := HS.out.b.trans (hoe.below hpw HS.out.b.size)
          obtain ⟨m1, m2, m3⟩ := newRow we 39 12 gy
          have N1 := hid m1
          have hly := wds_len 12 gy
          have Z0 := hid (UnZ.mk (xe.up m3) m2 (bchain be m3))
          clear hgy hqe hoe hke xe be m1 m2 m3 HS HX7
          unfold oF at N1 Z0
          go_upto_region 17 with (first
    | with_reducible refine wpList_store_mid rfl 39 (.tmp 12) (.tmp 69) rfl (we.heap.size) (0) (wds 12 gy).toArray rfl rfl (by with_reducible exact N1.out) (sizeVA _) (wds_all _ _) ?_
    | fail)
          obtain ⟨wf, hwf⟩ : ∃ x, x = (we.alloc (.cells (wds 12 z0).toArray 39)).setCells we.heap.size 0 (wds 12 gy) := ⟨_, rfl⟩
          rw [← hwf] at Z0 ⊢
          obtain ⟨p12, hp12⟩ : ∃ x, x = we.heap.size := ⟨_, rfl⟩
          rw [← hp12] at Z0 ⊢
          clear hwf hp12 N1
          obtain ⟨a0, ha0⟩ : ∃ a : Nat → Int, a = fun k => g (0 * 4 + k) := ⟨_, rfl⟩
          have Ea0 : Hid (Ez (.agg (wds 4 a0).toArray) ((mzApply mzCauchy (rsZ (pcI (n : Int)) (fulI (n : Int)) (num3 l0))) 0)) := by rw [ha0]; exact (HGV.out.at_ 0 (by decide)).out
          have Oa0 : Hid (∀ v, BlkV v p10 39 (wds 12 g) → v.rangeAt p10 0 (wds 4 a0)) := fun v hv => by rw [ha0]; exact hv.sub (0 * 4) 4 (by decide)
          have hla0 := wds_len 4 a0
          clear ha0
          obtain ⟨a1, ha1⟩ : ∃ a : Nat → Int, a = fun k => g (1 * 4 + k) := ⟨_, rfl⟩
          have Ea1 : Hid (Ez (.agg (wds 4 a1).toArray) ((mzApply mzCauchy (rsZ (pcI (n : Int)) (fulI (n : Int)) (num3 l0))) 1)) := by rw [ha1]; exact (HGV.out.at_ 1 (by decide)).out
          have Oa1 : Hid (∀ v, BlkV v p10 39 (wds 12 g) → v.rangeAt p10 4 (wds 4 a1)) := fun v hv => by rw [ha1]; exact hv.sub (1 * 4) 4 (by decide)
          have hla1 := wds_len 4 a1
          clear ha1
          obtain ⟨a2, ha2⟩ : ∃ a : Nat → Int, a = fun k => g (2 * 4 + k) := ⟨_, rfl⟩
          have Ea2 : Hid (Ez (.agg (wds 4 a2).toArray) ((mzApply mzCauchy (rsZ (pcI (n : Int)) (fulI (n : Int)) (num3 l0))) 2)) := by rw [ha2]; exact (HGV.out.at_ 2 (by decide)).out
          have Oa2 : Hid (∀ v, BlkV v p10 39 (wds 12 g) → v.rangeAt p10 8 (wds 4 a2)) := fun v hv => by rw [ha2]; exact hv.sub (2 * 4) 4 (by decide)
          have hla2 := wds_len 4 a2
          clear ha2
          obtain ⟨b0, hb0⟩ : ∃ a : Nat → Int, a = fun k => gy (0 * 4 + k) := ⟨_, rfl⟩
          have Eb0 : Hid (Ez (.agg (wds 4 b0).toArray) ((mzApply mzCauchy (rsZ (pcI (n : Int)) (fulI (n : Int)) (num3 l0))) 0)) := by rw [hb0]; exact (HGY.out.at_ 0 (by decide)).out
          have Ob0 : Hid (∀ v, BlkV v p12 39 (wds 12 gy) → v.rangeAt p12 0 (wds 4 b0)) := fun v hv => by rw [hb0]; exact hv.sub (0 * 4) 4 (by decide)
          have hlb0 := wds_len 4 b0
          clear hb0
          obtain ⟨b1, hb1⟩ : ∃ a : Nat → Int, a = fun k => gy (1 * 4 + k) := ⟨_, rfl⟩
          have Eb1 : Hid (Ez (.agg (wds 4 b1).toArray) ((mzApply mzCauchy (rsZ (pcI (n : Int)) (fulI (n : Int)) (num3 l0))) 1)) := by rw [hb1]; exact (HGY.out.at_ 1 (by decide)).out
          have Ob1 : Hid (∀ v, BlkV v p12 39 (wds 12 gy) → v.rangeAt p12 4 (wds 4 b1)) := fun v hv => by rw [hb1]; exact hv.sub (1 * 4) 4 (by decide)
          have hlb1 := wds_len 4 b1
          clear hb1
          obtain ⟨b2, hb2⟩ : ∃ a : Nat → Int, a = fun k => gy (2 * 4 + k) := ⟨_, rfl⟩
          have Eb2 : Hid (Ez (.agg (wds 4 b2).toArray) ((mzApply mzCauchy (rsZ (pcI (n : Int)) (fulI (n : Int)) (num3 l0))) 2)) := by rw [hb2]; exact (HGY.out.at_ 2 (by decide)).out
          have Ob2 : Hid (∀ v, BlkV v p12 39 (wds 12 gy) → v.rangeAt p12 8 (wds 4 b2)) := fun v hv => by rw [hb2]; exact hv.sub (2 * 4) 4 (by decide)
          have hlb2 := wds_len 4 b2
          clear hb2
          have FA := hid (Oa0.out _ Z0.out.x)
          have FB := hid (Ob0.out _ Z0.out.z)
          go_wp2_with (first
    | with_reducible refine wpList_load_mid rfl 37 (.tmp 70) rfl (p10) (0) rfl (wds 4 a0) _ (by with_reducible exact FA.out) Tryz.underlying37 rfl (sizeE _) ?_
    | with_reducible refine wpList_load_mid rfl 37 (.tmp 72) rfl (p12) (0) rfl (wds 4 b0) _ (by with_reducible exact FB.out) Tryz.underlying37 rfl (sizeE _) ?_
    | fail)
          clear FA FB
          refine (equal_t _ _ _ _ wf Ea0.out Eb0.out rfl).mono ?_
          rintro e wft ⟨rfl, bq⟩
          have Z00 := hid (Z0.out.up bq)
          clear bq Z0
          have FA := hid (Oa1.out _ Z00.out.x)
          have FB := hid (Ob1.out _ Z00.out.z)
          go_wp2_with (first
    | refine wpList_load_midG (by rfl) 37 (.tmp 76) rfl (p10) (4) rfl (wds 4 a1) _ (by with_reducible exact FA.out) Tryz.underlying37 rfl (sizeE _) ?_
    | refine wpList_load_midG (by rfl) 37 (.tmp 78) rfl (p12) (4) rfl (wds 4 b1) _ (by with_reducible exact FB.out) Tryz.underlying37 rfl (sizeE _) ?_
    | fail)
          clear FA FB
          refine (equal_t _ _ _ _ wft Ea1.out Eb1.out rfl).mono ?_
          rintro e wftt ⟨rfl, bq⟩
          have Z001 := hid (Z00.out.up bq)
          clear bq Z00
          have FA := hid (Oa2.out _ Z001.out.x)
          have FB := hid (Ob2.out _ Z001.out.z)
          go_wp2_with (first
    | refine wpList_load_midG (by rfl) 37 (.tmp 83) rfl (p10) (8) rfl (wds 4 a2) _ (by with_reducible exact FA.out) Tryz.underlying37 rfl (sizeE _) ?_
    | refine wpList_load_midG (by rfl) 37 (.tmp 85) rfl (p12) (8) rfl (wds 4 b2) _ (by with_reducible exact FB.out) Tryz.underlying37 rfl (sizeE _) ?_
    | fail)
          clear FA FB
          refine (equal_t _ _ _ _ wftt Ea2.out Eb2.out rfl).mono ?_
          rintro e wfttt ⟨rfl, bq⟩
          have Z0012 := hid (Z001.out.up bq)
          clear bq Z001
          go_wp2_with fail
          go_ret
          exact ⟨rfl, Z0012.out.b⟩
  · go_enter Tryz.func6, Tryz.ntmps6
    go_wp2_with fail
    generalize (w.alloc _) = w0 at *
    refine (speaks10_c w0 (HG.out.up HB.out)).mono ?_
    rintro e w1 ⟨rfl, b1⟩
    have HX0' := hid (HX0.out.up b1)
    clear HX0
    have HX0 := HX0'
    clear HX0'
    have HB' := hid (bchain HB.out b1)
    clear HB
    have HB := HB'
    clear HB' b1
    have C0 := HX0.out.cell (i := 0) (by simp)
    have C1 := HX0.out.cell (i := 1) (by simp)
    have C2 := HX0.out.cell (i := 2) (by simp)
    simp only [List.getElem_cons_zero, List.getElem_cons_succ] at C0 C1 C2
    go_wp2_with fail
    clear C0 C1 C2
    refine (few3_f A0 n0 c0 w1 hF0).mono ?_
    rintro e w1f0 ⟨rfl, bf0⟩
    have HX0' := hid (HX0.out.up bf0)
    clear HX0
    have HX0 := HX0'
    clear HX0'
    have HB' := hid (bchain HB.out bf0)
    clear HB
    have HB := HB'
    clear HB' bf0
    go_wp2_with fail
    refine (speaks10_c w1f0 (HG.out.up HB.out)).mono ?_
    rintro e wz ⟨rfl, bz⟩
    have HBZ := hid (bchain HB.out bz)
    clear bz
    go_wp2
    go_ret
    exact ⟨rfl, HBZ.out⟩
end Go.Proofs.YtdepkfdceidikaaGreatDoor
