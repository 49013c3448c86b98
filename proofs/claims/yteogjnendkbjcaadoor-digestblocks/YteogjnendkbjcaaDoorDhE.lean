/-
  digest.Hash.Sum: what the call does.
-/
import Derived.Test.YteogjnendkbjcaaDoorDhD
namespace Go.Proofs.YteogjnendkbjcaaDoor
open Go.RowKit
set_option linter.unusedVariables false
set_option linter.unusedSimpArgs false

def z32d : List Nat := List.replicate 32 0
def o32d (t : TypeId) : Obj := .cells (cells8 z32d).toArray t
theorem z32d_len : z32d.length = 32 := by unfold z32d; rw [List.length_replicate]
theorem o32d_new (w : World) (t : TypeId) : BlkB (w.alloc (o32d t)) w.heap.size t z32d := BlkB.new w t _ (zeros_lt8 _)
theorem zero32d (v : World) : (zeroValue 24).run Tryd.prog v = .ok (.agg (cells8 z32d).toArray) v := by kernel_rfl
theorem size32d : (Tryd.prog.info? 24).map (·.size) = some 32 := by kernel_rfl
theorem agg_200 (v : World) : (isAgg 40).run Tryd.prog v = .ok true v := by
  have h := run_underlying (w := v) Tryd.underlying40
  simp [isAgg, h]
theorem size_200 (v : World) : (sizeOf 40).run Tryd.prog v = .ok 200 v := by kernel_rfl
theorem z200c_new (v : World) (t : TypeId) : BlkB (v.alloc (.cells (cells8 z200).toArray t)) v.heap.size t z200 := BlkB.new v t _ (zeros_lt8 _)
theorem blkB_up {w w' : World} {b : Nat} {t : TypeId} {bs : List Nat} (h : BlkB w b t bs) (hb : Below w.heap.size w w') : BlkB w' b t bs := h.up hb
theorem z200_len' : z200.length = 200 := by unfold z200; rw [List.length_replicate]
/-- What a Hash holds behind the bytes m. -/
structure HashM (w : World) (b : Nat) (m : List Nat) : Prop where
  h : HashB w b (lblk m (m.length / 136)) (hwait m) (m.length % 136)
  lt : allLt8 m
theorem HashM.up {w w' : World} {b : Nat} {m : List Nat} (h : HashM w b m) (hb : Below w.heap.size w w') : HashM w' b m := ⟨h.h.up hb, h.lt⟩
theorem HashM.other {w w' : World} {b c : Nat} {m : List Nat} (h : HashM w b m) (ho : Only c w w') (hne : b ≠ c) : HashM w' b m := ⟨h.h.other ho hne, h.lt⟩
theorem HashM.size {w : World} {b : Nat} {m : List Nat} (h : HashM w b m) : b < w.heap.size := h.h.size

set_option maxRecDepth 20000 in
set_option maxHeartbeats 2000000 in
theorem hsum_c (m : List Nat) (b : Nat) (w : World) (hB : HashM w b m) (hG : GlobK w) :
    Calls Tryd.prog 11 #[.pointer (some ⟨b, 0, none⟩)] w fun e w' => e = .returned (.agg (cells8 (dig m)).toArray) ∧ Below w.heap.size w w' := by
  have hz := zero32d
  have hlz : (cells8 z32d).length = 32 := by rw [c8_len, z32d_len]
  obtain ⟨D, hD⟩ : ∃ D, D = dig m := ⟨_, rfl⟩
  have HDL : Hid (D.length = 32) := by rw [hD]; exact dig_len m
  have HDB : Hid (allLt8 D) := by rw [hD]; exact dig_lt m
  have HDE := dig_last m
  rw [← hD] at HDE ⊢
  clear hD
  have hsz := hB.size
  have HB := hid hB
  have HG := hid hG
  have hb1 := (Below.refl w.heap.size w).alloc (Nat.le_refl _) (o32d 24)
  have B1 := hid hb1
  have R1 := hid (o32d_new w 24)
  have HM1 := hid (hB.up hb1)
  have HG1 := hid (hG.up hb1)
  clear hB hG hb1
  unfold o32d at B1 R1 HM1 HG1
  go_enter Tryd.func11, Tryd.ntmps11
  go_wp2
  clear hz hlz
  generalize (w.alloc _) = w1 at *
  have hS0 : Below w1.heap.size w1 w1.drew := (Below.refl _ _).drew
  obtain ⟨l, hl⟩ : ∃ l, l = lblk m (m.length / 136) := ⟨_, rfl⟩
  have HLL := hid (show Lanes l by rw [hl]; exact lblk_lanes HB.out.lt _)
  obtain ⟨zs, hzs⟩ : ∃ z, z = hlast m := ⟨_, rfl⟩
  have HZL := hid (show zs.length = 136 by rw [hzs]; exact hlast_len m)
  have HZB := hid (show allLt8 zs by rw [hzs]; exact hlast_lt HB.out.lt)
  obtain ⟨L, hL⟩ : ∃ L, L = labs l zs 0 := ⟨_, rfl⟩
  have HL2 := hid (show Lanes L by rw [hL]; exact labs_lanes HZB.out 0)
  obtain ⟨ks, hks⟩ : ∃ k, k = kby L := ⟨_, rfl⟩
  have HKL := hid (show ks.length = 200 by rw [hks]; exact kby_len L)
  have HKB := hid (show allLt8 ks by rw [hks]; exact kby_lt L)
  have HDK : Hid (D = ks.take 32) := by rw [HDE, hks, hL, hl, hzs]; exact rfl
  go_cut [3] (fun s wx => ∃ p, s = .pointer (some ⟨p, 0, none⟩) ∧ BlkB wx p 40 ks ∧ Below w1.heap.size w1 wx)
  case first =>
    obtain ⟨n25, hn25⟩ : ∃ n : Nat, n = 25 := ⟨_, rfl⟩
    obtain ⟨n200, hn200⟩ : ∃ n : Nat, n = 200 := ⟨_, rfl⟩
    have L1 : ∀ v, Below w1.heap.size w1 v → (loadCellsFrom ⟨b, 0, none⟩ 0 n25 #[]).run Tryd.prog v = .ok (cellsOf64 l).toArray v := fun v h => by
      have hr := (HM1.out.up h).h.state
      rw [← hl] at hr
      rw [hn25, ← HLL.out.len, ← c64_len]
      exact run_loadCells_list (P := Tryd.prog) v ⟨b, 0, none⟩ (cellsOf64 l) (fun j u hu => by rw [Addr.add_mid]; exact hr j u hu)
    have C1 : ∀ v, Below w1.heap.size w1 v → Calls Tryd.prog 21 #[.pointer (some ⟨b, 0, none⟩)] v fun e w' => e = .returned (.agg (cells8 zs).toArray) ∧ Below v.heap.size v w' := fun v h => by
      rw [hzs]; exact last_c _ m b v HB.out.lt (HM1.out.up h).h
    have C2 : ∀ v, Below w1.heap.size w1 v → Calls Tryd.prog 20 #[.agg (cellsOf64 l).toArray, .agg (cells8 zs).toArray] v fun e w' => e = .returned (.agg (cellsOf64 L).toArray) ∧ Below v.heap.size v w' := fun v h => by
      rw [hL]; exact behind_c l zs v HLL.out HZL.out HZB.out (HG1.out.up h)
    have C3 : ∀ v, Below w1.heap.size w1 v → Calls Tryd.prog 13 #[.agg (cellsOf64 L).toArray] v fun e w' => e = .returned (.agg (cells8 ks).toArray) ∧ Below v.heap.size v w' := fun v h => by
      rw [hks]; exact kbytes_f L v HL2.out
    have ST1 : ∀ v p, BlkB v p 40 z200 → (storeCells ⟨p, 0, none⟩ (cells8 ks)).run Tryd.prog v = .ok () (v.setCells p 0 (cells8 ks)) := fun v p h => by
      have hth := h.there
      rw [z200_len'] at hth
      exact store8 p ks v (by rw [HKL.out]; exact hth)
    have OV1 : ∀ v p, BlkB v p 40 z200 → BlkB (v.setCells p 0 (cells8 ks)) p 40 ks := fun v p h => h.overB ks (by rw [HKL.out, z200_len']) HKB.out
    have hl1 : (cells8 ks).length = n200 := by rw [hn200, c8_len]; exact HKL.out
    have hl2 : (cells8 z200).length = n200 := by rw [hn200, c8_len]; exact z200_len'
    have G1 := agg_st
    have G2 : ∀ v, (sizeOf 31).run Tryd.prog v = .ok n25 v := by rw [hn25]; exact size_st
    have G3 := agg_200
    have G4 : ∀ v, (sizeOf 40).run Tryd.prog v = .ok n200 v := by rw [hn200]; exact size_200
    have G5 := zero200
    have U1 := fun v => run_underlying (w := v) Tryd.underlying35
    have hn0 : ¬ n25 = 0 := by rw [hn25]; decide
    have HM : Tryd.prog.follows .mixedOrders = true := by kernel_rfl
    have N1 := Tryd.call21
    have N2 := Tryd.call20
    have N3 := Tryd.call13
    clear hn25 hn200 HB HG HM1 HG1 B1 R1 hl hzs hL hks HDK HDE HLL HZL HZB HL2 HKL HKB HDL HDB
    generalize Tryd.prog = P at C1 C2 C3 ST1 L1 G1 G2 G3 G4 G5 U1 HM N1 N2 N3 ⊢
    refine wp_region_held_drew (S := fun w' => Below w1.heap.size w1 w') HM hS0 (fun hHeld => ?_)
    generalize w1.drew = v0 at *
    refine wpAnyH_take (i := 0) (v := ?_) rfl (by kernel_rfl) (by kernel_rfl) (by kernel_rfl) (fun _ _ _ h => h) (Or.inl ⟨by rfl, fun v hv => ?_⟩) (by with_reducible assumption) ?_
    rotate_left
    · go_simp
      try with_reducible rfl
    simp only [Act.put, List.setIfInBounds_toArray, List.set_cons_zero, List.set_cons_succ, List.getElem_toArray, List.getElem_cons_zero, List.getElem_cons_succ]
    refine wpAnyH_take (i := 1) (v := ?_) rfl (by kernel_rfl) (by kernel_rfl) (by kernel_rfl) (fun _ _ _ h => h) (Or.inl ⟨by rfl, fun v hv => ?_⟩) (by with_reducible assumption) ?_
    rotate_left
    · go_simp
      try with_reducible rfl
    simp only [Act.put, List.setIfInBounds_toArray, List.set_cons_zero, List.set_cons_succ, List.getElem_toArray, List.getElem_cons_zero, List.getElem_cons_succ]
    refine wpAnyH_take (i := 2) (v := ?_) rfl (by kernel_rfl) (by kernel_rfl) (by kernel_rfl) (fun _ _ _ h => h) (Or.inl ⟨by rfl, fun v hv => ?_⟩) (by with_reducible assumption) ?_
    rotate_left
    · go_simp
      try with_reducible rfl
    simp only [Act.put, List.setIfInBounds_toArray, List.set_cons_zero, List.set_cons_succ, List.getElem_toArray, List.getElem_cons_zero, List.getElem_cons_succ]
    refine wpAnyH_take (i := 3) (v := ?_) rfl (by kernel_rfl) (by kernel_rfl) (by kernel_rfl) (fun _ _ _ h => h) (Or.inl ⟨by rfl, fun v hv => ?_⟩) (by with_reducible assumption) ?_
    rotate_left
    · go_simp
      try with_reducible rfl
    simp only [Act.put, List.setIfInBounds_toArray, List.set_cons_zero, List.set_cons_succ, List.getElem_toArray, List.getElem_cons_zero, List.getElem_cons_succ]
    refine wpAnyH_take (i := 4) (v := ?_) rfl (by kernel_rfl) (by kernel_rfl) (by kernel_rfl) (fun _ _ _ h => h) (Or.inl ⟨by rfl, fun v hv => ?_⟩) (by with_reducible assumption) ?_
    rotate_left
    · go_simp
      try with_reducible rfl
    simp only [Act.put, List.setIfInBounds_toArray, List.set_cons_zero, List.set_cons_succ, List.getElem_toArray, List.getElem_cons_zero, List.getElem_cons_succ]
    refine wpAnyH_ready (rs := [5, 8]) (by kernel_rfl) (by simp) ?_
    refine (AllReadyH.cons rfl (fun K hK => ?_) (AllReadyH.cons rfl (fun K hK => ?_) AllReadyH.nil))
    · go_simp
      go_at_call 21
      with_reducible refine (C1 _ (by with_reducible assumption)).mono ?_
      rintro e wv1 ⟨rfl, hb1⟩
      have hS1 : Below w1.heap.size w1 wv1 := bchain (by with_reducible assumption) hb1
      dsimp only
      refine hK.out _ _ hS1 (fun hHeld => ?_)
      clear hK K
      try simp only [Act.put, List.setIfInBounds_toArray, List.set_cons_zero, List.set_cons_succ, List.getElem_toArray, List.getElem_cons_zero, List.getElem_cons_succ]
      refine wpAnyH_ready (rs := [6, 8]) (by kernel_rfl) (by simp) ?_
      refine (AllReadyH.cons rfl (fun K hK => ?_) (AllReadyH.cons rfl (fun K hK => ?_) AllReadyH.nil))
      · go_simp
        go_at_call 20
        with_reducible refine (C2 _ (by with_reducible assumption)).mono ?_
        rintro e wv2 ⟨rfl, hb2⟩
        have hS2 : Below w1.heap.size w1 wv2 := bchain (by with_reducible assumption) hb2
        dsimp only
        refine hK.out _ _ hS2 (fun hHeld => ?_)
        clear hK K
        try simp only [Act.put, List.setIfInBounds_toArray, List.set_cons_zero, List.set_cons_succ, List.getElem_toArray, List.getElem_cons_zero, List.getElem_cons_succ]
        refine wpAnyH_ready (rs := [7, 8]) (by kernel_rfl) (by simp) ?_
        refine (AllReadyH.cons rfl (fun K hK => ?_) (AllReadyH.cons rfl (fun K hK => ?_) AllReadyH.nil))
        · go_simp
          go_at_call 13
          with_reducible refine (C3 _ (by with_reducible assumption)).mono ?_
          rintro e wv3 ⟨rfl, hb3⟩
          have hS3 : Below w1.heap.size w1 wv3 := bchain (by with_reducible assumption) hb3
          dsimp only
          refine hK.out _ _ hS3 (fun hHeld => ?_)
          clear hK K
          try simp only [Act.put, List.setIfInBounds_toArray, List.set_cons_zero, List.set_cons_succ, List.getElem_toArray, List.getElem_cons_zero, List.getElem_cons_succ]
          refine wpAnyH_ready (rs := [8]) (by kernel_rfl) (by simp) ?_
          refine (AllReadyH.cons rfl (fun K hK => ?_) AllReadyH.nil)
          have hb4 := (Below.refl wv3.heap.size wv3).alloc (Nat.le_refl _) (.cells (cells8 z200).toArray 40)
          have hS4 : Below w1.heap.size w1 (wv3.alloc (.cells (cells8 z200).toArray 40)) := bchain hS3 hb4
          have lep4 := hS3.size
          have zp4 : BlkB (wv3.alloc (.cells (cells8 z200).toArray 40)) (wv3.heap.size) 40 z200 := z200c_new wv3 40
          go_simp
          refine hK.out _ _ hS4 (fun hHeld => ?_)
          clear hK K
          try simp only [Act.put, List.setIfInBounds_toArray, List.set_cons_zero, List.set_cons_succ, List.getElem_toArray, List.getElem_cons_zero, List.getElem_cons_succ]
          generalize hv4 : wv3.alloc (.cells (cells8 z200).toArray 40) = wv4 at *
          generalize hbl4 : wv3.heap.size = pb4 at *
          clear hb4
          refine wpAnyH_ready (rs := [9]) (by kernel_rfl) (by simp) ?_
          refine (AllReadyH.cons rfl (fun K hK => ?_) AllReadyH.nil)
          have hst5 := ST1 wv4 pb4 zp4
          go_simp
          have hS5 : Below w1.heap.size w1 (wv4.setCells pb4 0 (cells8 ks)) := below_cells lep4 _ _ _ hS4
          have zp5 := OV1 _ _ zp4
          refine hK.out _ _ hS5 (fun hHeld => ?_)
          clear hK K hst5
          try simp only [Act.put, List.setIfInBounds_toArray, List.set_cons_zero, List.set_cons_succ, List.getElem_toArray, List.getElem_cons_zero, List.getElem_cons_succ]
          generalize wv4.setCells pb4 0 (cells8 ks) = wv5 at *
          refine wpAnyH_done (by kernel_rfl) ?_ _
          go_wp2_with fail
          go_meet
          exact ⟨_, rfl, zp5, hS5⟩
        · have hb6 := (Below.refl wv2.heap.size wv2).alloc (Nat.le_refl _) (.cells (cells8 z200).toArray 40)
          have hS6 : Below w1.heap.size w1 (wv2.alloc (.cells (cells8 z200).toArray 40)) := bchain hS2 hb6
          have lep6 := hS2.size
          have zp6 : BlkB (wv2.alloc (.cells (cells8 z200).toArray 40)) (wv2.heap.size) 40 z200 := z200c_new wv2 40
          go_simp
          refine hK.out _ _ hS6 (fun hHeld => ?_)
          clear hK K
          try simp only [Act.put, List.setIfInBounds_toArray, List.set_cons_zero, List.set_cons_succ, List.getElem_toArray, List.getElem_cons_zero, List.getElem_cons_succ]
          generalize hv6 : wv2.alloc (.cells (cells8 z200).toArray 40) = wv6 at *
          generalize hbl6 : wv2.heap.size = pb6 at *
          clear hb6
          refine wpAnyH_ready (rs := [7]) (by kernel_rfl) (by simp) ?_
          refine (AllReadyH.cons rfl (fun K hK => ?_) AllReadyH.nil)
          go_simp
          go_at_call 13
          with_reducible refine (C3 _ (by with_reducible assumption)).mono ?_
          rintro e wv7 ⟨rfl, hb7⟩
          have hS7 : Below w1.heap.size w1 wv7 := bchain (by with_reducible assumption) hb7
          have zp7 := blkB_up zp6 hb7
          dsimp only
          refine hK.out _ _ hS7 (fun hHeld => ?_)
          clear hK K
          try simp only [Act.put, List.setIfInBounds_toArray, List.set_cons_zero, List.set_cons_succ, List.getElem_toArray, List.getElem_cons_zero, List.getElem_cons_succ]
          refine wpAnyH_ready (rs := [9]) (by kernel_rfl) (by simp) ?_
          refine (AllReadyH.cons rfl (fun K hK => ?_) AllReadyH.nil)
          have hst8 := ST1 wv7 pb6 zp7
          go_simp
          have hS8 : Below w1.heap.size w1 (wv7.setCells pb6 0 (cells8 ks)) := below_cells lep6 _ _ _ hS7
          have zp8 := OV1 _ _ zp7
          refine hK.out _ _ hS8 (fun hHeld => ?_)
          clear hK K hst8
          try simp only [Act.put, List.setIfInBounds_toArray, List.set_cons_zero, List.set_cons_succ, List.getElem_toArray, List.getElem_cons_zero, List.getElem_cons_succ]
          generalize wv7.setCells pb6 0 (cells8 ks) = wv8 at *
          refine wpAnyH_done (by kernel_rfl) ?_ _
          go_wp2_with fail
          go_meet
          exact ⟨_, rfl, zp8, hS8⟩
      · have hb9 := (Below.refl wv1.heap.size wv1).alloc (Nat.le_refl _) (.cells (cells8 z200).toArray 40)
        have hS9 : Below w1.heap.size w1 (wv1.alloc (.cells (cells8 z200).toArray 40)) := bchain hS1 hb9
        have lep9 := hS1.size
        have zp9 : BlkB (wv1.alloc (.cells (cells8 z200).toArray 40)) (wv1.heap.size) 40 z200 := z200c_new wv1 40
        go_simp
        refine hK.out _ _ hS9 (fun hHeld => ?_)
        clear hK K
        try simp only [Act.put, List.setIfInBounds_toArray, List.set_cons_zero, List.set_cons_succ, List.getElem_toArray, List.getElem_cons_zero, List.getElem_cons_succ]
        generalize hv9 : wv1.alloc (.cells (cells8 z200).toArray 40) = wv9 at *
        generalize hbl9 : wv1.heap.size = pb9 at *
        clear hb9
        refine wpAnyH_ready (rs := [6]) (by kernel_rfl) (by simp) ?_
        refine (AllReadyH.cons rfl (fun K hK => ?_) AllReadyH.nil)
        go_simp
        go_at_call 20
        with_reducible refine (C2 _ (by with_reducible assumption)).mono ?_
        rintro e wv10 ⟨rfl, hb10⟩
        have hS10 : Below w1.heap.size w1 wv10 := bchain (by with_reducible assumption) hb10
        have zp10 := blkB_up zp9 hb10
        dsimp only
        refine hK.out _ _ hS10 (fun hHeld => ?_)
        clear hK K
        try simp only [Act.put, List.setIfInBounds_toArray, List.set_cons_zero, List.set_cons_succ, List.getElem_toArray, List.getElem_cons_zero, List.getElem_cons_succ]
        refine wpAnyH_ready (rs := [7]) (by kernel_rfl) (by simp) ?_
        refine (AllReadyH.cons rfl (fun K hK => ?_) AllReadyH.nil)
        go_simp
        go_at_call 13
        with_reducible refine (C3 _ (by with_reducible assumption)).mono ?_
        rintro e wv11 ⟨rfl, hb11⟩
        have hS11 : Below w1.heap.size w1 wv11 := bchain (by with_reducible assumption) hb11
        have zp11 := blkB_up zp10 hb11
        dsimp only
        refine hK.out _ _ hS11 (fun hHeld => ?_)
        clear hK K
        try simp only [Act.put, List.setIfInBounds_toArray, List.set_cons_zero, List.set_cons_succ, List.getElem_toArray, List.getElem_cons_zero, List.getElem_cons_succ]
        refine wpAnyH_ready (rs := [9]) (by kernel_rfl) (by simp) ?_
        refine (AllReadyH.cons rfl (fun K hK => ?_) AllReadyH.nil)
        have hst12 := ST1 wv11 pb9 zp11
        go_simp
        have hS12 : Below w1.heap.size w1 (wv11.setCells pb9 0 (cells8 ks)) := below_cells lep9 _ _ _ hS11
        have zp12 := OV1 _ _ zp11
        refine hK.out _ _ hS12 (fun hHeld => ?_)
        clear hK K hst12
        try simp only [Act.put, List.setIfInBounds_toArray, List.set_cons_zero, List.set_cons_succ, List.getElem_toArray, List.getElem_cons_zero, List.getElem_cons_succ]
        generalize wv11.setCells pb9 0 (cells8 ks) = wv12 at *
        refine wpAnyH_done (by kernel_rfl) ?_ _
        go_wp2_with fail
        go_meet
        exact ⟨_, rfl, zp12, hS12⟩
    · have hb13 := (Below.refl v0.heap.size v0).alloc (Nat.le_refl _) (.cells (cells8 z200).toArray 40)
      have hS13 : Below w1.heap.size w1 (v0.alloc (.cells (cells8 z200).toArray 40)) := bchain hS0 hb13
      have lep13 := hS0.size
      have zp13 : BlkB (v0.alloc (.cells (cells8 z200).toArray 40)) (v0.heap.size) 40 z200 := z200c_new v0 40
      go_simp
      refine hK.out _ _ hS13 (fun hHeld => ?_)
      clear hK K
      try simp only [Act.put, List.setIfInBounds_toArray, List.set_cons_zero, List.set_cons_succ, List.getElem_toArray, List.getElem_cons_zero, List.getElem_cons_succ]
      generalize hv13 : v0.alloc (.cells (cells8 z200).toArray 40) = wv13 at *
      generalize hbl13 : v0.heap.size = pb13 at *
      clear hb13
      refine wpAnyH_ready (rs := [5]) (by kernel_rfl) (by simp) ?_
      refine (AllReadyH.cons rfl (fun K hK => ?_) AllReadyH.nil)
      go_simp
      go_at_call 21
      with_reducible refine (C1 _ (by with_reducible assumption)).mono ?_
      rintro e wv14 ⟨rfl, hb14⟩
      have hS14 : Below w1.heap.size w1 wv14 := bchain (by with_reducible assumption) hb14
      have zp14 := blkB_up zp13 hb14
      dsimp only
      refine hK.out _ _ hS14 (fun hHeld => ?_)
      clear hK K
      try simp only [Act.put, List.setIfInBounds_toArray, List.set_cons_zero, List.set_cons_succ, List.getElem_toArray, List.getElem_cons_zero, List.getElem_cons_succ]
      refine wpAnyH_ready (rs := [6]) (by kernel_rfl) (by simp) ?_
      refine (AllReadyH.cons rfl (fun K hK => ?_) AllReadyH.nil)
      go_simp
      go_at_call 20
      with_reducible refine (C2 _ (by with_reducible assumption)).mono ?_
      rintro e wv15 ⟨rfl, hb15⟩
      have hS15 : Below w1.heap.size w1 wv15 := bchain (by with_reducible assumption) hb15
      have zp15 := blkB_up zp14 hb15
      dsimp only
      refine hK.out _ _ hS15 (fun hHeld => ?_)
      clear hK K
      try simp only [Act.put, List.setIfInBounds_toArray, List.set_cons_zero, List.set_cons_succ, List.getElem_toArray, List.getElem_cons_zero, List.getElem_cons_succ]
      refine wpAnyH_ready (rs := [7]) (by kernel_rfl) (by simp) ?_
      refine (AllReadyH.cons rfl (fun K hK => ?_) AllReadyH.nil)
      go_simp
      go_at_call 13
      with_reducible refine (C3 _ (by with_reducible assumption)).mono ?_
      rintro e wv16 ⟨rfl, hb16⟩
      have hS16 : Below w1.heap.size w1 wv16 := bchain (by with_reducible assumption) hb16
      have zp16 := blkB_up zp15 hb16
      dsimp only
      refine hK.out _ _ hS16 (fun hHeld => ?_)
      clear hK K
      try simp only [Act.put, List.setIfInBounds_toArray, List.set_cons_zero, List.set_cons_succ, List.getElem_toArray, List.getElem_cons_zero, List.getElem_cons_succ]
      refine wpAnyH_ready (rs := [9]) (by kernel_rfl) (by simp) ?_
      refine (AllReadyH.cons rfl (fun K hK => ?_) AllReadyH.nil)
      have hst17 := ST1 wv16 pb13 zp16
      go_simp
      have hS17 : Below w1.heap.size w1 (wv16.setCells pb13 0 (cells8 ks)) := below_cells lep13 _ _ _ hS16
      have zp17 := OV1 _ _ zp16
      refine hK.out _ _ hS17 (fun hHeld => ?_)
      clear hK K hst17
      try simp only [Act.put, List.setIfInBounds_toArray, List.set_cons_zero, List.set_cons_succ, List.getElem_toArray, List.getElem_cons_zero, List.getElem_cons_succ]
      generalize wv16.setCells pb13 0 (cells8 ks) = wv17 at *
      refine wpAnyH_done (by kernel_rfl) ?_ _
      go_wp2_with fail
      go_meet
      exact ⟨_, rfl, zp17, hS17⟩
  case rest =>
    obtain ⟨p, rfl, hp, hw⟩ := hcut
    obtain ⟨w2, hw2⟩ : ∃ v, v = wc := ⟨_, rfl⟩
    rw [← hw2] at hp hw ⊢
    clear hw2 hl hzs hL hks HDE HLL HZL HZB HL2 HB HG HM1 HG1 hS0
    have n1 := (R1.out.up hw).alloc (o32d 24)
    have n2 := o32d_new w2 24
    have n3 := hp.alloc (o32d 24)
    have n4 := (bchain B1.out hw).alloc (Nat.le_trans (Nat.le_trans (Nat.le_refl _) B1.out.size) hw.size) (o32d 24)
    have hz := zero32d
    have hlz : (cells8 z32d).length = 32 := by rw [c8_len, z32d_len]
    have hl8 : (cells8 D).length = 32 := by rw [c8_len, HDL.out]
    have hwb : w.heap.size < w2.heap.size := Nat.lt_of_lt_of_le R1.out.size hw.size
    clear hw hp B1 R1
    unfold o32d at n1 n2 n3 n4
    go_wp2
    clear hz hlz
    generalize (w2.alloc _) = w3 at *
    generalize w2.heap.size = o at *
    have N1 := hid n1.drew
    have N2 := hid n2.drew
    have N4 := hid n4.drew
    have hrg := n3.drew.range
    have src : ∃ ad, some (⟨p, 0, none⟩ : Addr) = some ad ∧ ∀ j v, (cells8 D)[j]? = some v → w3.drew.cell? (ad.add j) = some v := ⟨_, rfl, fun j v hj => by
      rw [Addr.add_mid]
      refine hrg j v ?_
      rw [HDK.out] at hj
      have hj2 : j < 32 := by
        have := (List.getElem?_eq_some_iff.1 hj).1
        rw [c8_len, List.length_take] at this
        omega
      unfold cells8 at hj ⊢
      rw [List.map_take, List.getElem?_take_of_lt hj2] at hj
      exact hj⟩
    clear n1 n2 n3 n4 hrg
    go_region_law (
      refine step_copy_splice rfl (.tmp 13) (.tmp 14) 22 22 rfl 5 Tryd.underlying22 (by kernel_rfl) (some ⟨o, 0, none⟩) (some ⟨p, 0, none⟩) 32 32 200 200 rfl rfl
        o 0 (cells8 z32d) 24 N2.out.heap (cells8 D) (by rw [hl8]; rfl) (fun _ => ⟨rfl, src⟩) (by rw [hl8, c8_len, z32d_len]; decide) (one8 D) o _ (Below.refl _ _) (Nat.le_refl _) ?_; intro w4 hg4 hb4)
    have d2 : BlkB w4 o 24 D := by
      refine ⟨?_, HDB.out⟩
      have e : splice (cells8 z32d) 0 (cells8 D) = cells8 D := by
        unfold splice
        rw [List.take_zero, List.nil_append, Nat.zero_add, List.drop_eq_nil_of_le (by rw [hl8, c8_len, z32d_len]; exact Nat.le_refl _), List.append_nil]
      rw [← e]; exact hg4.out
    have d1 := N1.out.below hb4 hwb
    have d4 := N4.out.trans (hb4.mono (Nat.le_of_lt hwb))
    have hth := d1.there
    rw [z32d_len] at hth
    have hst := store8 w.heap.size D w4 (by rw [HDL.out]; exact hth)
    have HR := hid (World.rangeAt_setCells_same w4 w.heap.size 0 (cells8 D) (by rw [hl8]; exact hth))
    have HO := hid d2.range
    have HE := hid hl8
    have HF := hid (below_cells (B := w.heap.size) (Nat.le_refl w.heap.size) (cells8 D) 0 w4 d4)
    clear d1 d2 d4 hth hg4 hb4 N1 N2 N4 src
    go_wp2_with (with_reducible refine wpList_load_mid rfl 24 (.tmp 4) rfl o 0 rfl (cells8 D) _ HO.out Tryd.underlying24 rfl (size32d.trans (congrArg some HE.out.symm)) ?_)
    refine bodyPost_ret (results_cell1 Tryd.results11 ⟨w.heap.size, 0, none⟩ _ rfl (run_loadVar_mid _ w.heap.size 0 24 (cells8 D) _ HR.out Tryd.underlying24 rfl (size32d.trans (congrArg some HE.out.symm)))) rfl ?_
    exact ⟨rfl, HF.out⟩
end Go.Proofs.YteogjnendkbjcaaDoor
