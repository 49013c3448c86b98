/-
  avouchlaw10.PoseidonPower: the walk.
-/
import Derived.Test.YtdepkfdceidikaaDoorPpH
namespace Go.Proofs.YtdepkfdceidikaaDoor
open Go.RowKit
set_option linter.unusedVariables false
set_option linter.unusedSimpArgs false


theorem exp5_c (u : Value) (X : Int) (B : Option Addr) (c : Nat) (w : World) (hu : Ez u X) (hb : Rd w w.heap.size B 1 [5]) (hG : Glob w) :
    Calls Tryd.prog 9 #[u, .slice B 1 c] w fun e w' => ∃ r, e = .returned r ∧ Ez r (pw5 X) ∧ Below w.heap.size w w' := by
  obtain ⟨x, hx, ex⟩ := hu.ex
  refine (eexp_c u x B 1 c [5] w hx hb (by omega) hG).mono ?_
  rintro e w1 ⟨r, rfl, hr, b1⟩
  have e5 : val 18446744073709551616 [5] = 5 := by decide
  rw [e5] at hr
  exact ⟨r, rfl, ⟨_, hr, pw5_nat ex⟩, b1⟩
theorem pow_eq_iff (X Y : Int) : decide (pw5 X % pZ = pw5 Y % pZ) = decide (X % pZ = Y % pZ) := decide_eq_decide.mpr ⟨pw5_inj, pw5_cong⟩
theorem equalP_c (u v : Value) (X Y : Int) (q : Bool) (w : World) (hu : Ez u (pw5 X)) (hv : Ez v (pw5 Y)) (hq : Hid (q = decide (X % pZ = Y % pZ))) :
    Calls Tryd.prog 8 #[u, v] w fun e w' => e = .returned (.bool q) ∧ Below w.heap.size w w' := by
  refine (eequalZ_c u v _ _ w hu hv).mono ?_
  rintro e w1 ⟨rfl, b1⟩
  rw [pow_eq_iff, ← hq.out]
  exact ⟨rfl, b1⟩
theorem equalQ_c (u v : Value) (X Y : Int) (q : Bool) (w : World) (hu : Ez u X) (hv : Ez v Y) (hq : Hid (q = decide (X % pZ = Y % pZ))) :
    Calls Tryd.prog 8 #[u, v] w fun e w' => e = .returned (.bool q) ∧ Below w.heap.size w w' := by
  refine (eequalZ_c u v _ _ w hu hv).mono ?_
  rintro e w1 ⟨rfl, b1⟩
  rw [← hq.out]
  exact ⟨rfl, b1⟩
theorem BlkW.upS {w w' : World} {b : Nat} {t : TypeId} {ws : List Nat} (h : BlkW w b t ws) (hb : Below w.heap.size w w') : BlkW w' b t ws := h.below hb h.size
/-- One word in a row that is made. -/
theorem five_new (w : World) : BlkW (w.alloc (.cells #[.int .u64 5] 24)) w.heap.size 24 [5] := BlkW.new64 w _ [5] (by intro x hx; simp at hx; omega)
theorem five_rd {w : World} {b : Nat} (h : BlkW w b 24 [5]) : Rd w w.heap.size (some ⟨b, 0, none⟩) 1 [5] := h.rd (off := 0) (n := 1) (by decide) h.size
set_option maxRecDepth 100000 in
set_option maxHeartbeats 16000000 in
theorem poseidonPower_w (A0 : Option Addr) (n0 c0 : Nat) (l0 : List Nat) (A1 : Option Addr) (n1 c1 : Nat) (l1 : List Nat) (w : World) (r0 : Rd8 w w.heap.size A0 n0 l0) (r1 : Rd8 w w.heap.size A1 n1 l1) (hG : Glob w) :
    Calls Tryd.prog 3 #[.slice A0 n0 c0, .slice A1 n1 c1] w fun e w' => e = .returned (.bool true) ∧ Below w.heap.size w w' := by
  by_cases g0 : 40 < n0
  · have d0 : decide ((40 : Int) < (n0 : Int)) = true := by simp; omega
    go_enter Tryd.func3, Tryd.ntmps3
    go_wp2_with fail
    refine (speaks10_c w hG).mono ?_
    rintro e w1 ⟨rfl, b1⟩
    go_wp2_with fail
    refine (speaks10_c w1 (hG.up b1)).mono ?_
    rintro e w2 ⟨rfl, b2⟩
    go_wp2
    go_ret
    exact ⟨rfl, bchain b1 b2⟩
  have d0 : decide ((40 : Int) < (n0 : Int)) = false := by simp; omega
  by_cases g1 : 40 < n1
  · have d1 : decide ((40 : Int) < (n1 : Int)) = true := by simp; omega
    go_enter Tryd.func3, Tryd.ntmps3
    go_wp2_with fail
    refine (speaks10_c w hG).mono ?_
    rintro e w1 ⟨rfl, b1⟩
    go_wp2_with fail
    refine (speaks10_c w1 (hG.up b1)).mono ?_
    rintro e w2 ⟨rfl, b2⟩
    go_wp2
    go_ret
    exact ⟨rfl, bchain b1 b2⟩
  have d1 : decide ((40 : Int) < (n1 : Int)) = false := by simp; omega
  have hz := zeroE
  have hlz := wds_len 4 z0
  have HG := hid hG
  go_enter Tryd.func3, Tryd.ntmps3
  go_wp2_with fail
  refine (speaks10_c w hG).mono ?_
  rintro e w1 ⟨rfl, b1⟩
  go_wp2_with fail
  refine (fromWideZ_c A0 n0 c0 l0 w1 (r0.up b1 (Nat.le_refl _)) (by omega) (hG.up b1)).mono ?_
  rintro e w2 ⟨vx, rfl, hx, b2⟩
  have b12 := bchain b1 b2
  go_wp2_with fail
  refine (fromWideZ_c A1 n1 c1 l1 w2 (r1.up b12 (Nat.le_refl _)) (by omega) (hG.up b12)).mono ?_
  rintro e w3 ⟨vy, rfl, hy, b3⟩
  have b13 := bchain b12 b3
  obtain ⟨fx, rfl⟩ := hx.fn
  obtain ⟨fy, rfl⟩ := hy.fn
  have HEX := hid hx
  have HEY := hid hy
  generalize ((val 256 l0 : Nat) : Int) = X at *
  generalize ((val 256 l1 : Nat) : Int) = Y at *
  obtain ⟨q, hq⟩ : ∃ q : Bool, q = decide (X % pZ = Y % pZ) := ⟨_, rfl⟩
  have HQ := hid hq
  have hlx := wds_len 4 fx
  have hly := wds_len 4 fy
  have e1 : (w3.alloc (oF 27 4 z0)).heap.size = w3.heap.size + 1 := by simp
  have h0 := (oF_new w3 27 4 z0).alloc (oF 27 4 z0)
  have h1 := oF_new (w3.alloc (oF 27 4 z0)) 27 4 z0
  rw [e1] at h1
  have hb := ((Below.refl w3.heap.size w3).alloc (Nat.le_refl _) (oF 27 4 z0)).alloc (by omega) (oF 27 4 z0)
  clear e1
  have y0 := h0.lay0 fx
  have T0 := hid (h0.thereW 0 4 fx (by decide))
  have hs0 := h0.size
  have hs1 := h1.size
  have ye : BlkV _ (w3.heap.size + 1) 27 (wds 4 z0) := BlkV.put (show w3.heap.size + 1 ≠ w3.heap.size by omega) (wds 4 fx) 0 _ h1
  have T1 := hid (ye.thereW 0 4 fy (by decide))
  have XX := hid (BlkV.put (show w3.heap.size ≠ w3.heap.size + 1 by omega) (wds 4 fy) 0 _ y0)
  have YY := hid (ye.lay0 fy)
  have BB := hid (b13.trans ((below_cells (show w3.heap.size ≤ w3.heap.size + 1 by omega) (wds 4 fy) 0 _ (below_cells (Nat.le_refl _) (wds 4 fx) 0 _ hb)).mono b13.size))
  clear hx hy hq hs0 hs1 y0 ye h0 h1 hb b1 b2 b3 b12 b13 hG r0 r1
  unfold oF at T0 T1 XX YY BB
  go_wp2_with (first
    | with_reducible refine wpList_store_mid rfl 27 (.tmp 5) (.tmp 21) rfl (w3.heap.size) (0) (wds 4 fx).toArray rfl rfl (by with_reducible exact T0.out) (sizeEA _) (wds_all _ _) ?_
    | with_reducible refine wpList_store_mid rfl 27 (.tmp 6) (.tmp 23) rfl (w3.heap.size + 1) (0) (wds 4 fy).toArray rfl rfl (by with_reducible exact T1.out) (sizeEA _) (wds_all _ _) ?_
    | fail)
  obtain ⟨w4, hw4⟩ : ∃ x, x = ((((w3.alloc (.cells (wds 4 z0).toArray 27)).alloc (.cells (wds 4 z0).toArray 27)).setCells w3.heap.size 0 (wds 4 fx)).setCells (w3.heap.size + 1) 0 (wds 4 fy)) := ⟨_, rfl⟩
  rw [← hw4] at XX YY BB ⊢
  obtain ⟨p5, hp5⟩ : ∃ x, x = w3.heap.size := ⟨_, rfl⟩
  rw [← hp5] at XX YY ⊢
  obtain ⟨p6, hp6⟩ : ∃ x, x = p5 + 1 := ⟨_, rfl⟩
  rw [← hp6] at YY ⊢
  clear hw4 hp5 hp6 T0 T1
  have x0 := XX.out.up (Below.refl _ _).drew
  have y0 := YY.out.up (Below.refl _ _).drew
  have b0 := bchain BB.out (Below.refl _ _).drew
  generalize hvd : w4.drew = wd0 at *
  refine wp_region_held_drew (S := fun v => BlkV v p5 27 (wds 4 fx) ∧ BlkV v p6 27 (wds 4 fy)) (by kernel_rfl) (by rw [hvd]; exact ⟨x0, y0⟩) (fun hHeld => ?_)
  rw [hvd] at hHeld ⊢
  refine wpAnyH_take (i := 0) (v := .agg (wds 4 fx).toArray) rfl (by kernel_rfl) (by kernel_rfl) (by kernel_rfl) (fun _ _ _ h => h) (yieldsIf_load_mid (by rfl) 27 (.tmp 5) rfl (p5) (0) rfl (wds 4 fx) _ (fun v hv => hv.1.range) Tryd.underlying27 rfl (sizeE _)) (by with_reducible assumption) ?_
  simp only [Act.put, List.setIfInBounds_toArray, List.set_cons_zero, List.set_cons_succ, List.getElem_toArray, List.getElem_cons_zero, List.getElem_cons_succ]
  refine wpAnyH_take (i := 2) (v := .agg (wds 4 fx).toArray) rfl (by kernel_rfl) (by kernel_rfl) (by kernel_rfl) (fun _ _ _ h => h) (yieldsIf_load_mid (by rfl) 27 (.tmp 5) rfl (p5) (0) rfl (wds 4 fx) _ (fun v hv => hv.1.range) Tryd.underlying27 rfl (sizeE _)) (by with_reducible assumption) ?_
  simp only [Act.put, List.setIfInBounds_toArray, List.set_cons_zero, List.set_cons_succ, List.getElem_toArray, List.getElem_cons_zero, List.getElem_cons_succ]
  refine wpAnyH_ready (rs := [1, 3]) (by kernel_rfl) (by simp) ?_
  refine (AllReadyH.cons rfl (fun K hK => ?_) (AllReadyH.cons rfl (fun K hK => ?_) AllReadyH.nil))
  · go_simp
    go_at_call 7
    with_reducible refine (power_c _ _ wd0 HEX.out (HG.out.up (b0))).mono ?_
    rintro e wr1 ⟨_, rfl, k1, hbr1⟩
    have x_r1 := (x0).up hbr1
    have y_r1 := (y0).up hbr1
    have b_r1 := bchain b0 hbr1
    try dsimp only
    refine hK.out _ _ (⟨x_r1, y_r1⟩) (fun hHeld => ?_)
    clear hK K
    try simp only [Act.put, List.setIfInBounds_toArray, List.set_cons_zero, List.set_cons_succ, List.getElem_toArray, List.getElem_cons_zero, List.getElem_cons_succ]
    refine wpAnyH_ready (rs := [3]) (by kernel_rfl) (by simp) ?_
    refine (AllReadyH.cons rfl (fun K hK => ?_) AllReadyH.nil)
    have hbr2 := (Below.refl (wr1).heap.size (wr1)).alloc (Nat.le_refl _) (.cells #[.int .u64 5] 24)
    have x_r2 := (x_r1).up hbr2
    have y_r2 := (y_r1).up hbr2
    have b_r2 := bchain b_r1 hbr2
    have s_r2 := five_new (wr1)
    go_simp
    refine hK.out _ _ (⟨x_r2, y_r2⟩) (fun hHeld => ?_)
    clear hK K hbr2
    try simp only [Act.put, List.setIfInBounds_toArray, List.set_cons_zero, List.set_cons_succ, List.getElem_toArray, List.getElem_cons_zero, List.getElem_cons_succ]
    generalize (wr1).alloc (.cells #[.int .u64 5] 24) = wr2 at *
    generalize (wr1).heap.size = pr2 at *
    refine wpAnyH_ready (rs := [4]) (by kernel_rfl) (by simp) ?_
    refine (AllReadyH.cons rfl (fun K hK => ?_) AllReadyH.nil)
    go_simp
    go_at_call 9
    with_reducible refine (exp5_c _ _ _ _ wr2 HEX.out (five_rd s_r2) (HG.out.up (b_r2))).mono ?_
    rintro e wr3 ⟨_, rfl, k2, hbr3⟩
    have x_r3 := (x_r2).up hbr3
    have y_r3 := (y_r2).up hbr3
    have b_r3 := bchain b_r2 hbr3
    have s_r3 := (s_r2).upS hbr3
    try dsimp only
    refine hK.out _ _ (⟨x_r3, y_r3⟩) (fun hHeld => ?_)
    clear hK K
    try simp only [Act.put, List.setIfInBounds_toArray, List.set_cons_zero, List.set_cons_succ, List.getElem_toArray, List.getElem_cons_zero, List.getElem_cons_succ]
    refine wpAnyH_ready (rs := [5]) (by kernel_rfl) (by simp) ?_
    refine (AllReadyH.cons rfl (fun K hK => ?_) AllReadyH.nil)
    go_simp
    go_at_call 8
    with_reducible refine (equal_t _ _ _ _ wr3 k1 k2 rfl).mono ?_
    rintro e wr4 ⟨rfl, hbr4⟩
    have x_r4 := (x_r3).up hbr4
    have y_r4 := (y_r3).up hbr4
    have b_r4 := bchain b_r3 hbr4
    have s_r4 := (s_r3).upS hbr4
    try dsimp only
    refine hK.out _ _ (⟨x_r4, y_r4⟩) (fun hHeld => ?_)
    clear hK K
    try simp only [Act.put, List.setIfInBounds_toArray, List.set_cons_zero, List.set_cons_succ, List.getElem_toArray, List.getElem_cons_zero, List.getElem_cons_succ]
    refine wpAnyH_take (i := 6) (v := ?_) rfl (by kernel_rfl) (by kernel_rfl) (by kernel_rfl) (fun _ _ _ h => h) (Or.inl ⟨by rfl, fun v hv => ?_⟩) (by with_reducible assumption) ?_
    rotate_left
    · go_simp
      try with_reducible rfl
    simp only [Act.put, List.setIfInBounds_toArray, List.set_cons_zero, List.set_cons_succ, List.getElem_toArray, List.getElem_cons_zero, List.getElem_cons_succ]
    refine wpAnyH_take (i := 7) (v := .agg (wds 4 fx).toArray) rfl (by kernel_rfl) (by kernel_rfl) (by kernel_rfl) (fun _ _ _ h => h) (yieldsIf_load_mid (by rfl) 27 (.tmp 5) rfl (p5) (0) rfl (wds 4 fx) _ (fun v hv => hv.1.range) Tryd.underlying27 rfl (sizeE _)) (by with_reducible assumption) ?_
    simp only [Act.put, List.setIfInBounds_toArray, List.set_cons_zero, List.set_cons_succ, List.getElem_toArray, List.getElem_cons_zero, List.getElem_cons_succ]
    refine wpAnyH_take (i := 9) (v := .agg (wds 4 fy).toArray) rfl (by kernel_rfl) (by kernel_rfl) (by kernel_rfl) (fun _ _ _ h => h) (yieldsIf_load_mid (by rfl) 27 (.tmp 6) rfl (p6) (0) rfl (wds 4 fy) _ (fun v hv => hv.2.range) Tryd.underlying27 rfl (sizeE _)) (by with_reducible assumption) ?_
    simp only [Act.put, List.setIfInBounds_toArray, List.set_cons_zero, List.set_cons_succ, List.getElem_toArray, List.getElem_cons_zero, List.getElem_cons_succ]
    refine wpAnyH_take (i := 12) (v := .agg (wds 4 fx).toArray) rfl (by kernel_rfl) (by kernel_rfl) (by kernel_rfl) (fun _ _ _ h => h) (yieldsIf_load_mid (by rfl) 27 (.tmp 5) rfl (p5) (0) rfl (wds 4 fx) _ (fun v hv => hv.1.range) Tryd.underlying27 rfl (sizeE _)) (by with_reducible assumption) ?_
    simp only [Act.put, List.setIfInBounds_toArray, List.set_cons_zero, List.set_cons_succ, List.getElem_toArray, List.getElem_cons_zero, List.getElem_cons_succ]
    refine wpAnyH_take (i := 13) (v := .agg (wds 4 fy).toArray) rfl (by kernel_rfl) (by kernel_rfl) (by kernel_rfl) (fun _ _ _ h => h) (yieldsIf_load_mid (by rfl) 27 (.tmp 6) rfl (p6) (0) rfl (wds 4 fy) _ (fun v hv => hv.2.range) Tryd.underlying27 rfl (sizeE _)) (by with_reducible assumption) ?_
    simp only [Act.put, List.setIfInBounds_toArray, List.set_cons_zero, List.set_cons_succ, List.getElem_toArray, List.getElem_cons_zero, List.getElem_cons_succ]
    refine wpAnyH_ready (rs := [8]) (by kernel_rfl) (by simp) ?_
    refine (AllReadyH.cons rfl (fun K hK => ?_) AllReadyH.nil)
    go_simp
    go_at_call 7
    with_reducible refine (power_c _ _ wr4 HEX.out (HG.out.up (b_r4))).mono ?_
    rintro e wr5 ⟨_, rfl, k3, hbr5⟩
    have x_r5 := (x_r4).up hbr5
    have y_r5 := (y_r4).up hbr5
    have b_r5 := bchain b_r4 hbr5
    have s_r5 := (s_r4).upS hbr5
    try dsimp only
    refine hK.out _ _ (⟨x_r5, y_r5⟩) (fun hHeld => ?_)
    clear hK K
    try simp only [Act.put, List.setIfInBounds_toArray, List.set_cons_zero, List.set_cons_succ, List.getElem_toArray, List.getElem_cons_zero, List.getElem_cons_succ]
    refine wpAnyH_ready (rs := [10]) (by kernel_rfl) (by simp) ?_
    refine (AllReadyH.cons rfl (fun K hK => ?_) AllReadyH.nil)
    go_simp
    go_at_call 7
    with_reducible refine (power_c _ _ wr5 HEY.out (HG.out.up (b_r5))).mono ?_
    rintro e wr6 ⟨_, rfl, k4, hbr6⟩
    have x_r6 := (x_r5).up hbr6
    have y_r6 := (y_r5).up hbr6
    have b_r6 := bchain b_r5 hbr6
    have s_r6 := (s_r5).upS hbr6
    try dsimp only
    refine hK.out _ _ (⟨x_r6, y_r6⟩) (fun hHeld => ?_)
    clear hK K
    try simp only [Act.put, List.setIfInBounds_toArray, List.set_cons_zero, List.set_cons_succ, List.getElem_toArray, List.getElem_cons_zero, List.getElem_cons_succ]
    refine wpAnyH_ready (rs := [11]) (by kernel_rfl) (by simp) ?_
    refine (AllReadyH.cons rfl (fun K hK => ?_) AllReadyH.nil)
    go_simp
    go_at_call 8
    with_reducible refine (equalP_c _ _ _ _ q wr6 k3 k4 HQ).mono ?_
    rintro e wr7 ⟨rfl, hbr7⟩
    have x_r7 := (x_r6).up hbr7
    have y_r7 := (y_r6).up hbr7
    have b_r7 := bchain b_r6 hbr7
    have s_r7 := (s_r6).upS hbr7
    try dsimp only
    refine hK.out _ _ (⟨x_r7, y_r7⟩) (fun hHeld => ?_)
    clear hK K
    try simp only [Act.put, List.setIfInBounds_toArray, List.set_cons_zero, List.set_cons_succ, List.getElem_toArray, List.getElem_cons_zero, List.getElem_cons_succ]
    refine wpAnyH_ready (rs := [14]) (by kernel_rfl) (by simp) ?_
    refine (AllReadyH.cons rfl (fun K hK => ?_) AllReadyH.nil)
    go_simp
    go_at_call 8
    with_reducible refine (equalQ_c _ _ _ _ q wr7 HEX.out HEY.out HQ).mono ?_
    rintro e wr8 ⟨rfl, hbr8⟩
    have x_r8 := (x_r7).up hbr8
    have y_r8 := (y_r7).up hbr8
    have b_r8 := bchain b_r7 hbr8
    have s_r8 := (s_r7).upS hbr8
    try dsimp only
    refine hK.out _ _ (⟨x_r8, y_r8⟩) (fun hHeld => ?_)
    clear hK K
    try simp only [Act.put, List.setIfInBounds_toArray, List.set_cons_zero, List.set_cons_succ, List.getElem_toArray, List.getElem_cons_zero, List.getElem_cons_succ]
    refine wpAnyH_take (i := 15) (v := ?_) rfl (by kernel_rfl) (by kernel_rfl) (by kernel_rfl) (fun _ _ _ h => h) (Or.inl ⟨by rfl, fun v hv => ?_⟩) (by with_reducible assumption) ?_
    rotate_left
    · go_simp
      try with_reducible rfl
    simp only [Act.put, List.setIfInBounds_toArray, List.set_cons_zero, List.set_cons_succ, List.getElem_toArray, List.getElem_cons_zero, List.getElem_cons_succ]
    refine wpAnyH_take (i := 16) (v := ?_) rfl (by kernel_rfl) (by kernel_rfl) (by kernel_rfl) (fun _ _ _ h => h) (Or.inl ⟨by rfl, fun v hv => ?_⟩) (by with_reducible assumption) ?_
    rotate_left
    · go_simp
      try with_reducible rfl
    simp only [Act.put, List.setIfInBounds_toArray, List.set_cons_zero, List.set_cons_succ, List.getElem_toArray, List.getElem_cons_zero, List.getElem_cons_succ]
    refine wpAnyH_take (i := 17) (v := ?_) rfl (by kernel_rfl) (by kernel_rfl) (by kernel_rfl) (fun _ _ _ h => h) (Or.inl ⟨by rfl, fun v hv => ?_⟩) (by with_reducible assumption) ?_
    rotate_left
    · go_simp
      try with_reducible rfl
    simp only [Act.put, List.setIfInBounds_toArray, List.set_cons_zero, List.set_cons_succ, List.getElem_toArray, List.getElem_cons_zero, List.getElem_cons_succ]
    refine wpAnyH_done (by kernel_rfl) ?_ _
    go_wp2_with fail
    go_ret
    exact ⟨by simp, b_r8⟩
  · have hbr9 := (Below.refl (wd0).heap.size (wd0)).alloc (Nat.le_refl _) (.cells #[.int .u64 5] 24)
    have x_r9 := (x0).up hbr9
    have y_r9 := (y0).up hbr9
    have b_r9 := bchain b0 hbr9
    have s_r9 := five_new (wd0)
    go_simp
    refine hK.out _ _ (⟨x_r9, y_r9⟩) (fun hHeld => ?_)
    clear hK K hbr9
    try simp only [Act.put, List.setIfInBounds_toArray, List.set_cons_zero, List.set_cons_succ, List.getElem_toArray, List.getElem_cons_zero, List.getElem_cons_succ]
    generalize (wd0).alloc (.cells #[.int .u64 5] 24) = wr9 at *
    generalize (wd0).heap.size = pr9 at *
    refine wpAnyH_ready (rs := [1]) (by kernel_rfl) (by simp) ?_
    refine (AllReadyH.cons rfl (fun K hK => ?_) AllReadyH.nil)
    go_simp
    go_at_call 7
    with_reducible refine (power_c _ _ wr9 HEX.out (HG.out.up (b_r9))).mono ?_
    rintro e wr10 ⟨_, rfl, k1, hbr10⟩
    have x_r10 := (x_r9).up hbr10
    have y_r10 := (y_r9).up hbr10
    have b_r10 := bchain b_r9 hbr10
    have s_r10 := (s_r9).upS hbr10
    try dsimp only
    refine hK.out _ _ (⟨x_r10, y_r10⟩) (fun hHeld => ?_)
    clear hK K
    try simp only [Act.put, List.setIfInBounds_toArray, List.set_cons_zero, List.set_cons_succ, List.getElem_toArray, List.getElem_cons_zero, List.getElem_cons_succ]
    refine wpAnyH_ready (rs := [4]) (by kernel_rfl) (by simp) ?_
    refine (AllReadyH.cons rfl (fun K hK => ?_) AllReadyH.nil)
    go_simp
    go_at_call 9
    with_reducible refine (exp5_c _ _ _ _ wr10 HEX.out (five_rd s_r10) (HG.out.up (b_r10))).mono ?_
    rintro e wr11 ⟨_, rfl, k2, hbr11⟩
    have x_r11 := (x_r10).up hbr11
    have y_r11 := (y_r10).up hbr11
    have b_r11 := bchain b_r10 hbr11
    have s_r11 := (s_r10).upS hbr11
    try dsimp only
    refine hK.out _ _ (⟨x_r11, y_r11⟩) (fun hHeld => ?_)
    clear hK K
    try simp only [Act.put, List.setIfInBounds_toArray, List.set_cons_zero, List.set_cons_succ, List.getElem_toArray, List.getElem_cons_zero, List.getElem_cons_succ]
    refine wpAnyH_ready (rs := [5]) (by kernel_rfl) (by simp) ?_
    refine (AllReadyH.cons rfl (fun K hK => ?_) AllReadyH.nil)
    go_simp
    go_at_call 8
    with_reducible refine (equal_t _ _ _ _ wr11 k1 k2 rfl).mono ?_
    rintro e wr12 ⟨rfl, hbr12⟩
    have x_r12 := (x_r11).up hbr12
    have y_r12 := (y_r11).up hbr12
    have b_r12 := bchain b_r11 hbr12
    have s_r12 := (s_r11).upS hbr12
    try dsimp only
    refine hK.out _ _ (⟨x_r12, y_r12⟩) (fun hHeld => ?_)
    clear hK K
    try simp only [Act.put, List.setIfInBounds_toArray, List.set_cons_zero, List.set_cons_succ, List.getElem_toArray, List.getElem_cons_zero, List.getElem_cons_succ]
    refine wpAnyH_take (i := 6) (v := ?_) rfl (by kernel_rfl) (by kernel_rfl) (by kernel_rfl) (fun _ _ _ h => h) (Or.inl ⟨by rfl, fun v hv => ?_⟩) (by with_reducible assumption) ?_
    rotate_left
    · go_simp
      try with_reducible rfl
    simp only [Act.put, List.setIfInBounds_toArray, List.set_cons_zero, List.set_cons_succ, List.getElem_toArray, List.getElem_cons_zero, List.getElem_cons_succ]
    refine wpAnyH_take (i := 7) (v := .agg (wds 4 fx).toArray) rfl (by kernel_rfl) (by kernel_rfl) (by kernel_rfl) (fun _ _ _ h => h) (yieldsIf_load_mid (by rfl) 27 (.tmp 5) rfl (p5) (0) rfl (wds 4 fx) _ (fun v hv => hv.1.range) Tryd.underlying27 rfl (sizeE _)) (by with_reducible assumption) ?_
    simp only [Act.put, List.setIfInBounds_toArray, List.set_cons_zero, List.set_cons_succ, List.getElem_toArray, List.getElem_cons_zero, List.getElem_cons_succ]
    refine wpAnyH_take (i := 9) (v := .agg (wds 4 fy).toArray) rfl (by kernel_rfl) (by kernel_rfl) (by kernel_rfl) (fun _ _ _ h => h) (yieldsIf_load_mid (by rfl) 27 (.tmp 6) rfl (p6) (0) rfl (wds 4 fy) _ (fun v hv => hv.2.range) Tryd.underlying27 rfl (sizeE _)) (by with_reducible assumption) ?_
    simp only [Act.put, List.setIfInBounds_toArray, List.set_cons_zero, List.set_cons_succ, List.getElem_toArray, List.getElem_cons_zero, List.getElem_cons_succ]
    refine wpAnyH_take (i := 12) (v := .agg (wds 4 fx).toArray) rfl (by kernel_rfl) (by kernel_rfl) (by kernel_rfl) (fun _ _ _ h => h) (yieldsIf_load_mid (by rfl) 27 (.tmp 5) rfl (p5) (0) rfl (wds 4 fx) _ (fun v hv => hv.1.range) Tryd.underlying27 rfl (sizeE _)) (by with_reducible assumption) ?_
    simp only [Act.put, List.setIfInBounds_toArray, List.set_cons_zero, List.set_cons_succ, List.getElem_toArray, List.getElem_cons_zero, List.getElem_cons_succ]
    refine wpAnyH_take (i := 13) (v := .agg (wds 4 fy).toArray) rfl (by kernel_rfl) (by kernel_rfl) (by kernel_rfl) (fun _ _ _ h => h) (yieldsIf_load_mid (by rfl) 27 (.tmp 6) rfl (p6) (0) rfl (wds 4 fy) _ (fun v hv => hv.2.range) Tryd.underlying27 rfl (sizeE _)) (by with_reducible assumption) ?_
    simp only [Act.put, List.setIfInBounds_toArray, List.set_cons_zero, List.set_cons_succ, List.getElem_toArray, List.getElem_cons_zero, List.getElem_cons_succ]
    refine wpAnyH_ready (rs := [8]) (by kernel_rfl) (by simp) ?_
    refine (AllReadyH.cons rfl (fun K hK => ?_) AllReadyH.nil)
    go_simp
    go_at_call 7
    with_reducible refine (power_c _ _ wr12 HEX.out (HG.out.up (b_r12))).mono ?_
    rintro e wr13 ⟨_, rfl, k3, hbr13⟩
    have x_r13 := (x_r12).up hbr13
    have y_r13 := (y_r12).up hbr13
    have b_r13 := bchain b_r12 hbr13
    have s_r13 := (s_r12).upS hbr13
    try dsimp only
    refine hK.out _ _ (⟨x_r13, y_r13⟩) (fun hHeld => ?_)
    clear hK K
    try simp only [Act.put, List.setIfInBounds_toArray, List.set_cons_zero, List.set_cons_succ, List.getElem_toArray, List.getElem_cons_zero, List.getElem_cons_succ]
    refine wpAnyH_ready (rs := [10]) (by kernel_rfl) (by simp) ?_
    refine (AllReadyH.cons rfl (fun K hK => ?_) AllReadyH.nil)
    go_simp
    go_at_call 7
    with_reducible refine (power_c _ _ wr13 HEY.out (HG.out.up (b_r13))).mono ?_
    rintro e wr14 ⟨_, rfl, k4, hbr14⟩
    have x_r14 := (x_r13).up hbr14
    have y_r14 := (y_r13).up hbr14
    have b_r14 := bchain b_r13 hbr14
    have s_r14 := (s_r13).upS hbr14
    try dsimp only
    refine hK.out _ _ (⟨x_r14, y_r14⟩) (fun hHeld => ?_)
    clear hK K
    try simp only [Act.put, List.setIfInBounds_toArray, List.set_cons_zero, List.set_cons_succ, List.getElem_toArray, List.getElem_cons_zero, List.getElem_cons_succ]
    refine wpAnyH_ready (rs := [11]) (by kernel_rfl) (by simp) ?_
    refine (AllReadyH.cons rfl (fun K hK => ?_) AllReadyH.nil)
    go_simp
    go_at_call 8
    with_reducible refine (equalP_c _ _ _ _ q wr14 k3 k4 HQ).mono ?_
    rintro e wr15 ⟨rfl, hbr15⟩
    have x_r15 := (x_r14).up hbr15
    have y_r15 := (y_r14).up hbr15
    have b_r15 := bchain b_r14 hbr15
    have s_r15 := (s_r14).upS hbr15
    try dsimp only
    refine hK.out _ _ (⟨x_r15, y_r15⟩) (fun hHeld => ?_)
    clear hK K
    try simp only [Act.put, List.setIfInBounds_toArray, List.set_cons_zero, List.set_cons_succ, List.getElem_toArray, List.getElem_cons_zero, List.getElem_cons_succ]
    refine wpAnyH_ready (rs := [14]) (by kernel_rfl) (by simp) ?_
    refine (AllReadyH.cons rfl (fun K hK => ?_) AllReadyH.nil)
    go_simp
    go_at_call 8
    with_reducible refine (equalQ_c _ _ _ _ q wr15 HEX.out HEY.out HQ).mono ?_
    rintro e wr16 ⟨rfl, hbr16⟩
    have x_r16 := (x_r15).up hbr16
    have y_r16 := (y_r15).up hbr16
    have b_r16 := bchain b_r15 hbr16
    have s_r16 := (s_r15).upS hbr16
    try dsimp only
    refine hK.out _ _ (⟨x_r16, y_r16⟩) (fun hHeld => ?_)
    clear hK K
    try simp only [Act.put, List.setIfInBounds_toArray, List.set_cons_zero, List.set_cons_succ, List.getElem_toArray, List.getElem_cons_zero, List.getElem_cons_succ]
    refine wpAnyH_take (i := 15) (v := ?_) rfl (by kernel_rfl) (by kernel_rfl) (by kernel_rfl) (fun _ _ _ h => h) (Or.inl ⟨by rfl, fun v hv => ?_⟩) (by with_reducible assumption) ?_
    rotate_left
    · go_simp
      try with_reducible rfl
    simp only [Act.put, List.setIfInBounds_toArray, List.set_cons_zero, List.set_cons_succ, List.getElem_toArray, List.getElem_cons_zero, List.getElem_cons_succ]
    refine wpAnyH_take (i := 16) (v := ?_) rfl (by kernel_rfl) (by kernel_rfl) (by kernel_rfl) (fun _ _ _ h => h) (Or.inl ⟨by rfl, fun v hv => ?_⟩) (by with_reducible assumption) ?_
    rotate_left
    · go_simp
      try with_reducible rfl
    simp only [Act.put, List.setIfInBounds_toArray, List.set_cons_zero, List.set_cons_succ, List.getElem_toArray, List.getElem_cons_zero, List.getElem_cons_succ]
    refine wpAnyH_take (i := 17) (v := ?_) rfl (by kernel_rfl) (by kernel_rfl) (by kernel_rfl) (fun _ _ _ h => h) (Or.inl ⟨by rfl, fun v hv => ?_⟩) (by with_reducible assumption) ?_
    rotate_left
    · go_simp
      try with_reducible rfl
    simp only [Act.put, List.setIfInBounds_toArray, List.set_cons_zero, List.set_cons_succ, List.getElem_toArray, List.getElem_cons_zero, List.getElem_cons_succ]
    refine wpAnyH_done (by kernel_rfl) ?_ _
    go_wp2_with fail
    go_ret
    exact ⟨by simp, b_r16⟩
end Go.Proofs.YtdepkfdceidikaaDoor
