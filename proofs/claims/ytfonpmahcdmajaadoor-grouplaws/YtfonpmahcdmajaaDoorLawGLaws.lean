/-
  avouchlaw05.GroupLaws: the walk.
-/
import Derived.Test.YtfonpmahcdmajaaDoorGrpU
namespace Go.Proofs.YtfonpmahcdmajaaDoor
open Go.RowKit
set_option linter.unusedVariables false
set_option linter.unusedSimpArgs false

theorem boxes2T (w : World) (X Y : Nat) :
    BlkW ((w.alloc (o12 24 X)).alloc (o12 24 Y)) w.heap.size 24 (ds X) ∧
    BlkW ((w.alloc (o12 24 X)).alloc (o12 24 Y)) (w.heap.size + 1) 24 (ds Y) ∧
    Below w.heap.size w ((w.alloc (o12 24 X)).alloc (o12 24 Y)) := by
  have e1 : (w.alloc (o12 24 X)).heap.size = w.heap.size + 1 := by simp
  have h2 := o12_new (w.alloc (o12 24 X)) 24 Y
  rw [e1] at h2
  exact ⟨(o12_new w 24 X).alloc _, h2, ((Below.refl _ _).alloc (Nat.le_refl _) _).alloc (by omega) _⟩

theorem setCells_blkW {b : Nat} {t : TypeId} : ∀ (l old done : List Nat) {w : World}, w.heap[b]? = some (.cells (cellsOf64 (done ++ old)).toArray t (0, 0)) → l.length = old.length →
    (w.setCells b done.length (cellsOf64 l)).heap[b]? = some (.cells (cellsOf64 (done ++ l)).toArray t (0, 0))
  | [], [], done, w, h, _ => h
  | [], _ :: _, _, _, _, hl => by simp at hl
  | _ :: _, [], _, _, _, hl => by simp at hl
  | x :: l, y :: old, done, w, h, hl => by
    have h' : (w.setCell ⟨b, done.length, none⟩ (.int .u64 (x : Int))).heap[b]? = some (.cells (cellsOf64 ((done ++ [x]) ++ old)).toArray t (0, 0)) := by
      simp [World.setCell, Array.getElem?_modify, h, cellsOf64]
    have ih := setCells_blkW l old (done ++ [x]) h' (by simpa using hl)
    rw [List.length_append, List.length_singleton, List.append_assoc] at ih
    exact ih
theorem zero_over {b : Nat} {t : TypeId} {w : World} {Y : Nat} (h : BlkW w b t (List.replicate 12 0)) : BlkW (w.setCells b 0 (cellsOf64 (ds Y))) b t (ds Y) := by
  have h2 := setCells_blkW (w := w) (b := b) (t := t) (ds Y) (List.replicate 12 0) [] h.heap (by rw [ds_len, List.length_replicate])
  simp only [List.nil_append, List.length_nil] at h2
  exact ⟨h2, ds_lt Y⟩

theorem four_q : 4 ^ bigQ % bigP = 1 := by
  rw [show (4 : Nat) = 2 ^ 2 by decide, ← Nat.pow_mul, Nat.mul_comm, Nat.pow_mul, Nat.pow_mod, two_q, Nat.one_pow]
  decide
theorem four_mod (n : Nat) : 4 ^ (n % bigQ) % bigP = 4 ^ n % bigP := by
  have e : 4 ^ n = 4 ^ (bigQ * (n / bigQ) + n % bigQ) := by rw [Nat.div_add_mod]
  rw [e, Nat.pow_add, Nat.mul_mod, Nat.pow_mul, Nat.pow_mod (4 ^ bigQ), four_q, Nat.one_pow, Nat.mod_eq_of_lt (show 1 < bigP by decide), Nat.one_mul, Nat.mod_mod]
theorem law_add (S T : Nat) : 4 ^ ((S + T) % bigQ) % bigP = 4 ^ S % bigP * (4 ^ T % bigP) % bigP := by
  rw [four_mod, Nat.pow_add, Nat.mul_mod]
theorem law_swap (S T : Nat) : (4 ^ T % bigP) ^ S % bigP = (4 ^ S % bigP) ^ T % bigP := by
  rw [← Nat.pow_mod, ← Nat.pow_mod, ← Nat.pow_mul, ← Nat.pow_mul, Nat.mul_comm]
theorem law_mul (S T : Nat) : 4 ^ (S * T % bigQ) % bigP = (4 ^ S % bigP) ^ T % bigP := by
  rw [four_mod, ← Nat.pow_mod, ← Nat.pow_mul]
theorem law_sub (S T : Nat) (hS : S < bigQ) (hT : T < bigQ) : 4 ^ ((S % bigQ + bigQ - T % bigQ) % bigQ) % bigP * (4 ^ T % bigP) % bigP = 4 ^ S % bigP := by
  rw [Nat.mod_eq_of_lt hS, Nat.mod_eq_of_lt hT, four_mod, ← Nat.mul_mod, ← Nat.pow_add, show S + bigQ - T + T = S + bigQ by omega, Nat.pow_add, Nat.mul_mod, four_q, Nat.mul_one, Nat.mod_mod]
theorem four_pow_q (S : Nat) : (4 ^ S % bigP) ^ bigQ % bigP = 1 := by
  rw [← Nat.pow_mod, ← Nat.pow_mul, Nat.mul_comm, Nat.pow_mul, Nat.pow_mod, four_q, Nat.one_pow]
  decide

set_option maxRecDepth 100000 in
set_option maxHeartbeats 8000000 in
theorem groupLaws_w (X Y : Nat) (w : World) (hX : X < W12) (hY : Y < W12) (hG : GlobW w) :
    Calls Tryd.prog 7 #[num X, num Y] w fun e w' => e = .returned (.bool true) ∧ Below w.heap.size w w' := by
  have hlX := dsc_len X
  have hlY := dsc_len Y
  obtain ⟨a1, a2, a3⟩ := boxes2T w X Y
  have A := hid (And.intro a1 (And.intro a2 a3))
  have HX := hid hX
  have HY := hid hY
  have hG0 := hG.up a3
  clear hX hY hG a1 a2 a3
  unfold num
  go_enter Tryd.func7, Tryd.ntmps7
  go_wp2_with fail
  change Calls _ _ _ ((w.alloc (o12 24 X)).alloc (o12 24 Y)) _
  generalize (w.alloc (o12 24 X)).alloc (o12 24 Y) = w0 at *
  clear hlX hlY
  refine (speaks5_c w0 hG0).mono ?_
  rintro e w1 ⟨rfl, b1⟩
  obtain ⟨a1, a2, a3⟩ := A.out
  have HA := hid (And.intro (blk_up a1 b1) (And.intro (blk_up a2 b1) (And.intro (bchain a3 b1) (hG0.up b1))))
  clear a1 a2 a3 A b1 hG0
  go_wp2_with fail
  -- REGION3
  obtain ⟨S, hS⟩ : ∃ S, S = X % bigQ := ⟨_, rfl⟩
  obtain ⟨T, hT⟩ : ∃ T, T = Y % bigQ := ⟨_, rfl⟩
  have HS := hid hS
  have HT := hid hT
  clear hS hT
  have hS0 : Below w1.heap.size w1 w1.drew := (Below.refl _ _).drew
  generalize w.heap.size + 1 = bb at *
  generalize hba : w.heap.size = ba at *
  go_cut [5, 6] (fun s t wx => ∃ p q, s = .pointer (some ⟨p, 0, none⟩) ∧ t = .pointer (some ⟨q, 0, none⟩) ∧ BlkW wx p 44 (ds S) ∧ BlkW wx q 44 (ds T) ∧ Below w1.heap.size w1 wx)
  case first =>
    obtain ⟨n12, hn12⟩ : ∃ n : Nat, n = 12 := ⟨_, rfl⟩
    have L1 : ∀ v, Below w1.heap.size w1 v → (loadCellsFrom ⟨ba, 0, none⟩ 0 n12 #[]).run Tryd.prog v = .ok (cellsOf64 (ds X)).toArray v := fun v h => by rw [hn12]; exact cells_numT (blk_up HA.out.1 h)
    have L2 : ∀ v, Below w1.heap.size w1 v → (loadCellsFrom ⟨bb, 0, none⟩ 0 n12 #[]).run Tryd.prog v = .ok (cellsOf64 (ds Y)).toArray v := fun v h => by rw [hn12]; exact cells_numT (blk_up HA.out.2.1 h)
    have C1 : ∀ v, Below w1.heap.size w1 v → Calls Tryd.prog 31 #[.agg (cellsOf64 (ds X)).toArray] v fun e w' => e = .returned (.agg (cellsOf64 (ds S)).toArray) ∧ Below v.heap.size v w' := fun v h => by
      have := ofNumber_c X v HX (HA.out.2.2.2.up h)
      rw [← HS.out] at this
      exact this
    have C2 : ∀ v, Below w1.heap.size w1 v → Calls Tryd.prog 31 #[.agg (cellsOf64 (ds Y)).toArray] v fun e w' => e = .returned (.agg (cellsOf64 (ds T)).toArray) ∧ Below v.heap.size v w' := fun v h => by
      have := ofNumber_c Y v HY (HA.out.2.2.2.up h)
      rw [← HT.out] at this
      exact this
    have ST1 : ∀ v b, BlkW v b 44 (List.replicate 12 0) → (storeCells ⟨b, 0, none⟩ (cellsOf64 (ds S))).run Tryd.prog v = .ok () (v.setCells b 0 (cellsOf64 (ds S))) := fun v b h => (num_storedT h).1
    have ST2 : ∀ v b, BlkW v b 44 (List.replicate 12 0) → (storeCells ⟨b, 0, none⟩ (cellsOf64 (ds T))).run Tryd.prog v = .ok () (v.setCells b 0 (cellsOf64 (ds T))) := fun v b h => (num_storedT h).1
    have hl1 : (cellsOf64 (ds S)).length = n12 := by rw [hn12]; exact dsc_len S
    have hl2 : (cellsOf64 (ds T)).length = n12 := by rw [hn12]; exact dsc_len T
    have G1 := agg_num
    have G2 : ∀ v, (sizeOf 24).run Tryd.prog v = .ok n12 v := by rw [hn12]; exact size_num
    have G3 := agg_sc
    have G4 : ∀ v, (sizeOf 44).run Tryd.prog v = .ok n12 v := by rw [hn12]; exact size_sc
    have G5 : ∀ v, (zeroValue 44).run Tryd.prog v = .ok (.agg #[.int .u64 0, .int .u64 0, .int .u64 0, .int .u64 0, .int .u64 0, .int .u64 0, .int .u64 0, .int .u64 0, .int .u64 0, .int .u64 0, .int .u64 0, .int .u64 0]) v := fun v => by kernel_rfl
    have HM : Tryd.prog.follows .mixedOrders = true := by kernel_rfl
    have N1 := Tryd.call31
    clear hn12 HA HX HY HS HT hba
    generalize Tryd.prog = P at C1 C2 ST1 ST2 L1 L2 G1 G2 G3 G4 G5 HM N1 ⊢
    refine wp_region_held_drew (S := fun w' => Below w1.heap.size w1 w') HM hS0 (fun hHeld => ?_)
    generalize w1.drew = v0 at *
    refine wpAnyH_take (i := 0) (v := ?_) rfl (by kernel_rfl) (by kernel_rfl) (by kernel_rfl) (fun _ _ _ h => h) (Or.inl ⟨by rfl, fun v hv => ?_⟩) (by with_reducible assumption) ?_
    rotate_left
    · go_simp
      try with_reducible rfl
    simp only [Act.put, List.setIfInBounds_toArray, List.set_cons_zero, List.set_cons_succ, List.getElem_toArray, List.getElem_cons_zero, List.getElem_cons_succ]
    refine wpAnyH_take (i := 2) (v := ?_) rfl (by kernel_rfl) (by kernel_rfl) (by kernel_rfl) (fun _ _ _ h => h) (Or.inl ⟨by rfl, fun v hv => ?_⟩) (by with_reducible assumption) ?_
    rotate_left
    · go_simp
      try with_reducible rfl
    simp only [Act.put, List.setIfInBounds_toArray, List.set_cons_zero, List.set_cons_succ, List.getElem_toArray, List.getElem_cons_zero, List.getElem_cons_succ]
    refine wpAnyH_ready (rs := [1, 4, 5]) (by kernel_rfl) (by simp) ?_
    refine (AllReadyH.cons rfl (fun K hK => ?_) (AllReadyH.cons rfl (fun K hK => ?_) (AllReadyH.cons rfl (fun K hK => ?_) AllReadyH.nil)))
    · go_simp
      go_at_call 31
      with_reducible refine (C1 _ (by with_reducible assumption)).mono ?_
      rintro e wv1 ⟨rfl, hb1⟩
      have hS1 : Below w1.heap.size w1 wv1 := bchain (by with_reducible assumption) hb1
      dsimp only
      refine hK.out _ _ hS1 (fun hHeld => ?_)
      clear hK K
      try simp only [Act.put, List.setIfInBounds_toArray, List.set_cons_zero, List.set_cons_succ, List.getElem_toArray, List.getElem_cons_zero, List.getElem_cons_succ]
      refine wpAnyH_ready (rs := [3, 4, 5]) (by kernel_rfl) (by simp) ?_
      refine (AllReadyH.cons rfl (fun K hK => ?_) (AllReadyH.cons rfl (fun K hK => ?_) (AllReadyH.cons rfl (fun K hK => ?_) AllReadyH.nil)))
      · go_simp
        go_at_call 31
        with_reducible refine (C2 _ (by with_reducible assumption)).mono ?_
        rintro e wv2 ⟨rfl, hb2⟩
        have hS2 : Below w1.heap.size w1 wv2 := bchain (by with_reducible assumption) hb2
        dsimp only
        refine hK.out _ _ hS2 (fun hHeld => ?_)
        clear hK K
        try simp only [Act.put, List.setIfInBounds_toArray, List.set_cons_zero, List.set_cons_succ, List.getElem_toArray, List.getElem_cons_zero, List.getElem_cons_succ]
        refine wpAnyH_ready (rs := [4, 5]) (by kernel_rfl) (by simp) ?_
        refine (AllReadyH.cons rfl (fun K hK => ?_) (AllReadyH.cons rfl (fun K hK => ?_) AllReadyH.nil))
        · have hb3 := (Below.refl wv2.heap.size wv2).alloc (Nat.le_refl _) (.cells #[.int .u64 0, .int .u64 0, .int .u64 0, .int .u64 0, .int .u64 0, .int .u64 0, .int .u64 0, .int .u64 0, .int .u64 0, .int .u64 0, .int .u64 0, .int .u64 0] 44)
          have hS3 : Below w1.heap.size w1 (wv2.alloc (.cells #[.int .u64 0, .int .u64 0, .int .u64 0, .int .u64 0, .int .u64 0, .int .u64 0, .int .u64 0, .int .u64 0, .int .u64 0, .int .u64 0, .int .u64 0, .int .u64 0] 44)) := bchain hS2 hb3
          have lep3 := hS2.size
          have zp3 : BlkW (wv2.alloc (.cells #[.int .u64 0, .int .u64 0, .int .u64 0, .int .u64 0, .int .u64 0, .int .u64 0, .int .u64 0, .int .u64 0, .int .u64 0, .int .u64 0, .int .u64 0, .int .u64 0] 44)) (wv2.heap.size) 44 (List.replicate 12 0) := z12_new wv2 44
          go_simp
          refine hK.out _ _ hS3 (fun hHeld => ?_)
          clear hK K
          try simp only [Act.put, List.setIfInBounds_toArray, List.set_cons_zero, List.set_cons_succ, List.getElem_toArray, List.getElem_cons_zero, List.getElem_cons_succ]
          generalize hv3 : wv2.alloc (.cells #[.int .u64 0, .int .u64 0, .int .u64 0, .int .u64 0, .int .u64 0, .int .u64 0, .int .u64 0, .int .u64 0, .int .u64 0, .int .u64 0, .int .u64 0, .int .u64 0] 44) = wv3 at *
          generalize hbl3 : wv2.heap.size = pb3 at *
          clear hb3
          refine wpAnyH_ready (rs := [5]) (by kernel_rfl) (by simp) ?_
          refine (AllReadyH.cons rfl (fun K hK => ?_) AllReadyH.nil)
          have hb4 := (Below.refl wv3.heap.size wv3).alloc (Nat.le_refl _) (.cells #[.int .u64 0, .int .u64 0, .int .u64 0, .int .u64 0, .int .u64 0, .int .u64 0, .int .u64 0, .int .u64 0, .int .u64 0, .int .u64 0, .int .u64 0, .int .u64 0] 44)
          have hS4 : Below w1.heap.size w1 (wv3.alloc (.cells #[.int .u64 0, .int .u64 0, .int .u64 0, .int .u64 0, .int .u64 0, .int .u64 0, .int .u64 0, .int .u64 0, .int .u64 0, .int .u64 0, .int .u64 0, .int .u64 0] 44)) := bchain hS3 hb4
          have leq4 := hS3.size
          have ltp4 := (zp3).size
          have zp4 := blk_up zp3 hb4
          have zq4 : BlkW (wv3.alloc (.cells #[.int .u64 0, .int .u64 0, .int .u64 0, .int .u64 0, .int .u64 0, .int .u64 0, .int .u64 0, .int .u64 0, .int .u64 0, .int .u64 0, .int .u64 0, .int .u64 0] 44)) (wv3.heap.size) 44 (List.replicate 12 0) := z12_new wv3 44
          go_simp
          refine hK.out _ _ hS4 (fun hHeld => ?_)
          clear hK K
          try simp only [Act.put, List.setIfInBounds_toArray, List.set_cons_zero, List.set_cons_succ, List.getElem_toArray, List.getElem_cons_zero, List.getElem_cons_succ]
          generalize hv4 : wv3.alloc (.cells #[.int .u64 0, .int .u64 0, .int .u64 0, .int .u64 0, .int .u64 0, .int .u64 0, .int .u64 0, .int .u64 0, .int .u64 0, .int .u64 0, .int .u64 0, .int .u64 0] 44) = wv4 at *
          generalize hbl4 : wv3.heap.size = pb4 at *
          clear hb4
          refine wpAnyH_ready (rs := [6]) (by kernel_rfl) (by simp) ?_
          refine (AllReadyH.cons rfl (fun K hK => ?_) AllReadyH.nil)
          have hst5 := ST1 wv4 pb3 zp4
          go_simp
          have hS5 : Below w1.heap.size w1 (wv4.setCells pb3 0 (cellsOf64 (ds S))) := below_cells lep3 _ _ _ hS4
          have zq5 := blk_put (show pb4 ≠ pb3 by omega) (cellsOf64 (ds S)) 0 _ zq4
          have zp5 := zero_over (Y := S) zp4
          refine hK.out _ _ hS5 (fun hHeld => ?_)
          clear hK K hst5
          try simp only [Act.put, List.setIfInBounds_toArray, List.set_cons_zero, List.set_cons_succ, List.getElem_toArray, List.getElem_cons_zero, List.getElem_cons_succ]
          generalize wv4.setCells pb3 0 (cellsOf64 (ds S)) = wv5 at *
          refine wpAnyH_ready (rs := [7]) (by kernel_rfl) (by simp) ?_
          refine (AllReadyH.cons rfl (fun K hK => ?_) AllReadyH.nil)
          have hst6 := ST2 wv5 pb4 zq5
          go_simp
          have hS6 : Below w1.heap.size w1 (wv5.setCells pb4 0 (cellsOf64 (ds T))) := below_cells leq4 _ _ _ hS5
          have zp6 := blk_put (show pb3 ≠ pb4 by omega) (cellsOf64 (ds T)) 0 _ zp5
          have zq6 := zero_over (Y := T) zq5
          refine hK.out _ _ hS6 (fun hHeld => ?_)
          clear hK K hst6
          try simp only [Act.put, List.setIfInBounds_toArray, List.set_cons_zero, List.set_cons_succ, List.getElem_toArray, List.getElem_cons_zero, List.getElem_cons_succ]
          generalize wv5.setCells pb4 0 (cellsOf64 (ds T)) = wv6 at *
          refine wpAnyH_done (by kernel_rfl) ?_ _
          go_wp2_with fail
          go_meet
          exact ⟨_, _, rfl, rfl, zp6, zq6, hS6⟩
        · have hb7 := (Below.refl wv2.heap.size wv2).alloc (Nat.le_refl _) (.cells #[.int .u64 0, .int .u64 0, .int .u64 0, .int .u64 0, .int .u64 0, .int .u64 0, .int .u64 0, .int .u64 0, .int .u64 0, .int .u64 0, .int .u64 0, .int .u64 0] 44)
          have hS7 : Below w1.heap.size w1 (wv2.alloc (.cells #[.int .u64 0, .int .u64 0, .int .u64 0, .int .u64 0, .int .u64 0, .int .u64 0, .int .u64 0, .int .u64 0, .int .u64 0, .int .u64 0, .int .u64 0, .int .u64 0] 44)) := bchain hS2 hb7
          have leq7 := hS2.size
          have zq7 : BlkW (wv2.alloc (.cells #[.int .u64 0, .int .u64 0, .int .u64 0, .int .u64 0, .int .u64 0, .int .u64 0, .int .u64 0, .int .u64 0, .int .u64 0, .int .u64 0, .int .u64 0, .int .u64 0] 44)) (wv2.heap.size) 44 (List.replicate 12 0) := z12_new wv2 44
          go_simp
          refine hK.out _ _ hS7 (fun hHeld => ?_)
          clear hK K
          try simp only [Act.put, List.setIfInBounds_toArray, List.set_cons_zero, List.set_cons_succ, List.getElem_toArray, List.getElem_cons_zero, List.getElem_cons_succ]
          generalize hv7 : wv2.alloc (.cells #[.int .u64 0, .int .u64 0, .int .u64 0, .int .u64 0, .int .u64 0, .int .u64 0, .int .u64 0, .int .u64 0, .int .u64 0, .int .u64 0, .int .u64 0, .int .u64 0] 44) = wv7 at *
          generalize hbl7 : wv2.heap.size = pb7 at *
          clear hb7
          refine wpAnyH_ready (rs := [4]) (by kernel_rfl) (by simp) ?_
          refine (AllReadyH.cons rfl (fun K hK => ?_) AllReadyH.nil)
          have hb8 := (Below.refl wv7.heap.size wv7).alloc (Nat.le_refl _) (.cells #[.int .u64 0, .int .u64 0, .int .u64 0, .int .u64 0, .int .u64 0, .int .u64 0, .int .u64 0, .int .u64 0, .int .u64 0, .int .u64 0, .int .u64 0, .int .u64 0] 44)
          have hS8 : Below w1.heap.size w1 (wv7.alloc (.cells #[.int .u64 0, .int .u64 0, .int .u64 0, .int .u64 0, .int .u64 0, .int .u64 0, .int .u64 0, .int .u64 0, .int .u64 0, .int .u64 0, .int .u64 0, .int .u64 0] 44)) := bchain hS7 hb8
          have lep8 := hS7.size
          have ltq8 := (zq7).size
          have zq8 := blk_up zq7 hb8
          have zp8 : BlkW (wv7.alloc (.cells #[.int .u64 0, .int .u64 0, .int .u64 0, .int .u64 0, .int .u64 0, .int .u64 0, .int .u64 0, .int .u64 0, .int .u64 0, .int .u64 0, .int .u64 0, .int .u64 0] 44)) (wv7.heap.size) 44 (List.replicate 12 0) := z12_new wv7 44
          go_simp
          refine hK.out _ _ hS8 (fun hHeld => ?_)
          clear hK K
          try simp only [Act.put, List.setIfInBounds_toArray, List.set_cons_zero, List.set_cons_succ, List.getElem_toArray, List.getElem_cons_zero, List.getElem_cons_succ]
          generalize hv8 : wv7.alloc (.cells #[.int .u64 0, .int .u64 0, .int .u64 0, .int .u64 0, .int .u64 0, .int .u64 0, .int .u64 0, .int .u64 0, .int .u64 0, .int .u64 0, .int .u64 0, .int .u64 0] 44) = wv8 at *
          generalize hbl8 : wv7.heap.size = pb8 at *
          clear hb8
          refine wpAnyH_ready (rs := [6]) (by kernel_rfl) (by simp) ?_
          refine (AllReadyH.cons rfl (fun K hK => ?_) AllReadyH.nil)
          have hst9 := ST1 wv8 pb8 zp8
          go_simp
          have hS9 : Below w1.heap.size w1 (wv8.setCells pb8 0 (cellsOf64 (ds S))) := below_cells lep8 _ _ _ hS8
          have zq9 := blk_put (show pb7 ≠ pb8 by omega) (cellsOf64 (ds S)) 0 _ zq8
          have zp9 := zero_over (Y := S) zp8
          refine hK.out _ _ hS9 (fun hHeld => ?_)
          clear hK K hst9
          try simp only [Act.put, List.setIfInBounds_toArray, List.set_cons_zero, List.set_cons_succ, List.getElem_toArray, List.getElem_cons_zero, List.getElem_cons_succ]
          generalize wv8.setCells pb8 0 (cellsOf64 (ds S)) = wv9 at *
          refine wpAnyH_ready (rs := [7]) (by kernel_rfl) (by simp) ?_
          refine (AllReadyH.cons rfl (fun K hK => ?_) AllReadyH.nil)
          have hst10 := ST2 wv9 pb7 zq9
          go_simp
          have hS10 : Below w1.heap.size w1 (wv9.setCells pb7 0 (cellsOf64 (ds T))) := below_cells leq7 _ _ _ hS9
          have zp10 := blk_put (show pb8 ≠ pb7 by omega) (cellsOf64 (ds T)) 0 _ zp9
          have zq10 := zero_over (Y := T) zq9
          refine hK.out _ _ hS10 (fun hHeld => ?_)
          clear hK K hst10
          try simp only [Act.put, List.setIfInBounds_toArray, List.set_cons_zero, List.set_cons_succ, List.getElem_toArray, List.getElem_cons_zero, List.getElem_cons_succ]
          generalize wv9.setCells pb7 0 (cellsOf64 (ds T)) = wv10 at *
          refine wpAnyH_done (by kernel_rfl) ?_ _
          go_wp2_with fail
          go_meet
          exact ⟨_, _, rfl, rfl, zp10, zq10, hS10⟩
      · have hb11 := (Below.refl wv1.heap.size wv1).alloc (Nat.le_refl _) (.cells #[.int .u64 0, .int .u64 0, .int .u64 0, .int .u64 0, .int .u64 0, .int .u64 0, .int .u64 0, .int .u64 0, .int .u64 0, .int .u64 0, .int .u64 0, .int .u64 0] 44)
        have hS11 : Below w1.heap.size w1 (wv1.alloc (.cells #[.int .u64 0, .int .u64 0, .int .u64 0, .int .u64 0, .int .u64 0, .int .u64 0, .int .u64 0, .int .u64 0, .int .u64 0, .int .u64 0, .int .u64 0, .int .u64 0] 44)) := bchain hS1 hb11
        have lep11 := hS1.size
        have zp11 : BlkW (wv1.alloc (.cells #[.int .u64 0, .int .u64 0, .int .u64 0, .int .u64 0, .int .u64 0, .int .u64 0, .int .u64 0, .int .u64 0, .int .u64 0, .int .u64 0, .int .u64 0, .int .u64 0] 44)) (wv1.heap.size) 44 (List.replicate 12 0) := z12_new wv1 44
        go_simp
        refine hK.out _ _ hS11 (fun hHeld => ?_)
        clear hK K
        try simp only [Act.put, List.setIfInBounds_toArray, List.set_cons_zero, List.set_cons_succ, List.getElem_toArray, List.getElem_cons_zero, List.getElem_cons_succ]
        generalize hv11 : wv1.alloc (.cells #[.int .u64 0, .int .u64 0, .int .u64 0, .int .u64 0, .int .u64 0, .int .u64 0, .int .u64 0, .int .u64 0, .int .u64 0, .int .u64 0, .int .u64 0, .int .u64 0] 44) = wv11 at *
        generalize hbl11 : wv1.heap.size = pb11 at *
        clear hb11
        refine wpAnyH_ready (rs := [3, 5]) (by kernel_rfl) (by simp) ?_
        refine (AllReadyH.cons rfl (fun K hK => ?_) (AllReadyH.cons rfl (fun K hK => ?_) AllReadyH.nil))
        · go_simp
          go_at_call 31
          with_reducible refine (C2 _ (by with_reducible assumption)).mono ?_
          rintro e wv12 ⟨rfl, hb12⟩
          have hS12 : Below w1.heap.size w1 wv12 := bchain (by with_reducible assumption) hb12
          have zp12 := blk_up zp11 hb12
          dsimp only
          refine hK.out _ _ hS12 (fun hHeld => ?_)
          clear hK K
          try simp only [Act.put, List.setIfInBounds_toArray, List.set_cons_zero, List.set_cons_succ, List.getElem_toArray, List.getElem_cons_zero, List.getElem_cons_succ]
          refine wpAnyH_ready (rs := [5]) (by kernel_rfl) (by simp) ?_
          refine (AllReadyH.cons rfl (fun K hK => ?_) AllReadyH.nil)
          have hb13 := (Below.refl wv12.heap.size wv12).alloc (Nat.le_refl _) (.cells #[.int .u64 0, .int .u64 0, .int .u64 0, .int .u64 0, .int .u64 0, .int .u64 0, .int .u64 0, .int .u64 0, .int .u64 0, .int .u64 0, .int .u64 0, .int .u64 0] 44)
          have hS13 : Below w1.heap.size w1 (wv12.alloc (.cells #[.int .u64 0, .int .u64 0, .int .u64 0, .int .u64 0, .int .u64 0, .int .u64 0, .int .u64 0, .int .u64 0, .int .u64 0, .int .u64 0, .int .u64 0, .int .u64 0] 44)) := bchain hS12 hb13
          have leq13 := hS12.size
          have ltp13 := (zp12).size
          have zp13 := blk_up zp12 hb13
          have zq13 : BlkW (wv12.alloc (.cells #[.int .u64 0, .int .u64 0, .int .u64 0, .int .u64 0, .int .u64 0, .int .u64 0, .int .u64 0, .int .u64 0, .int .u64 0, .int .u64 0, .int .u64 0, .int .u64 0] 44)) (wv12.heap.size) 44 (List.replicate 12 0) := z12_new wv12 44
          go_simp
          refine hK.out _ _ hS13 (fun hHeld => ?_)
          clear hK K
          try simp only [Act.put, List.setIfInBounds_toArray, List.set_cons_zero, List.set_cons_succ, List.getElem_toArray, List.getElem_cons_zero, List.getElem_cons_succ]
          generalize hv13 : wv12.alloc (.cells #[.int .u64 0, .int .u64 0, .int .u64 0, .int .u64 0, .int .u64 0, .int .u64 0, .int .u64 0, .int .u64 0, .int .u64 0, .int .u64 0, .int .u64 0, .int .u64 0] 44) = wv13 at *
          generalize hbl13 : wv12.heap.size = pb13 at *
          clear hb13
          refine wpAnyH_ready (rs := [6]) (by kernel_rfl) (by simp) ?_
          refine (AllReadyH.cons rfl (fun K hK => ?_) AllReadyH.nil)
          have hst14 := ST1 wv13 pb11 zp13
          go_simp
          have hS14 : Below w1.heap.size w1 (wv13.setCells pb11 0 (cellsOf64 (ds S))) := below_cells lep11 _ _ _ hS13
          have zq14 := blk_put (show pb13 ≠ pb11 by omega) (cellsOf64 (ds S)) 0 _ zq13
          have zp14 := zero_over (Y := S) zp13
          refine hK.out _ _ hS14 (fun hHeld => ?_)
          clear hK K hst14
          try simp only [Act.put, List.setIfInBounds_toArray, List.set_cons_zero, List.set_cons_succ, List.getElem_toArray, List.getElem_cons_zero, List.getElem_cons_succ]
          generalize wv13.setCells pb11 0 (cellsOf64 (ds S)) = wv14 at *
          refine wpAnyH_ready (rs := [7]) (by kernel_rfl) (by simp) ?_
          refine (AllReadyH.cons rfl (fun K hK => ?_) AllReadyH.nil)
          have hst15 := ST2 wv14 pb13 zq14
          go_simp
          have hS15 : Below w1.heap.size w1 (wv14.setCells pb13 0 (cellsOf64 (ds T))) := below_cells leq13 _ _ _ hS14
          have zp15 := blk_put (show pb11 ≠ pb13 by omega) (cellsOf64 (ds T)) 0 _ zp14
          have zq15 := zero_over (Y := T) zq14
          refine hK.out _ _ hS15 (fun hHeld => ?_)
          clear hK K hst15
          try simp only [Act.put, List.setIfInBounds_toArray, List.set_cons_zero, List.set_cons_succ, List.getElem_toArray, List.getElem_cons_zero, List.getElem_cons_succ]
          generalize wv14.setCells pb13 0 (cellsOf64 (ds T)) = wv15 at *
          refine wpAnyH_done (by kernel_rfl) ?_ _
          go_wp2_with fail
          go_meet
          exact ⟨_, _, rfl, rfl, zp15, zq15, hS15⟩
        · have hb16 := (Below.refl wv11.heap.size wv11).alloc (Nat.le_refl _) (.cells #[.int .u64 0, .int .u64 0, .int .u64 0, .int .u64 0, .int .u64 0, .int .u64 0, .int .u64 0, .int .u64 0, .int .u64 0, .int .u64 0, .int .u64 0, .int .u64 0] 44)
          have hS16 : Below w1.heap.size w1 (wv11.alloc (.cells #[.int .u64 0, .int .u64 0, .int .u64 0, .int .u64 0, .int .u64 0, .int .u64 0, .int .u64 0, .int .u64 0, .int .u64 0, .int .u64 0, .int .u64 0, .int .u64 0] 44)) := bchain hS11 hb16
          have leq16 := hS11.size
          have ltp16 := (zp11).size
          have zp16 := blk_up zp11 hb16
          have zq16 : BlkW (wv11.alloc (.cells #[.int .u64 0, .int .u64 0, .int .u64 0, .int .u64 0, .int .u64 0, .int .u64 0, .int .u64 0, .int .u64 0, .int .u64 0, .int .u64 0, .int .u64 0, .int .u64 0] 44)) (wv11.heap.size) 44 (List.replicate 12 0) := z12_new wv11 44
          go_simp
          refine hK.out _ _ hS16 (fun hHeld => ?_)
          clear hK K
          try simp only [Act.put, List.setIfInBounds_toArray, List.set_cons_zero, List.set_cons_succ, List.getElem_toArray, List.getElem_cons_zero, List.getElem_cons_succ]
          generalize hv16 : wv11.alloc (.cells #[.int .u64 0, .int .u64 0, .int .u64 0, .int .u64 0, .int .u64 0, .int .u64 0, .int .u64 0, .int .u64 0, .int .u64 0, .int .u64 0, .int .u64 0, .int .u64 0] 44) = wv16 at *
          generalize hbl16 : wv11.heap.size = pb16 at *
          clear hb16
          refine wpAnyH_ready (rs := [3]) (by kernel_rfl) (by simp) ?_
          refine (AllReadyH.cons rfl (fun K hK => ?_) AllReadyH.nil)
          go_simp
          go_at_call 31
          with_reducible refine (C2 _ (by with_reducible assumption)).mono ?_
          rintro e wv17 ⟨rfl, hb17⟩
          have hS17 : Below w1.heap.size w1 wv17 := bchain (by with_reducible assumption) hb17
          have zp17 := blk_up zp16 hb17
          have zq17 := blk_up zq16 hb17
          dsimp only
          refine hK.out _ _ hS17 (fun hHeld => ?_)
          clear hK K
          try simp only [Act.put, List.setIfInBounds_toArray, List.set_cons_zero, List.set_cons_succ, List.getElem_toArray, List.getElem_cons_zero, List.getElem_cons_succ]
          refine wpAnyH_ready (rs := [6]) (by kernel_rfl) (by simp) ?_
          refine (AllReadyH.cons rfl (fun K hK => ?_) AllReadyH.nil)
          have hst18 := ST1 wv17 pb11 zp17
          go_simp
          have hS18 : Below w1.heap.size w1 (wv17.setCells pb11 0 (cellsOf64 (ds S))) := below_cells lep11 _ _ _ hS17
          have zq18 := blk_put (show pb16 ≠ pb11 by omega) (cellsOf64 (ds S)) 0 _ zq17
          have zp18 := zero_over (Y := S) zp17
          refine hK.out _ _ hS18 (fun hHeld => ?_)
          clear hK K hst18
          try simp only [Act.put, List.setIfInBounds_toArray, List.set_cons_zero, List.set_cons_succ, List.getElem_toArray, List.getElem_cons_zero, List.getElem_cons_succ]
          generalize wv17.setCells pb11 0 (cellsOf64 (ds S)) = wv18 at *
          refine wpAnyH_ready (rs := [7]) (by kernel_rfl) (by simp) ?_
          refine (AllReadyH.cons rfl (fun K hK => ?_) AllReadyH.nil)
          have hst19 := ST2 wv18 pb16 zq18
          go_simp
          have hS19 : Below w1.heap.size w1 (wv18.setCells pb16 0 (cellsOf64 (ds T))) := below_cells leq16 _ _ _ hS18
          have zp19 := blk_put (show pb11 ≠ pb16 by omega) (cellsOf64 (ds T)) 0 _ zp18
          have zq19 := zero_over (Y := T) zq18
          refine hK.out _ _ hS19 (fun hHeld => ?_)
          clear hK K hst19
          try simp only [Act.put, List.setIfInBounds_toArray, List.set_cons_zero, List.set_cons_succ, List.getElem_toArray, List.getElem_cons_zero, List.getElem_cons_succ]
          generalize wv18.setCells pb16 0 (cellsOf64 (ds T)) = wv19 at *
          refine wpAnyH_done (by kernel_rfl) ?_ _
          go_wp2_with fail
          go_meet
          exact ⟨_, _, rfl, rfl, zp19, zq19, hS19⟩
      · have hb20 := (Below.refl wv1.heap.size wv1).alloc (Nat.le_refl _) (.cells #[.int .u64 0, .int .u64 0, .int .u64 0, .int .u64 0, .int .u64 0, .int .u64 0, .int .u64 0, .int .u64 0, .int .u64 0, .int .u64 0, .int .u64 0, .int .u64 0] 44)
        have hS20 : Below w1.heap.size w1 (wv1.alloc (.cells #[.int .u64 0, .int .u64 0, .int .u64 0, .int .u64 0, .int .u64 0, .int .u64 0, .int .u64 0, .int .u64 0, .int .u64 0, .int .u64 0, .int .u64 0, .int .u64 0] 44)) := bchain hS1 hb20
        have leq20 := hS1.size
        have zq20 : BlkW (wv1.alloc (.cells #[.int .u64 0, .int .u64 0, .int .u64 0, .int .u64 0, .int .u64 0, .int .u64 0, .int .u64 0, .int .u64 0, .int .u64 0, .int .u64 0, .int .u64 0, .int .u64 0] 44)) (wv1.heap.size) 44 (List.replicate 12 0) := z12_new wv1 44
        go_simp
        refine hK.out _ _ hS20 (fun hHeld => ?_)
        clear hK K
        try simp only [Act.put, List.setIfInBounds_toArray, List.set_cons_zero, List.set_cons_succ, List.getElem_toArray, List.getElem_cons_zero, List.getElem_cons_succ]
        generalize hv20 : wv1.alloc (.cells #[.int .u64 0, .int .u64 0, .int .u64 0, .int .u64 0, .int .u64 0, .int .u64 0, .int .u64 0, .int .u64 0, .int .u64 0, .int .u64 0, .int .u64 0, .int .u64 0] 44) = wv20 at *
        generalize hbl20 : wv1.heap.size = pb20 at *
        clear hb20
        refine wpAnyH_ready (rs := [3, 4]) (by kernel_rfl) (by simp) ?_
        refine (AllReadyH.cons rfl (fun K hK => ?_) (AllReadyH.cons rfl (fun K hK => ?_) AllReadyH.nil))
        · go_simp
          go_at_call 31
          with_reducible refine (C2 _ (by with_reducible assumption)).mono ?_
          rintro e wv21 ⟨rfl, hb21⟩
          have hS21 : Below w1.heap.size w1 wv21 := bchain (by with_reducible assumption) hb21
          have zq21 := blk_up zq20 hb21
          dsimp only
          refine hK.out _ _ hS21 (fun hHeld => ?_)
          clear hK K
          try simp only [Act.put, List.setIfInBounds_toArray, List.set_cons_zero, List.set_cons_succ, List.getElem_toArray, List.getElem_cons_zero, List.getElem_cons_succ]
          refine wpAnyH_ready (rs := [4]) (by kernel_rfl) (by simp) ?_
          refine (AllReadyH.cons rfl (fun K hK => ?_) AllReadyH.nil)
          have hb22 := (Below.refl wv21.heap.size wv21).alloc (Nat.le_refl _) (.cells #[.int .u64 0, .int .u64 0, .int .u64 0, .int .u64 0, .int .u64 0, .int .u64 0, .int .u64 0, .int .u64 0, .int .u64 0, .int .u64 0, .int .u64 0, .int .u64 0] 44)
          have hS22 : Below w1.heap.size w1 (wv21.alloc (.cells #[.int .u64 0, .int .u64 0, .int .u64 0, .int .u64 0, .int .u64 0, .int .u64 0, .int .u64 0, .int .u64 0, .int .u64 0, .int .u64 0, .int .u64 0, .int .u64 0] 44)) := bchain hS21 hb22
          have lep22 := hS21.size
          have ltq22 := (zq21).size
          have zq22 := blk_up zq21 hb22
          have zp22 : BlkW (wv21.alloc (.cells #[.int .u64 0, .int .u64 0, .int .u64 0, .int .u64 0, .int .u64 0, .int .u64 0, .int .u64 0, .int .u64 0, .int .u64 0, .int .u64 0, .int .u64 0, .int .u64 0] 44)) (wv21.heap.size) 44 (List.replicate 12 0) := z12_new wv21 44
          go_simp
          refine hK.out _ _ hS22 (fun hHeld => ?_)
          clear hK K
          try simp only [Act.put, List.setIfInBounds_toArray, List.set_cons_zero, List.set_cons_succ, List.getElem_toArray, List.getElem_cons_zero, List.getElem_cons_succ]
          generalize hv22 : wv21.alloc (.cells #[.int .u64 0, .int .u64 0, .int .u64 0, .int .u64 0, .int .u64 0, .int .u64 0, .int .u64 0, .int .u64 0, .int .u64 0, .int .u64 0, .int .u64 0, .int .u64 0] 44) = wv22 at *
          generalize hbl22 : wv21.heap.size = pb22 at *
          clear hb22
          refine wpAnyH_ready (rs := [6]) (by kernel_rfl) (by simp) ?_
          refine (AllReadyH.cons rfl (fun K hK => ?_) AllReadyH.nil)
          have hst23 := ST1 wv22 pb22 zp22
          go_simp
          have hS23 : Below w1.heap.size w1 (wv22.setCells pb22 0 (cellsOf64 (ds S))) := below_cells lep22 _ _ _ hS22
          have zq23 := blk_put (show pb20 ≠ pb22 by omega) (cellsOf64 (ds S)) 0 _ zq22
          have zp23 := zero_over (Y := S) zp22
          refine hK.out _ _ hS23 (fun hHeld => ?_)
          clear hK K hst23
          try simp only [Act.put, List.setIfInBounds_toArray, List.set_cons_zero, List.set_cons_succ, List.getElem_toArray, List.getElem_cons_zero, List.getElem_cons_succ]
          generalize wv22.setCells pb22 0 (cellsOf64 (ds S)) = wv23 at *
          refine wpAnyH_ready (rs := [7]) (by kernel_rfl) (by simp) ?_
          refine (AllReadyH.cons rfl (fun K hK => ?_) AllReadyH.nil)
          have hst24 := ST2 wv23 pb20 zq23
          go_simp
          have hS24 : Below w1.heap.size w1 (wv23.setCells pb20 0 (cellsOf64 (ds T))) := below_cells leq20 _ _ _ hS23
          have zp24 := blk_put (show pb22 ≠ pb20 by omega) (cellsOf64 (ds T)) 0 _ zp23
          have zq24 := zero_over (Y := T) zq23
          refine hK.out _ _ hS24 (fun hHeld => ?_)
          clear hK K hst24
          try simp only [Act.put, List.setIfInBounds_toArray, List.set_cons_zero, List.set_cons_succ, List.getElem_toArray, List.getElem_cons_zero, List.getElem_cons_succ]
          generalize wv23.setCells pb20 0 (cellsOf64 (ds T)) = wv24 at *
          refine wpAnyH_done (by kernel_rfl) ?_ _
          go_wp2_with fail
          go_meet
          exact ⟨_, _, rfl, rfl, zp24, zq24, hS24⟩
        · have hb25 := (Below.refl wv20.heap.size wv20).alloc (Nat.le_refl _) (.cells #[.int .u64 0, .int .u64 0, .int .u64 0, .int .u64 0, .int .u64 0, .int .u64 0, .int .u64 0, .int .u64 0, .int .u64 0, .int .u64 0, .int .u64 0, .int .u64 0] 44)
          have hS25 : Below w1.heap.size w1 (wv20.alloc (.cells #[.int .u64 0, .int .u64 0, .int .u64 0, .int .u64 0, .int .u64 0, .int .u64 0, .int .u64 0, .int .u64 0, .int .u64 0, .int .u64 0, .int .u64 0, .int .u64 0] 44)) := bchain hS20 hb25
          have lep25 := hS20.size
          have ltq25 := (zq20).size
          have zq25 := blk_up zq20 hb25
          have zp25 : BlkW (wv20.alloc (.cells #[.int .u64 0, .int .u64 0, .int .u64 0, .int .u64 0, .int .u64 0, .int .u64 0, .int .u64 0, .int .u64 0, .int .u64 0, .int .u64 0, .int .u64 0, .int .u64 0] 44)) (wv20.heap.size) 44 (List.replicate 12 0) := z12_new wv20 44
          go_simp
          refine hK.out _ _ hS25 (fun hHeld => ?_)
          clear hK K
          try simp only [Act.put, List.setIfInBounds_toArray, List.set_cons_zero, List.set_cons_succ, List.getElem_toArray, List.getElem_cons_zero, List.getElem_cons_succ]
          generalize hv25 : wv20.alloc (.cells #[.int .u64 0, .int .u64 0, .int .u64 0, .int .u64 0, .int .u64 0, .int .u64 0, .int .u64 0, .int .u64 0, .int .u64 0, .int .u64 0, .int .u64 0, .int .u64 0] 44) = wv25 at *
          generalize hbl25 : wv20.heap.size = pb25 at *
          clear hb25
          refine wpAnyH_ready (rs := [3]) (by kernel_rfl) (by simp) ?_
          refine (AllReadyH.cons rfl (fun K hK => ?_) AllReadyH.nil)
          go_simp
          go_at_call 31
          with_reducible refine (C2 _ (by with_reducible assumption)).mono ?_
          rintro e wv26 ⟨rfl, hb26⟩
          have hS26 : Below w1.heap.size w1 wv26 := bchain (by with_reducible assumption) hb26
          have zq26 := blk_up zq25 hb26
          have zp26 := blk_up zp25 hb26
          dsimp only
          refine hK.out _ _ hS26 (fun hHeld => ?_)
          clear hK K
          try simp only [Act.put, List.setIfInBounds_toArray, List.set_cons_zero, List.set_cons_succ, List.getElem_toArray, List.getElem_cons_zero, List.getElem_cons_succ]
          refine wpAnyH_ready (rs := [6]) (by kernel_rfl) (by simp) ?_
          refine (AllReadyH.cons rfl (fun K hK => ?_) AllReadyH.nil)
          have hst27 := ST1 wv26 pb25 zp26
          go_simp
          have hS27 : Below w1.heap.size w1 (wv26.setCells pb25 0 (cellsOf64 (ds S))) := below_cells lep25 _ _ _ hS26
          have zq27 := blk_put (show pb20 ≠ pb25 by omega) (cellsOf64 (ds S)) 0 _ zq26
          have zp27 := zero_over (Y := S) zp26
          refine hK.out _ _ hS27 (fun hHeld => ?_)
          clear hK K hst27
          try simp only [Act.put, List.setIfInBounds_toArray, List.set_cons_zero, List.set_cons_succ, List.getElem_toArray, List.getElem_cons_zero, List.getElem_cons_succ]
          generalize wv26.setCells pb25 0 (cellsOf64 (ds S)) = wv27 at *
          refine wpAnyH_ready (rs := [7]) (by kernel_rfl) (by simp) ?_
          refine (AllReadyH.cons rfl (fun K hK => ?_) AllReadyH.nil)
          have hst28 := ST2 wv27 pb20 zq27
          go_simp
          have hS28 : Below w1.heap.size w1 (wv27.setCells pb20 0 (cellsOf64 (ds T))) := below_cells leq20 _ _ _ hS27
          have zp28 := blk_put (show pb25 ≠ pb20 by omega) (cellsOf64 (ds T)) 0 _ zp27
          have zq28 := zero_over (Y := T) zq27
          refine hK.out _ _ hS28 (fun hHeld => ?_)
          clear hK K hst28
          try simp only [Act.put, List.setIfInBounds_toArray, List.set_cons_zero, List.set_cons_succ, List.getElem_toArray, List.getElem_cons_zero, List.getElem_cons_succ]
          generalize wv27.setCells pb20 0 (cellsOf64 (ds T)) = wv28 at *
          refine wpAnyH_done (by kernel_rfl) ?_ _
          go_wp2_with fail
          go_meet
          exact ⟨_, _, rfl, rfl, zp28, zq28, hS28⟩
    · have hb29 := (Below.refl v0.heap.size v0).alloc (Nat.le_refl _) (.cells #[.int .u64 0, .int .u64 0, .int .u64 0, .int .u64 0, .int .u64 0, .int .u64 0, .int .u64 0, .int .u64 0, .int .u64 0, .int .u64 0, .int .u64 0, .int .u64 0] 44)
      have hS29 : Below w1.heap.size w1 (v0.alloc (.cells #[.int .u64 0, .int .u64 0, .int .u64 0, .int .u64 0, .int .u64 0, .int .u64 0, .int .u64 0, .int .u64 0, .int .u64 0, .int .u64 0, .int .u64 0, .int .u64 0] 44)) := bchain hS0 hb29
      have lep29 := hS0.size
      have zp29 : BlkW (v0.alloc (.cells #[.int .u64 0, .int .u64 0, .int .u64 0, .int .u64 0, .int .u64 0, .int .u64 0, .int .u64 0, .int .u64 0, .int .u64 0, .int .u64 0, .int .u64 0, .int .u64 0] 44)) (v0.heap.size) 44 (List.replicate 12 0) := z12_new v0 44
      go_simp
      refine hK.out _ _ hS29 (fun hHeld => ?_)
      clear hK K
      try simp only [Act.put, List.setIfInBounds_toArray, List.set_cons_zero, List.set_cons_succ, List.getElem_toArray, List.getElem_cons_zero, List.getElem_cons_succ]
      generalize hv29 : v0.alloc (.cells #[.int .u64 0, .int .u64 0, .int .u64 0, .int .u64 0, .int .u64 0, .int .u64 0, .int .u64 0, .int .u64 0, .int .u64 0, .int .u64 0, .int .u64 0, .int .u64 0] 44) = wv29 at *
      generalize hbl29 : v0.heap.size = pb29 at *
      clear hb29
      refine wpAnyH_ready (rs := [1, 5]) (by kernel_rfl) (by simp) ?_
      refine (AllReadyH.cons rfl (fun K hK => ?_) (AllReadyH.cons rfl (fun K hK => ?_) AllReadyH.nil))
      · go_simp
        go_at_call 31
        with_reducible refine (C1 _ (by with_reducible assumption)).mono ?_
        rintro e wv30 ⟨rfl, hb30⟩
        have hS30 : Below w1.heap.size w1 wv30 := bchain (by with_reducible assumption) hb30
        have zp30 := blk_up zp29 hb30
        dsimp only
        refine hK.out _ _ hS30 (fun hHeld => ?_)
        clear hK K
        try simp only [Act.put, List.setIfInBounds_toArray, List.set_cons_zero, List.set_cons_succ, List.getElem_toArray, List.getElem_cons_zero, List.getElem_cons_succ]
        refine wpAnyH_ready (rs := [3, 5]) (by kernel_rfl) (by simp) ?_
        refine (AllReadyH.cons rfl (fun K hK => ?_) (AllReadyH.cons rfl (fun K hK => ?_) AllReadyH.nil))
        · go_simp
          go_at_call 31
          with_reducible refine (C2 _ (by with_reducible assumption)).mono ?_
          rintro e wv31 ⟨rfl, hb31⟩
          have hS31 : Below w1.heap.size w1 wv31 := bchain (by with_reducible assumption) hb31
          have zp31 := blk_up zp30 hb31
          dsimp only
          refine hK.out _ _ hS31 (fun hHeld => ?_)
          clear hK K
          try simp only [Act.put, List.setIfInBounds_toArray, List.set_cons_zero, List.set_cons_succ, List.getElem_toArray, List.getElem_cons_zero, List.getElem_cons_succ]
          refine wpAnyH_ready (rs := [5]) (by kernel_rfl) (by simp) ?_
          refine (AllReadyH.cons rfl (fun K hK => ?_) AllReadyH.nil)
          have hb32 := (Below.refl wv31.heap.size wv31).alloc (Nat.le_refl _) (.cells #[.int .u64 0, .int .u64 0, .int .u64 0, .int .u64 0, .int .u64 0, .int .u64 0, .int .u64 0, .int .u64 0, .int .u64 0, .int .u64 0, .int .u64 0, .int .u64 0] 44)
          have hS32 : Below w1.heap.size w1 (wv31.alloc (.cells #[.int .u64 0, .int .u64 0, .int .u64 0, .int .u64 0, .int .u64 0, .int .u64 0, .int .u64 0, .int .u64 0, .int .u64 0, .int .u64 0, .int .u64 0, .int .u64 0] 44)) := bchain hS31 hb32
          have leq32 := hS31.size
          have ltp32 := (zp31).size
          have zp32 := blk_up zp31 hb32
          have zq32 : BlkW (wv31.alloc (.cells #[.int .u64 0, .int .u64 0, .int .u64 0, .int .u64 0, .int .u64 0, .int .u64 0, .int .u64 0, .int .u64 0, .int .u64 0, .int .u64 0, .int .u64 0, .int .u64 0] 44)) (wv31.heap.size) 44 (List.replicate 12 0) := z12_new wv31 44
          go_simp
          refine hK.out _ _ hS32 (fun hHeld => ?_)
          clear hK K
          try simp only [Act.put, List.setIfInBounds_toArray, List.set_cons_zero, List.set_cons_succ, List.getElem_toArray, List.getElem_cons_zero, List.getElem_cons_succ]
          generalize hv32 : wv31.alloc (.cells #[.int .u64 0, .int .u64 0, .int .u64 0, .int .u64 0, .int .u64 0, .int .u64 0, .int .u64 0, .int .u64 0, .int .u64 0, .int .u64 0, .int .u64 0, .int .u64 0] 44) = wv32 at *
          generalize hbl32 : wv31.heap.size = pb32 at *
          clear hb32
          refine wpAnyH_ready (rs := [6]) (by kernel_rfl) (by simp) ?_
          refine (AllReadyH.cons rfl (fun K hK => ?_) AllReadyH.nil)
          have hst33 := ST1 wv32 pb29 zp32
          go_simp
          have hS33 : Below w1.heap.size w1 (wv32.setCells pb29 0 (cellsOf64 (ds S))) := below_cells lep29 _ _ _ hS32
          have zq33 := blk_put (show pb32 ≠ pb29 by omega) (cellsOf64 (ds S)) 0 _ zq32
          have zp33 := zero_over (Y := S) zp32
          refine hK.out _ _ hS33 (fun hHeld => ?_)
          clear hK K hst33
          try simp only [Act.put, List.setIfInBounds_toArray, List.set_cons_zero, List.set_cons_succ, List.getElem_toArray, List.getElem_cons_zero, List.getElem_cons_succ]
          generalize wv32.setCells pb29 0 (cellsOf64 (ds S)) = wv33 at *
          refine wpAnyH_ready (rs := [7]) (by kernel_rfl) (by simp) ?_
          refine (AllReadyH.cons rfl (fun K hK => ?_) AllReadyH.nil)
          have hst34 := ST2 wv33 pb32 zq33
          go_simp
          have hS34 : Below w1.heap.size w1 (wv33.setCells pb32 0 (cellsOf64 (ds T))) := below_cells leq32 _ _ _ hS33
          have zp34 := blk_put (show pb29 ≠ pb32 by omega) (cellsOf64 (ds T)) 0 _ zp33
          have zq34 := zero_over (Y := T) zq33
          refine hK.out _ _ hS34 (fun hHeld => ?_)
          clear hK K hst34
          try simp only [Act.put, List.setIfInBounds_toArray, List.set_cons_zero, List.set_cons_succ, List.getElem_toArray, List.getElem_cons_zero, List.getElem_cons_succ]
          generalize wv33.setCells pb32 0 (cellsOf64 (ds T)) = wv34 at *
          refine wpAnyH_done (by kernel_rfl) ?_ _
          go_wp2_with fail
          go_meet
          exact ⟨_, _, rfl, rfl, zp34, zq34, hS34⟩
        · have hb35 := (Below.refl wv30.heap.size wv30).alloc (Nat.le_refl _) (.cells #[.int .u64 0, .int .u64 0, .int .u64 0, .int .u64 0, .int .u64 0, .int .u64 0, .int .u64 0, .int .u64 0, .int .u64 0, .int .u64 0, .int .u64 0, .int .u64 0] 44)
          have hS35 : Below w1.heap.size w1 (wv30.alloc (.cells #[.int .u64 0, .int .u64 0, .int .u64 0, .int .u64 0, .int .u64 0, .int .u64 0, .int .u64 0, .int .u64 0, .int .u64 0, .int .u64 0, .int .u64 0, .int .u64 0] 44)) := bchain hS30 hb35
          have leq35 := hS30.size
          have ltp35 := (zp30).size
          have zp35 := blk_up zp30 hb35
          have zq35 : BlkW (wv30.alloc (.cells #[.int .u64 0, .int .u64 0, .int .u64 0, .int .u64 0, .int .u64 0, .int .u64 0, .int .u64 0, .int .u64 0, .int .u64 0, .int .u64 0, .int .u64 0, .int .u64 0] 44)) (wv30.heap.size) 44 (List.replicate 12 0) := z12_new wv30 44
          go_simp
          refine hK.out _ _ hS35 (fun hHeld => ?_)
          clear hK K
          try simp only [Act.put, List.setIfInBounds_toArray, List.set_cons_zero, List.set_cons_succ, List.getElem_toArray, List.getElem_cons_zero, List.getElem_cons_succ]
          generalize hv35 : wv30.alloc (.cells #[.int .u64 0, .int .u64 0, .int .u64 0, .int .u64 0, .int .u64 0, .int .u64 0, .int .u64 0, .int .u64 0, .int .u64 0, .int .u64 0, .int .u64 0, .int .u64 0] 44) = wv35 at *
          generalize hbl35 : wv30.heap.size = pb35 at *
          clear hb35
          refine wpAnyH_ready (rs := [3]) (by kernel_rfl) (by simp) ?_
          refine (AllReadyH.cons rfl (fun K hK => ?_) AllReadyH.nil)
          go_simp
          go_at_call 31
          with_reducible refine (C2 _ (by with_reducible assumption)).mono ?_
          rintro e wv36 ⟨rfl, hb36⟩
          have hS36 : Below w1.heap.size w1 wv36 := bchain (by with_reducible assumption) hb36
          have zp36 := blk_up zp35 hb36
          have zq36 := blk_up zq35 hb36
          dsimp only
          refine hK.out _ _ hS36 (fun hHeld => ?_)
          clear hK K
          try simp only [Act.put, List.setIfInBounds_toArray, List.set_cons_zero, List.set_cons_succ, List.getElem_toArray, List.getElem_cons_zero, List.getElem_cons_succ]
          refine wpAnyH_ready (rs := [6]) (by kernel_rfl) (by simp) ?_
          refine (AllReadyH.cons rfl (fun K hK => ?_) AllReadyH.nil)
          have hst37 := ST1 wv36 pb29 zp36
          go_simp
          have hS37 : Below w1.heap.size w1 (wv36.setCells pb29 0 (cellsOf64 (ds S))) := below_cells lep29 _ _ _ hS36
          have zq37 := blk_put (show pb35 ≠ pb29 by omega) (cellsOf64 (ds S)) 0 _ zq36
          have zp37 := zero_over (Y := S) zp36
          refine hK.out _ _ hS37 (fun hHeld => ?_)
          clear hK K hst37
          try simp only [Act.put, List.setIfInBounds_toArray, List.set_cons_zero, List.set_cons_succ, List.getElem_toArray, List.getElem_cons_zero, List.getElem_cons_succ]
          generalize wv36.setCells pb29 0 (cellsOf64 (ds S)) = wv37 at *
          refine wpAnyH_ready (rs := [7]) (by kernel_rfl) (by simp) ?_
          refine (AllReadyH.cons rfl (fun K hK => ?_) AllReadyH.nil)
          have hst38 := ST2 wv37 pb35 zq37
          go_simp
          have hS38 : Below w1.heap.size w1 (wv37.setCells pb35 0 (cellsOf64 (ds T))) := below_cells leq35 _ _ _ hS37
          have zp38 := blk_put (show pb29 ≠ pb35 by omega) (cellsOf64 (ds T)) 0 _ zp37
          have zq38 := zero_over (Y := T) zq37
          refine hK.out _ _ hS38 (fun hHeld => ?_)
          clear hK K hst38
          try simp only [Act.put, List.setIfInBounds_toArray, List.set_cons_zero, List.set_cons_succ, List.getElem_toArray, List.getElem_cons_zero, List.getElem_cons_succ]
          generalize wv37.setCells pb35 0 (cellsOf64 (ds T)) = wv38 at *
          refine wpAnyH_done (by kernel_rfl) ?_ _
          go_wp2_with fail
          go_meet
          exact ⟨_, _, rfl, rfl, zp38, zq38, hS38⟩
      · have hb39 := (Below.refl wv29.heap.size wv29).alloc (Nat.le_refl _) (.cells #[.int .u64 0, .int .u64 0, .int .u64 0, .int .u64 0, .int .u64 0, .int .u64 0, .int .u64 0, .int .u64 0, .int .u64 0, .int .u64 0, .int .u64 0, .int .u64 0] 44)
        have hS39 : Below w1.heap.size w1 (wv29.alloc (.cells #[.int .u64 0, .int .u64 0, .int .u64 0, .int .u64 0, .int .u64 0, .int .u64 0, .int .u64 0, .int .u64 0, .int .u64 0, .int .u64 0, .int .u64 0, .int .u64 0] 44)) := bchain hS29 hb39
        have leq39 := hS29.size
        have ltp39 := (zp29).size
        have zp39 := blk_up zp29 hb39
        have zq39 : BlkW (wv29.alloc (.cells #[.int .u64 0, .int .u64 0, .int .u64 0, .int .u64 0, .int .u64 0, .int .u64 0, .int .u64 0, .int .u64 0, .int .u64 0, .int .u64 0, .int .u64 0, .int .u64 0] 44)) (wv29.heap.size) 44 (List.replicate 12 0) := z12_new wv29 44
        go_simp
        refine hK.out _ _ hS39 (fun hHeld => ?_)
        clear hK K
        try simp only [Act.put, List.setIfInBounds_toArray, List.set_cons_zero, List.set_cons_succ, List.getElem_toArray, List.getElem_cons_zero, List.getElem_cons_succ]
        generalize hv39 : wv29.alloc (.cells #[.int .u64 0, .int .u64 0, .int .u64 0, .int .u64 0, .int .u64 0, .int .u64 0, .int .u64 0, .int .u64 0, .int .u64 0, .int .u64 0, .int .u64 0, .int .u64 0] 44) = wv39 at *
        generalize hbl39 : wv29.heap.size = pb39 at *
        clear hb39
        refine wpAnyH_ready (rs := [1]) (by kernel_rfl) (by simp) ?_
        refine (AllReadyH.cons rfl (fun K hK => ?_) AllReadyH.nil)
        go_simp
        go_at_call 31
        with_reducible refine (C1 _ (by with_reducible assumption)).mono ?_
        rintro e wv40 ⟨rfl, hb40⟩
        have hS40 : Below w1.heap.size w1 wv40 := bchain (by with_reducible assumption) hb40
        have zp40 := blk_up zp39 hb40
        have zq40 := blk_up zq39 hb40
        dsimp only
        refine hK.out _ _ hS40 (fun hHeld => ?_)
        clear hK K
        try simp only [Act.put, List.setIfInBounds_toArray, List.set_cons_zero, List.set_cons_succ, List.getElem_toArray, List.getElem_cons_zero, List.getElem_cons_succ]
        refine wpAnyH_ready (rs := [3]) (by kernel_rfl) (by simp) ?_
        refine (AllReadyH.cons rfl (fun K hK => ?_) AllReadyH.nil)
        go_simp
        go_at_call 31
        with_reducible refine (C2 _ (by with_reducible assumption)).mono ?_
        rintro e wv41 ⟨rfl, hb41⟩
        have hS41 : Below w1.heap.size w1 wv41 := bchain (by with_reducible assumption) hb41
        have zp41 := blk_up zp40 hb41
        have zq41 := blk_up zq40 hb41
        dsimp only
        refine hK.out _ _ hS41 (fun hHeld => ?_)
        clear hK K
        try simp only [Act.put, List.setIfInBounds_toArray, List.set_cons_zero, List.set_cons_succ, List.getElem_toArray, List.getElem_cons_zero, List.getElem_cons_succ]
        refine wpAnyH_ready (rs := [6]) (by kernel_rfl) (by simp) ?_
        refine (AllReadyH.cons rfl (fun K hK => ?_) AllReadyH.nil)
        have hst42 := ST1 wv41 pb29 zp41
        go_simp
        have hS42 : Below w1.heap.size w1 (wv41.setCells pb29 0 (cellsOf64 (ds S))) := below_cells lep29 _ _ _ hS41
        have zq42 := blk_put (show pb39 ≠ pb29 by omega) (cellsOf64 (ds S)) 0 _ zq41
        have zp42 := zero_over (Y := S) zp41
        refine hK.out _ _ hS42 (fun hHeld => ?_)
        clear hK K hst42
        try simp only [Act.put, List.setIfInBounds_toArray, List.set_cons_zero, List.set_cons_succ, List.getElem_toArray, List.getElem_cons_zero, List.getElem_cons_succ]
        generalize wv41.setCells pb29 0 (cellsOf64 (ds S)) = wv42 at *
        refine wpAnyH_ready (rs := [7]) (by kernel_rfl) (by simp) ?_
        refine (AllReadyH.cons rfl (fun K hK => ?_) AllReadyH.nil)
        have hst43 := ST2 wv42 pb39 zq42
        go_simp
        have hS43 : Below w1.heap.size w1 (wv42.setCells pb39 0 (cellsOf64 (ds T))) := below_cells leq39 _ _ _ hS42
        have zp43 := blk_put (show pb29 ≠ pb39 by omega) (cellsOf64 (ds T)) 0 _ zp42
        have zq43 := zero_over (Y := T) zq42
        refine hK.out _ _ hS43 (fun hHeld => ?_)
        clear hK K hst43
        try simp only [Act.put, List.setIfInBounds_toArray, List.set_cons_zero, List.set_cons_succ, List.getElem_toArray, List.getElem_cons_zero, List.getElem_cons_succ]
        generalize wv42.setCells pb39 0 (cellsOf64 (ds T)) = wv43 at *
        refine wpAnyH_done (by kernel_rfl) ?_ _
        go_wp2_with fail
        go_meet
        exact ⟨_, _, rfl, rfl, zp43, zq43, hS43⟩
    · have hb44 := (Below.refl v0.heap.size v0).alloc (Nat.le_refl _) (.cells #[.int .u64 0, .int .u64 0, .int .u64 0, .int .u64 0, .int .u64 0, .int .u64 0, .int .u64 0, .int .u64 0, .int .u64 0, .int .u64 0, .int .u64 0, .int .u64 0] 44)
      have hS44 : Below w1.heap.size w1 (v0.alloc (.cells #[.int .u64 0, .int .u64 0, .int .u64 0, .int .u64 0, .int .u64 0, .int .u64 0, .int .u64 0, .int .u64 0, .int .u64 0, .int .u64 0, .int .u64 0, .int .u64 0] 44)) := bchain hS0 hb44
      have leq44 := hS0.size
      have zq44 : BlkW (v0.alloc (.cells #[.int .u64 0, .int .u64 0, .int .u64 0, .int .u64 0, .int .u64 0, .int .u64 0, .int .u64 0, .int .u64 0, .int .u64 0, .int .u64 0, .int .u64 0, .int .u64 0] 44)) (v0.heap.size) 44 (List.replicate 12 0) := z12_new v0 44
      go_simp
      refine hK.out _ _ hS44 (fun hHeld => ?_)
      clear hK K
      try simp only [Act.put, List.setIfInBounds_toArray, List.set_cons_zero, List.set_cons_succ, List.getElem_toArray, List.getElem_cons_zero, List.getElem_cons_succ]
      generalize hv44 : v0.alloc (.cells #[.int .u64 0, .int .u64 0, .int .u64 0, .int .u64 0, .int .u64 0, .int .u64 0, .int .u64 0, .int .u64 0, .int .u64 0, .int .u64 0, .int .u64 0, .int .u64 0] 44) = wv44 at *
      generalize hbl44 : v0.heap.size = pb44 at *
      clear hb44
      refine wpAnyH_ready (rs := [1, 4]) (by kernel_rfl) (by simp) ?_
      refine (AllReadyH.cons rfl (fun K hK => ?_) (AllReadyH.cons rfl (fun K hK => ?_) AllReadyH.nil))
      · go_simp
        go_at_call 31
        with_reducible refine (C1 _ (by with_reducible assumption)).mono ?_
        rintro e wv45 ⟨rfl, hb45⟩
        have hS45 : Below w1.heap.size w1 wv45 := bchain (by with_reducible assumption) hb45
        have zq45 := blk_up zq44 hb45
        dsimp only
        refine hK.out _ _ hS45 (fun hHeld => ?_)
        clear hK K
        try simp only [Act.put, List.setIfInBounds_toArray, List.set_cons_zero, List.set_cons_succ, List.getElem_toArray, List.getElem_cons_zero, List.getElem_cons_succ]
        refine wpAnyH_ready (rs := [3, 4]) (by kernel_rfl) (by simp) ?_
        refine (AllReadyH.cons rfl (fun K hK => ?_) (AllReadyH.cons rfl (fun K hK => ?_) AllReadyH.nil))
        · go_simp
          go_at_call 31
          with_reducible refine (C2 _ (by with_reducible assumption)).mono ?_
          rintro e wv46 ⟨rfl, hb46⟩
          have hS46 : Below w1.heap.size w1 wv46 := bchain (by with_reducible assumption) hb46
          have zq46 := blk_up zq45 hb46
          dsimp only
          refine hK.out _ _ hS46 (fun hHeld => ?_)
          clear hK K
          try simp only [Act.put, List.setIfInBounds_toArray, List.set_cons_zero, List.set_cons_succ, List.getElem_toArray, List.getElem_cons_zero, List.getElem_cons_succ]
          refine wpAnyH_ready (rs := [4]) (by kernel_rfl) (by simp) ?_
          refine (AllReadyH.cons rfl (fun K hK => ?_) AllReadyH.nil)
          have hb47 := (Below.refl wv46.heap.size wv46).alloc (Nat.le_refl _) (.cells #[.int .u64 0, .int .u64 0, .int .u64 0, .int .u64 0, .int .u64 0, .int .u64 0, .int .u64 0, .int .u64 0, .int .u64 0, .int .u64 0, .int .u64 0, .int .u64 0] 44)
          have hS47 : Below w1.heap.size w1 (wv46.alloc (.cells #[.int .u64 0, .int .u64 0, .int .u64 0, .int .u64 0, .int .u64 0, .int .u64 0, .int .u64 0, .int .u64 0, .int .u64 0, .int .u64 0, .int .u64 0, .int .u64 0] 44)) := bchain hS46 hb47
          have lep47 := hS46.size
          have ltq47 := (zq46).size
          have zq47 := blk_up zq46 hb47
          have zp47 : BlkW (wv46.alloc (.cells #[.int .u64 0, .int .u64 0, .int .u64 0, .int .u64 0, .int .u64 0, .int .u64 0, .int .u64 0, .int .u64 0, .int .u64 0, .int .u64 0, .int .u64 0, .int .u64 0] 44)) (wv46.heap.size) 44 (List.replicate 12 0) := z12_new wv46 44
          go_simp
          refine hK.out _ _ hS47 (fun hHeld => ?_)
          clear hK K
          try simp only [Act.put, List.setIfInBounds_toArray, List.set_cons_zero, List.set_cons_succ, List.getElem_toArray, List.getElem_cons_zero, List.getElem_cons_succ]
          generalize hv47 : wv46.alloc (.cells #[.int .u64 0, .int .u64 0, .int .u64 0, .int .u64 0, .int .u64 0, .int .u64 0, .int .u64 0, .int .u64 0, .int .u64 0, .int .u64 0, .int .u64 0, .int .u64 0] 44) = wv47 at *
          generalize hbl47 : wv46.heap.size = pb47 at *
          clear hb47
          refine wpAnyH_ready (rs := [6]) (by kernel_rfl) (by simp) ?_
          refine (AllReadyH.cons rfl (fun K hK => ?_) AllReadyH.nil)
          have hst48 := ST1 wv47 pb47 zp47
          go_simp
          have hS48 : Below w1.heap.size w1 (wv47.setCells pb47 0 (cellsOf64 (ds S))) := below_cells lep47 _ _ _ hS47
          have zq48 := blk_put (show pb44 ≠ pb47 by omega) (cellsOf64 (ds S)) 0 _ zq47
          have zp48 := zero_over (Y := S) zp47
          refine hK.out _ _ hS48 (fun hHeld => ?_)
          clear hK K hst48
          try simp only [Act.put, List.setIfInBounds_toArray, List.set_cons_zero, List.set_cons_succ, List.getElem_toArray, List.getElem_cons_zero, List.getElem_cons_succ]
          generalize wv47.setCells pb47 0 (cellsOf64 (ds S)) = wv48 at *
          refine wpAnyH_ready (rs := [7]) (by kernel_rfl) (by simp) ?_
          refine (AllReadyH.cons rfl (fun K hK => ?_) AllReadyH.nil)
          have hst49 := ST2 wv48 pb44 zq48
          go_simp
          have hS49 : Below w1.heap.size w1 (wv48.setCells pb44 0 (cellsOf64 (ds T))) := below_cells leq44 _ _ _ hS48
          have zp49 := blk_put (show pb47 ≠ pb44 by omega) (cellsOf64 (ds T)) 0 _ zp48
          have zq49 := zero_over (Y := T) zq48
          refine hK.out _ _ hS49 (fun hHeld => ?_)
          clear hK K hst49
          try simp only [Act.put, List.setIfInBounds_toArray, List.set_cons_zero, List.set_cons_succ, List.getElem_toArray, List.getElem_cons_zero, List.getElem_cons_succ]
          generalize wv48.setCells pb44 0 (cellsOf64 (ds T)) = wv49 at *
          refine wpAnyH_done (by kernel_rfl) ?_ _
          go_wp2_with fail
          go_meet
          exact ⟨_, _, rfl, rfl, zp49, zq49, hS49⟩
        · have hb50 := (Below.refl wv45.heap.size wv45).alloc (Nat.le_refl _) (.cells #[.int .u64 0, .int .u64 0, .int .u64 0, .int .u64 0, .int .u64 0, .int .u64 0, .int .u64 0, .int .u64 0, .int .u64 0, .int .u64 0, .int .u64 0, .int .u64 0] 44)
          have hS50 : Below w1.heap.size w1 (wv45.alloc (.cells #[.int .u64 0, .int .u64 0, .int .u64 0, .int .u64 0, .int .u64 0, .int .u64 0, .int .u64 0, .int .u64 0, .int .u64 0, .int .u64 0, .int .u64 0, .int .u64 0] 44)) := bchain hS45 hb50
          have lep50 := hS45.size
          have ltq50 := (zq45).size
          have zq50 := blk_up zq45 hb50
          have zp50 : BlkW (wv45.alloc (.cells #[.int .u64 0, .int .u64 0, .int .u64 0, .int .u64 0, .int .u64 0, .int .u64 0, .int .u64 0, .int .u64 0, .int .u64 0, .int .u64 0, .int .u64 0, .int .u64 0] 44)) (wv45.heap.size) 44 (List.replicate 12 0) := z12_new wv45 44
          go_simp
          refine hK.out _ _ hS50 (fun hHeld => ?_)
          clear hK K
          try simp only [Act.put, List.setIfInBounds_toArray, List.set_cons_zero, List.set_cons_succ, List.getElem_toArray, List.getElem_cons_zero, List.getElem_cons_succ]
          generalize hv50 : wv45.alloc (.cells #[.int .u64 0, .int .u64 0, .int .u64 0, .int .u64 0, .int .u64 0, .int .u64 0, .int .u64 0, .int .u64 0, .int .u64 0, .int .u64 0, .int .u64 0, .int .u64 0] 44) = wv50 at *
          generalize hbl50 : wv45.heap.size = pb50 at *
          clear hb50
          refine wpAnyH_ready (rs := [3]) (by kernel_rfl) (by simp) ?_
          refine (AllReadyH.cons rfl (fun K hK => ?_) AllReadyH.nil)
          go_simp
          go_at_call 31
          with_reducible refine (C2 _ (by with_reducible assumption)).mono ?_
          rintro e wv51 ⟨rfl, hb51⟩
          have hS51 : Below w1.heap.size w1 wv51 := bchain (by with_reducible assumption) hb51
          have zq51 := blk_up zq50 hb51
          have zp51 := blk_up zp50 hb51
          dsimp only
          refine hK.out _ _ hS51 (fun hHeld => ?_)
          clear hK K
          try simp only [Act.put, List.setIfInBounds_toArray, List.set_cons_zero, List.set_cons_succ, List.getElem_toArray, List.getElem_cons_zero, List.getElem_cons_succ]
          refine wpAnyH_ready (rs := [6]) (by kernel_rfl) (by simp) ?_
          refine (AllReadyH.cons rfl (fun K hK => ?_) AllReadyH.nil)
          have hst52 := ST1 wv51 pb50 zp51
          go_simp
          have hS52 : Below w1.heap.size w1 (wv51.setCells pb50 0 (cellsOf64 (ds S))) := below_cells lep50 _ _ _ hS51
          have zq52 := blk_put (show pb44 ≠ pb50 by omega) (cellsOf64 (ds S)) 0 _ zq51
          have zp52 := zero_over (Y := S) zp51
          refine hK.out _ _ hS52 (fun hHeld => ?_)
          clear hK K hst52
          try simp only [Act.put, List.setIfInBounds_toArray, List.set_cons_zero, List.set_cons_succ, List.getElem_toArray, List.getElem_cons_zero, List.getElem_cons_succ]
          generalize wv51.setCells pb50 0 (cellsOf64 (ds S)) = wv52 at *
          refine wpAnyH_ready (rs := [7]) (by kernel_rfl) (by simp) ?_
          refine (AllReadyH.cons rfl (fun K hK => ?_) AllReadyH.nil)
          have hst53 := ST2 wv52 pb44 zq52
          go_simp
          have hS53 : Below w1.heap.size w1 (wv52.setCells pb44 0 (cellsOf64 (ds T))) := below_cells leq44 _ _ _ hS52
          have zp53 := blk_put (show pb50 ≠ pb44 by omega) (cellsOf64 (ds T)) 0 _ zp52
          have zq53 := zero_over (Y := T) zq52
          refine hK.out _ _ hS53 (fun hHeld => ?_)
          clear hK K hst53
          try simp only [Act.put, List.setIfInBounds_toArray, List.set_cons_zero, List.set_cons_succ, List.getElem_toArray, List.getElem_cons_zero, List.getElem_cons_succ]
          generalize wv52.setCells pb44 0 (cellsOf64 (ds T)) = wv53 at *
          refine wpAnyH_done (by kernel_rfl) ?_ _
          go_wp2_with fail
          go_meet
          exact ⟨_, _, rfl, rfl, zp53, zq53, hS53⟩
      · have hb54 := (Below.refl wv44.heap.size wv44).alloc (Nat.le_refl _) (.cells #[.int .u64 0, .int .u64 0, .int .u64 0, .int .u64 0, .int .u64 0, .int .u64 0, .int .u64 0, .int .u64 0, .int .u64 0, .int .u64 0, .int .u64 0, .int .u64 0] 44)
        have hS54 : Below w1.heap.size w1 (wv44.alloc (.cells #[.int .u64 0, .int .u64 0, .int .u64 0, .int .u64 0, .int .u64 0, .int .u64 0, .int .u64 0, .int .u64 0, .int .u64 0, .int .u64 0, .int .u64 0, .int .u64 0] 44)) := bchain hS44 hb54
        have lep54 := hS44.size
        have ltq54 := (zq44).size
        have zq54 := blk_up zq44 hb54
        have zp54 : BlkW (wv44.alloc (.cells #[.int .u64 0, .int .u64 0, .int .u64 0, .int .u64 0, .int .u64 0, .int .u64 0, .int .u64 0, .int .u64 0, .int .u64 0, .int .u64 0, .int .u64 0, .int .u64 0] 44)) (wv44.heap.size) 44 (List.replicate 12 0) := z12_new wv44 44
        go_simp
        refine hK.out _ _ hS54 (fun hHeld => ?_)
        clear hK K
        try simp only [Act.put, List.setIfInBounds_toArray, List.set_cons_zero, List.set_cons_succ, List.getElem_toArray, List.getElem_cons_zero, List.getElem_cons_succ]
        generalize hv54 : wv44.alloc (.cells #[.int .u64 0, .int .u64 0, .int .u64 0, .int .u64 0, .int .u64 0, .int .u64 0, .int .u64 0, .int .u64 0, .int .u64 0, .int .u64 0, .int .u64 0, .int .u64 0] 44) = wv54 at *
        generalize hbl54 : wv44.heap.size = pb54 at *
        clear hb54
        refine wpAnyH_ready (rs := [1]) (by kernel_rfl) (by simp) ?_
        refine (AllReadyH.cons rfl (fun K hK => ?_) AllReadyH.nil)
        go_simp
        go_at_call 31
        with_reducible refine (C1 _ (by with_reducible assumption)).mono ?_
        rintro e wv55 ⟨rfl, hb55⟩
        have hS55 : Below w1.heap.size w1 wv55 := bchain (by with_reducible assumption) hb55
        have zq55 := blk_up zq54 hb55
        have zp55 := blk_up zp54 hb55
        dsimp only
        refine hK.out _ _ hS55 (fun hHeld => ?_)
        clear hK K
        try simp only [Act.put, List.setIfInBounds_toArray, List.set_cons_zero, List.set_cons_succ, List.getElem_toArray, List.getElem_cons_zero, List.getElem_cons_succ]
        refine wpAnyH_ready (rs := [3]) (by kernel_rfl) (by simp) ?_
        refine (AllReadyH.cons rfl (fun K hK => ?_) AllReadyH.nil)
        go_simp
        go_at_call 31
        with_reducible refine (C2 _ (by with_reducible assumption)).mono ?_
        rintro e wv56 ⟨rfl, hb56⟩
        have hS56 : Below w1.heap.size w1 wv56 := bchain (by with_reducible assumption) hb56
        have zq56 := blk_up zq55 hb56
        have zp56 := blk_up zp55 hb56
        dsimp only
        refine hK.out _ _ hS56 (fun hHeld => ?_)
        clear hK K
        try simp only [Act.put, List.setIfInBounds_toArray, List.set_cons_zero, List.set_cons_succ, List.getElem_toArray, List.getElem_cons_zero, List.getElem_cons_succ]
        refine wpAnyH_ready (rs := [6]) (by kernel_rfl) (by simp) ?_
        refine (AllReadyH.cons rfl (fun K hK => ?_) AllReadyH.nil)
        have hst57 := ST1 wv56 pb54 zp56
        go_simp
        have hS57 : Below w1.heap.size w1 (wv56.setCells pb54 0 (cellsOf64 (ds S))) := below_cells lep54 _ _ _ hS56
        have zq57 := blk_put (show pb44 ≠ pb54 by omega) (cellsOf64 (ds S)) 0 _ zq56
        have zp57 := zero_over (Y := S) zp56
        refine hK.out _ _ hS57 (fun hHeld => ?_)
        clear hK K hst57
        try simp only [Act.put, List.setIfInBounds_toArray, List.set_cons_zero, List.set_cons_succ, List.getElem_toArray, List.getElem_cons_zero, List.getElem_cons_succ]
        generalize wv56.setCells pb54 0 (cellsOf64 (ds S)) = wv57 at *
        refine wpAnyH_ready (rs := [7]) (by kernel_rfl) (by simp) ?_
        refine (AllReadyH.cons rfl (fun K hK => ?_) AllReadyH.nil)
        have hst58 := ST2 wv57 pb44 zq57
        go_simp
        have hS58 : Below w1.heap.size w1 (wv57.setCells pb44 0 (cellsOf64 (ds T))) := below_cells leq44 _ _ _ hS57
        have zp58 := blk_put (show pb54 ≠ pb44 by omega) (cellsOf64 (ds T)) 0 _ zp57
        have zq58 := zero_over (Y := T) zq57
        refine hK.out _ _ hS58 (fun hHeld => ?_)
        clear hK K hst58
        try simp only [Act.put, List.setIfInBounds_toArray, List.set_cons_zero, List.set_cons_succ, List.getElem_toArray, List.getElem_cons_zero, List.getElem_cons_succ]
        generalize wv57.setCells pb44 0 (cellsOf64 (ds T)) = wv58 at *
        refine wpAnyH_done (by kernel_rfl) ?_ _
        go_wp2_with fail
        go_meet
        exact ⟨_, _, rfl, rfl, zp58, zq58, hS58⟩
  case rest =>
    obtain ⟨p, q, rfl, rfl, hp, hq, hw⟩ := hcut
    obtain ⟨v1, hv1⟩ : ∃ v, v = wc := ⟨_, rfl⟩
    rw [← hv1] at hp hq hw ⊢
    clear hv1 hS0
    have HG1 := hid (HA.out.2.2.2.up hw)
    have HB1 := hid (bchain (hba ▸ HA.out.2.2.1) hw)
    have HP1 := hid hp
    have HQ1 := hid hq
    have LS : Hid (S < W12) := hid (by rw [HS.out]; exact Nat.lt_trans (Nat.mod_lt _ (by decide)) bigQ_lt)
    have LT : Hid (T < W12) := hid (by rw [HT.out]; exact Nat.lt_trans (Nat.mod_lt _ (by decide)) bigQ_lt)
    have QS : Hid (S < bigQ) := hid (by rw [HS.out]; exact Nat.mod_lt _ (by decide))
    have QT : Hid (T < bigQ) := hid (by rw [HT.out]; exact Nat.mod_lt _ (by decide))
    clear hp hq hw HA HX HY HS HT
    go_wp2_with fail
    refine (generator_c v1).mono ?_
    rintro e v2 ⟨rfl, b2⟩
    obtain ⟨v3, s3, x3, b3⟩ := layT v2 35 4
    have hl4 := dsc_len 4
    have b13 := bchain b2 b3
    have HF := hid x3
    have HP3 := hid (blk_up HP1.out b13)
    have HQ3 := hid (blk_up HQ1.out b13)
    have HG3 := hid (HG1.out.up b13)
    have HB3 := hid (bchain HB1.out b13)
    clear b2 b3 b13 x3 HP1 HQ1 HG1 HB1
    unfold num z12 at *
    go_wp2_with fail
    clear s3 hl4
    generalize v2.heap.size = b7 at *
    obtain ⟨x, hx⟩ : ∃ x, x = 4 ^ S % bigP := ⟨_, rfl⟩
    obtain ⟨y, hy⟩ : ∃ y, y = 4 ^ T % bigP := ⟨_, rfl⟩
    have HX := hid hx
    have HY := hid hy
    have LX : Hid (x < W12) := hid (by rw [hx]; exact Nat.lt_trans (Nat.mod_lt _ (by decide)) bigP_lt)
    have LY : Hid (y < W12) := hid (by rw [hy]; exact Nat.lt_trans (Nat.mod_lt _ (by decide)) bigP_lt)
    have PX : Hid (x < bigP) := hid (by rw [hx]; exact Nat.mod_lt _ (by decide))
    clear hx hy
    have hS0 : Below v3.heap.size v3 v3.drew := (Below.refl _ _).drew
    go_cut [8, 9] (fun s t wx => ∃ p q, s = .pointer (some ⟨p, 0, none⟩) ∧ t = .pointer (some ⟨q, 0, none⟩) ∧ BlkW wx p 35 (ds x) ∧ BlkW wx q 35 (ds y) ∧ Below v3.heap.size v3 wx)
    case first =>
      obtain ⟨n12, hn12⟩ : ∃ n : Nat, n = 12 := ⟨_, rfl⟩
      have L1 : ∀ v, Below v3.heap.size v3 v → (loadCellsFrom ⟨b7, 0, none⟩ 0 n12 #[]).run Tryd.prog v = .ok (cellsOf64 (ds 4)).toArray v := fun v h => by rw [hn12]; exact cells_numT (blk_up HF.out h)
      have L2 : ∀ v, Below v3.heap.size v3 v → (loadCellsFrom ⟨p, 0, none⟩ 0 n12 #[]).run Tryd.prog v = .ok (cellsOf64 (ds S)).toArray v := fun v h => by rw [hn12]; exact cells_numT (blk_up HP3.out h)
      have L3 : ∀ v, Below v3.heap.size v3 v → (loadCellsFrom ⟨q, 0, none⟩ 0 n12 #[]).run Tryd.prog v = .ok (cellsOf64 (ds T)).toArray v := fun v h => by rw [hn12]; exact cells_numT (blk_up HQ3.out h)
      have C1 : ∀ v, Below v3.heap.size v3 v → Calls Tryd.prog 30 #[.agg (cellsOf64 (ds 4)).toArray, .agg (cellsOf64 (ds S)).toArray] v fun e w' => e = .returned (.agg (cellsOf64 (ds x)).toArray) ∧ Below v.heap.size v w' := fun v h => by
        have := grExp_c 4 S v (by decide) LS.out (HG3.out.up h)
        rw [← HX.out] at this
        exact this
      have C2 : ∀ v, Below v3.heap.size v3 v → Calls Tryd.prog 30 #[.agg (cellsOf64 (ds 4)).toArray, .agg (cellsOf64 (ds T)).toArray] v fun e w' => e = .returned (.agg (cellsOf64 (ds y)).toArray) ∧ Below v.heap.size v w' := fun v h => by
        have := grExp_c 4 T v (by decide) LT.out (HG3.out.up h)
        rw [← HY.out] at this
        exact this
      have ST1 : ∀ v b, BlkW v b 35 (List.replicate 12 0) → (storeCells ⟨b, 0, none⟩ (cellsOf64 (ds x))).run Tryd.prog v = .ok () (v.setCells b 0 (cellsOf64 (ds x))) := fun v b h => (num_storedT h).1
      have ST2 : ∀ v b, BlkW v b 35 (List.replicate 12 0) → (storeCells ⟨b, 0, none⟩ (cellsOf64 (ds y))).run Tryd.prog v = .ok () (v.setCells b 0 (cellsOf64 (ds y))) := fun v b h => (num_storedT h).1
      have hl1 : (cellsOf64 (ds x)).length = n12 := by rw [hn12]; exact dsc_len x
      have hl2 : (cellsOf64 (ds y)).length = n12 := by rw [hn12]; exact dsc_len y
      have G1 := agg_el
      have G2 : ∀ v, (sizeOf 35).run Tryd.prog v = .ok n12 v := by rw [hn12]; exact size_el
      have G3 := agg_sc
      have G4 : ∀ v, (sizeOf 44).run Tryd.prog v = .ok n12 v := by rw [hn12]; exact size_sc
      have G5 : ∀ v, (zeroValue 35).run Tryd.prog v = .ok (.agg #[.int .u64 0, .int .u64 0, .int .u64 0, .int .u64 0, .int .u64 0, .int .u64 0, .int .u64 0, .int .u64 0, .int .u64 0, .int .u64 0, .int .u64 0, .int .u64 0]) v := fun v => by kernel_rfl
      have HM : Tryd.prog.follows .mixedOrders = true := by kernel_rfl
      have N1 := Tryd.call30
      clear hn12 HX HY LS LT LX LY HG3 HB3 HP3 HQ3 HF QS QT hba PX
      generalize cellsOf64 (ds 4) = c4 at *
      generalize Tryd.prog = P at C1 C2 ST1 ST2 L1 L2 L3 G1 G2 G3 G4 G5 HM N1 ⊢
      refine wp_region_held_drew (S := fun w' => Below v3.heap.size v3 w') HM hS0 (fun hHeld => ?_)
      generalize v3.drew = v0 at *
      refine wpAnyH_take (i := 0) (v := ?_) rfl (by kernel_rfl) (by kernel_rfl) (by kernel_rfl) (fun _ _ _ h => h) (Or.inl ⟨by rfl, fun v hv => ?_⟩) (by with_reducible assumption) ?_
      rotate_left
      · go_simp
        try with_reducible rfl
      simp only [Act.put, List.setIfInBounds_toArray, List.set_cons_zero, List.set_cons_succ, List.getElem_toArray, List.getElem_cons_zero, List.getElem_cons_succ]
      refine wpAnyH_take (i := 1) (v := ?_) rfl (by kernel_rfl) (by kernel_rfl) (by kernel_rfl) (fun _ _ _ h => h) (Or.inl ⟨by rfl, fun v hv => ?_⟩) (by with_reducible assumption) ?_
      rotate_left
      · go_simp
        try with_reducible rfl
      simp only [Act.put, List.setIfInBounds_toArray, List.set_cons_zero, List.set_cons_succ, List.getElem_toArray, List.getElem_cons_zero, List.getElem_cons_succ]
      refine wpAnyH_take (i := 3) (v := ?_) rfl (by kernel_rfl) (by kernel_rfl) (by kernel_rfl) (fun _ _ _ h => h) (Or.inl ⟨by rfl, fun v hv => ?_⟩) (by with_reducible assumption) ?_
      rotate_left
      · go_simp
        try with_reducible rfl
      simp only [Act.put, List.setIfInBounds_toArray, List.set_cons_zero, List.set_cons_succ, List.getElem_toArray, List.getElem_cons_zero, List.getElem_cons_succ]
      refine wpAnyH_take (i := 4) (v := ?_) rfl (by kernel_rfl) (by kernel_rfl) (by kernel_rfl) (fun _ _ _ h => h) (Or.inl ⟨by rfl, fun v hv => ?_⟩) (by with_reducible assumption) ?_
      rotate_left
      · go_simp
        try with_reducible rfl
      simp only [Act.put, List.setIfInBounds_toArray, List.set_cons_zero, List.set_cons_succ, List.getElem_toArray, List.getElem_cons_zero, List.getElem_cons_succ]
      refine wpAnyH_ready (rs := [2, 6, 7]) (by kernel_rfl) (by simp) ?_
      refine (AllReadyH.cons rfl (fun K hK => ?_) (AllReadyH.cons rfl (fun K hK => ?_) (AllReadyH.cons rfl (fun K hK => ?_) AllReadyH.nil)))
      · go_simp
        go_at_call 30
        with_reducible refine (C1 _ (by with_reducible assumption)).mono ?_
        rintro e wv1 ⟨rfl, hb1⟩
        have hS1 : Below v3.heap.size v3 wv1 := bchain (by with_reducible assumption) hb1
        dsimp only
        refine hK.out _ _ hS1 (fun hHeld => ?_)
        clear hK K
        try simp only [Act.put, List.setIfInBounds_toArray, List.set_cons_zero, List.set_cons_succ, List.getElem_toArray, List.getElem_cons_zero, List.getElem_cons_succ]
        refine wpAnyH_ready (rs := [5, 6, 7]) (by kernel_rfl) (by simp) ?_
        refine (AllReadyH.cons rfl (fun K hK => ?_) (AllReadyH.cons rfl (fun K hK => ?_) (AllReadyH.cons rfl (fun K hK => ?_) AllReadyH.nil)))
        · go_simp
          go_at_call 30
          with_reducible refine (C2 _ (by with_reducible assumption)).mono ?_
          rintro e wv2 ⟨rfl, hb2⟩
          have hS2 : Below v3.heap.size v3 wv2 := bchain (by with_reducible assumption) hb2
          dsimp only
          refine hK.out _ _ hS2 (fun hHeld => ?_)
          clear hK K
          try simp only [Act.put, List.setIfInBounds_toArray, List.set_cons_zero, List.set_cons_succ, List.getElem_toArray, List.getElem_cons_zero, List.getElem_cons_succ]
          refine wpAnyH_ready (rs := [6, 7]) (by kernel_rfl) (by simp) ?_
          refine (AllReadyH.cons rfl (fun K hK => ?_) (AllReadyH.cons rfl (fun K hK => ?_) AllReadyH.nil))
          · have hb3 := (Below.refl wv2.heap.size wv2).alloc (Nat.le_refl _) (.cells #[.int .u64 0, .int .u64 0, .int .u64 0, .int .u64 0, .int .u64 0, .int .u64 0, .int .u64 0, .int .u64 0, .int .u64 0, .int .u64 0, .int .u64 0, .int .u64 0] 35)
            have hS3 : Below v3.heap.size v3 (wv2.alloc (.cells #[.int .u64 0, .int .u64 0, .int .u64 0, .int .u64 0, .int .u64 0, .int .u64 0, .int .u64 0, .int .u64 0, .int .u64 0, .int .u64 0, .int .u64 0, .int .u64 0] 35)) := bchain hS2 hb3
            have lep3 := hS2.size
            have zp3 : BlkW (wv2.alloc (.cells #[.int .u64 0, .int .u64 0, .int .u64 0, .int .u64 0, .int .u64 0, .int .u64 0, .int .u64 0, .int .u64 0, .int .u64 0, .int .u64 0, .int .u64 0, .int .u64 0] 35)) (wv2.heap.size) 35 (List.replicate 12 0) := z12_new wv2 35
            go_simp
            refine hK.out _ _ hS3 (fun hHeld => ?_)
            clear hK K
            try simp only [Act.put, List.setIfInBounds_toArray, List.set_cons_zero, List.set_cons_succ, List.getElem_toArray, List.getElem_cons_zero, List.getElem_cons_succ]
            generalize hv3 : wv2.alloc (.cells #[.int .u64 0, .int .u64 0, .int .u64 0, .int .u64 0, .int .u64 0, .int .u64 0, .int .u64 0, .int .u64 0, .int .u64 0, .int .u64 0, .int .u64 0, .int .u64 0] 35) = wv3 at *
            generalize hbl3 : wv2.heap.size = pb3 at *
            clear hb3
            refine wpAnyH_ready (rs := [7]) (by kernel_rfl) (by simp) ?_
            refine (AllReadyH.cons rfl (fun K hK => ?_) AllReadyH.nil)
            have hb4 := (Below.refl wv3.heap.size wv3).alloc (Nat.le_refl _) (.cells #[.int .u64 0, .int .u64 0, .int .u64 0, .int .u64 0, .int .u64 0, .int .u64 0, .int .u64 0, .int .u64 0, .int .u64 0, .int .u64 0, .int .u64 0, .int .u64 0] 35)
            have hS4 : Below v3.heap.size v3 (wv3.alloc (.cells #[.int .u64 0, .int .u64 0, .int .u64 0, .int .u64 0, .int .u64 0, .int .u64 0, .int .u64 0, .int .u64 0, .int .u64 0, .int .u64 0, .int .u64 0, .int .u64 0] 35)) := bchain hS3 hb4
            have leq4 := hS3.size
            have ltp4 := (zp3).size
            have zp4 := blk_up zp3 hb4
            have zq4 : BlkW (wv3.alloc (.cells #[.int .u64 0, .int .u64 0, .int .u64 0, .int .u64 0, .int .u64 0, .int .u64 0, .int .u64 0, .int .u64 0, .int .u64 0, .int .u64 0, .int .u64 0, .int .u64 0] 35)) (wv3.heap.size) 35 (List.replicate 12 0) := z12_new wv3 35
            go_simp
            refine hK.out _ _ hS4 (fun hHeld => ?_)
            clear hK K
            try simp only [Act.put, List.setIfInBounds_toArray, List.set_cons_zero, List.set_cons_succ, List.getElem_toArray, List.getElem_cons_zero, List.getElem_cons_succ]
            generalize hv4 : wv3.alloc (.cells #[.int .u64 0, .int .u64 0, .int .u64 0, .int .u64 0, .int .u64 0, .int .u64 0, .int .u64 0, .int .u64 0, .int .u64 0, .int .u64 0, .int .u64 0, .int .u64 0] 35) = wv4 at *
            generalize hbl4 : wv3.heap.size = pb4 at *
            clear hb4
            refine wpAnyH_ready (rs := [8]) (by kernel_rfl) (by simp) ?_
            refine (AllReadyH.cons rfl (fun K hK => ?_) AllReadyH.nil)
            have hst5 := ST1 wv4 pb3 zp4
            go_simp
            have hS5 : Below v3.heap.size v3 (wv4.setCells pb3 0 (cellsOf64 (ds x))) := below_cells lep3 _ _ _ hS4
            have zq5 := blk_put (show pb4 ≠ pb3 by omega) (cellsOf64 (ds x)) 0 _ zq4
            have zp5 := zero_over (Y := x) zp4
            refine hK.out _ _ hS5 (fun hHeld => ?_)
            clear hK K hst5
            try simp only [Act.put, List.setIfInBounds_toArray, List.set_cons_zero, List.set_cons_succ, List.getElem_toArray, List.getElem_cons_zero, List.getElem_cons_succ]
            generalize wv4.setCells pb3 0 (cellsOf64 (ds x)) = wv5 at *
            refine wpAnyH_ready (rs := [9]) (by kernel_rfl) (by simp) ?_
            refine (AllReadyH.cons rfl (fun K hK => ?_) AllReadyH.nil)
            have hst6 := ST2 wv5 pb4 zq5
            go_simp
            have hS6 : Below v3.heap.size v3 (wv5.setCells pb4 0 (cellsOf64 (ds y))) := below_cells leq4 _ _ _ hS5
            have zp6 := blk_put (show pb3 ≠ pb4 by omega) (cellsOf64 (ds y)) 0 _ zp5
            have zq6 := zero_over (Y := y) zq5
            refine hK.out _ _ hS6 (fun hHeld => ?_)
            clear hK K hst6
            try simp only [Act.put, List.setIfInBounds_toArray, List.set_cons_zero, List.set_cons_succ, List.getElem_toArray, List.getElem_cons_zero, List.getElem_cons_succ]
            generalize wv5.setCells pb4 0 (cellsOf64 (ds y)) = wv6 at *
            refine wpAnyH_done (by kernel_rfl) ?_ _
            go_wp2_with fail
            go_meet
            exact ⟨_, _, rfl, rfl, zp6, zq6, hS6⟩
          · have hb7 := (Below.refl wv2.heap.size wv2).alloc (Nat.le_refl _) (.cells #[.int .u64 0, .int .u64 0, .int .u64 0, .int .u64 0, .int .u64 0, .int .u64 0, .int .u64 0, .int .u64 0, .int .u64 0, .int .u64 0, .int .u64 0, .int .u64 0] 35)
            have hS7 : Below v3.heap.size v3 (wv2.alloc (.cells #[.int .u64 0, .int .u64 0, .int .u64 0, .int .u64 0, .int .u64 0, .int .u64 0, .int .u64 0, .int .u64 0, .int .u64 0, .int .u64 0, .int .u64 0, .int .u64 0] 35)) := bchain hS2 hb7
            have leq7 := hS2.size
            have zq7 : BlkW (wv2.alloc (.cells #[.int .u64 0, .int .u64 0, .int .u64 0, .int .u64 0, .int .u64 0, .int .u64 0, .int .u64 0, .int .u64 0, .int .u64 0, .int .u64 0, .int .u64 0, .int .u64 0] 35)) (wv2.heap.size) 35 (List.replicate 12 0) := z12_new wv2 35
            go_simp
            refine hK.out _ _ hS7 (fun hHeld => ?_)
            clear hK K
            try simp only [Act.put, List.setIfInBounds_toArray, List.set_cons_zero, List.set_cons_succ, List.getElem_toArray, List.getElem_cons_zero, List.getElem_cons_succ]
            generalize hv7 : wv2.alloc (.cells #[.int .u64 0, .int .u64 0, .int .u64 0, .int .u64 0, .int .u64 0, .int .u64 0, .int .u64 0, .int .u64 0, .int .u64 0, .int .u64 0, .int .u64 0, .int .u64 0] 35) = wv7 at *
            generalize hbl7 : wv2.heap.size = pb7 at *
            clear hb7
            refine wpAnyH_ready (rs := [6]) (by kernel_rfl) (by simp) ?_
            refine (AllReadyH.cons rfl (fun K hK => ?_) AllReadyH.nil)
            have hb8 := (Below.refl wv7.heap.size wv7).alloc (Nat.le_refl _) (.cells #[.int .u64 0, .int .u64 0, .int .u64 0, .int .u64 0, .int .u64 0, .int .u64 0, .int .u64 0, .int .u64 0, .int .u64 0, .int .u64 0, .int .u64 0, .int .u64 0] 35)
            have hS8 : Below v3.heap.size v3 (wv7.alloc (.cells #[.int .u64 0, .int .u64 0, .int .u64 0, .int .u64 0, .int .u64 0, .int .u64 0, .int .u64 0, .int .u64 0, .int .u64 0, .int .u64 0, .int .u64 0, .int .u64 0] 35)) := bchain hS7 hb8
            have lep8 := hS7.size
            have ltq8 := (zq7).size
            have zq8 := blk_up zq7 hb8
            have zp8 : BlkW (wv7.alloc (.cells #[.int .u64 0, .int .u64 0, .int .u64 0, .int .u64 0, .int .u64 0, .int .u64 0, .int .u64 0, .int .u64 0, .int .u64 0, .int .u64 0, .int .u64 0, .int .u64 0] 35)) (wv7.heap.size) 35 (List.replicate 12 0) := z12_new wv7 35
            go_simp
            refine hK.out _ _ hS8 (fun hHeld => ?_)
            clear hK K
            try simp only [Act.put, List.setIfInBounds_toArray, List.set_cons_zero, List.set_cons_succ, List.getElem_toArray, List.getElem_cons_zero, List.getElem_cons_succ]
            generalize hv8 : wv7.alloc (.cells #[.int .u64 0, .int .u64 0, .int .u64 0, .int .u64 0, .int .u64 0, .int .u64 0, .int .u64 0, .int .u64 0, .int .u64 0, .int .u64 0, .int .u64 0, .int .u64 0] 35) = wv8 at *
            generalize hbl8 : wv7.heap.size = pb8 at *
            clear hb8
            refine wpAnyH_ready (rs := [8]) (by kernel_rfl) (by simp) ?_
            refine (AllReadyH.cons rfl (fun K hK => ?_) AllReadyH.nil)
            have hst9 := ST1 wv8 pb8 zp8
            go_simp
            have hS9 : Below v3.heap.size v3 (wv8.setCells pb8 0 (cellsOf64 (ds x))) := below_cells lep8 _ _ _ hS8
            have zq9 := blk_put (show pb7 ≠ pb8 by omega) (cellsOf64 (ds x)) 0 _ zq8
            have zp9 := zero_over (Y := x) zp8
            refine hK.out _ _ hS9 (fun hHeld => ?_)
            clear hK K hst9
            try simp only [Act.put, List.setIfInBounds_toArray, List.set_cons_zero, List.set_cons_succ, List.getElem_toArray, List.getElem_cons_zero, List.getElem_cons_succ]
            generalize wv8.setCells pb8 0 (cellsOf64 (ds x)) = wv9 at *
            refine wpAnyH_ready (rs := [9]) (by kernel_rfl) (by simp) ?_
            refine (AllReadyH.cons rfl (fun K hK => ?_) AllReadyH.nil)
            have hst10 := ST2 wv9 pb7 zq9
            go_simp
            have hS10 : Below v3.heap.size v3 (wv9.setCells pb7 0 (cellsOf64 (ds y))) := below_cells leq7 _ _ _ hS9
            have zp10 := blk_put (show pb8 ≠ pb7 by omega) (cellsOf64 (ds y)) 0 _ zp9
            have zq10 := zero_over (Y := y) zq9
            refine hK.out _ _ hS10 (fun hHeld => ?_)
            clear hK K hst10
            try simp only [Act.put, List.setIfInBounds_toArray, List.set_cons_zero, List.set_cons_succ, List.getElem_toArray, List.getElem_cons_zero, List.getElem_cons_succ]
            generalize wv9.setCells pb7 0 (cellsOf64 (ds y)) = wv10 at *
            refine wpAnyH_done (by kernel_rfl) ?_ _
            go_wp2_with fail
            go_meet
            exact ⟨_, _, rfl, rfl, zp10, zq10, hS10⟩
        · have hb11 := (Below.refl wv1.heap.size wv1).alloc (Nat.le_refl _) (.cells #[.int .u64 0, .int .u64 0, .int .u64 0, .int .u64 0, .int .u64 0, .int .u64 0, .int .u64 0, .int .u64 0, .int .u64 0, .int .u64 0, .int .u64 0, .int .u64 0] 35)
          have hS11 : Below v3.heap.size v3 (wv1.alloc (.cells #[.int .u64 0, .int .u64 0, .int .u64 0, .int .u64 0, .int .u64 0, .int .u64 0, .int .u64 0, .int .u64 0, .int .u64 0, .int .u64 0, .int .u64 0, .int .u64 0] 35)) := bchain hS1 hb11
          have lep11 := hS1.size
          have zp11 : BlkW (wv1.alloc (.cells #[.int .u64 0, .int .u64 0, .int .u64 0, .int .u64 0, .int .u64 0, .int .u64 0, .int .u64 0, .int .u64 0, .int .u64 0, .int .u64 0, .int .u64 0, .int .u64 0] 35)) (wv1.heap.size) 35 (List.replicate 12 0) := z12_new wv1 35
          go_simp
          refine hK.out _ _ hS11 (fun hHeld => ?_)
          clear hK K
          try simp only [Act.put, List.setIfInBounds_toArray, List.set_cons_zero, List.set_cons_succ, List.getElem_toArray, List.getElem_cons_zero, List.getElem_cons_succ]
          generalize hv11 : wv1.alloc (.cells #[.int .u64 0, .int .u64 0, .int .u64 0, .int .u64 0, .int .u64 0, .int .u64 0, .int .u64 0, .int .u64 0, .int .u64 0, .int .u64 0, .int .u64 0, .int .u64 0] 35) = wv11 at *
          generalize hbl11 : wv1.heap.size = pb11 at *
          clear hb11
          refine wpAnyH_ready (rs := [5, 7]) (by kernel_rfl) (by simp) ?_
          refine (AllReadyH.cons rfl (fun K hK => ?_) (AllReadyH.cons rfl (fun K hK => ?_) AllReadyH.nil))
          · go_simp
            go_at_call 30
            with_reducible refine (C2 _ (by with_reducible assumption)).mono ?_
            rintro e wv12 ⟨rfl, hb12⟩
            have hS12 : Below v3.heap.size v3 wv12 := bchain (by with_reducible assumption) hb12
            have zp12 := blk_up zp11 hb12
            dsimp only
            refine hK.out _ _ hS12 (fun hHeld => ?_)
            clear hK K
            try simp only [Act.put, List.setIfInBounds_toArray, List.set_cons_zero, List.set_cons_succ, List.getElem_toArray, List.getElem_cons_zero, List.getElem_cons_succ]
            refine wpAnyH_ready (rs := [7]) (by kernel_rfl) (by simp) ?_
            refine (AllReadyH.cons rfl (fun K hK => ?_) AllReadyH.nil)
            have hb13 := (Below.refl wv12.heap.size wv12).alloc (Nat.le_refl _) (.cells #[.int .u64 0, .int .u64 0, .int .u64 0, .int .u64 0, .int .u64 0, .int .u64 0, .int .u64 0, .int .u64 0, .int .u64 0, .int .u64 0, .int .u64 0, .int .u64 0] 35)
            have hS13 : Below v3.heap.size v3 (wv12.alloc (.cells #[.int .u64 0, .int .u64 0, .int .u64 0, .int .u64 0, .int .u64 0, .int .u64 0, .int .u64 0, .int .u64 0, .int .u64 0, .int .u64 0, .int .u64 0, .int .u64 0] 35)) := bchain hS12 hb13
            have leq13 := hS12.size
            have ltp13 := (zp12).size
            have zp13 := blk_up zp12 hb13
            have zq13 : BlkW (wv12.alloc (.cells #[.int .u64 0, .int .u64 0, .int .u64 0, .int .u64 0, .int .u64 0, .int .u64 0, .int .u64 0, .int .u64 0, .int .u64 0, .int .u64 0, .int .u64 0, .int .u64 0] 35)) (wv12.heap.size) 35 (List.replicate 12 0) := z12_new wv12 35
            go_simp
            refine hK.out _ _ hS13 (fun hHeld => ?_)
            clear hK K
            try simp only [Act.put, List.setIfInBounds_toArray, List.set_cons_zero, List.set_cons_succ, List.getElem_toArray, List.getElem_cons_zero, List.getElem_cons_succ]
            generalize hv13 : wv12.alloc (.cells #[.int .u64 0, .int .u64 0, .int .u64 0, .int .u64 0, .int .u64 0, .int .u64 0, .int .u64 0, .int .u64 0, .int .u64 0, .int .u64 0, .int .u64 0, .int .u64 0] 35) = wv13 at *
            generalize hbl13 : wv12.heap.size = pb13 at *
            clear hb13
            refine wpAnyH_ready (rs := [8]) (by kernel_rfl) (by simp) ?_
            refine (AllReadyH.cons rfl (fun K hK => ?_) AllReadyH.nil)
            have hst14 := ST1 wv13 pb11 zp13
            go_simp
            have hS14 : Below v3.heap.size v3 (wv13.setCells pb11 0 (cellsOf64 (ds x))) := below_cells lep11 _ _ _ hS13
            have zq14 := blk_put (show pb13 ≠ pb11 by omega) (cellsOf64 (ds x)) 0 _ zq13
            have zp14 := zero_over (Y := x) zp13
            refine hK.out _ _ hS14 (fun hHeld => ?_)
            clear hK K hst14
            try simp only [Act.put, List.setIfInBounds_toArray, List.set_cons_zero, List.set_cons_succ, List.getElem_toArray, List.getElem_cons_zero, List.getElem_cons_succ]
            generalize wv13.setCells pb11 0 (cellsOf64 (ds x)) = wv14 at *
            refine wpAnyH_ready (rs := [9]) (by kernel_rfl) (by simp) ?_
            refine (AllReadyH.cons rfl (fun K hK => ?_) AllReadyH.nil)
            have hst15 := ST2 wv14 pb13 zq14
            go_simp
            have hS15 : Below v3.heap.size v3 (wv14.setCells pb13 0 (cellsOf64 (ds y))) := below_cells leq13 _ _ _ hS14
            have zp15 := blk_put (show pb11 ≠ pb13 by omega) (cellsOf64 (ds y)) 0 _ zp14
            have zq15 := zero_over (Y := y) zq14
            refine hK.out _ _ hS15 (fun hHeld => ?_)
            clear hK K hst15
            try simp only [Act.put, List.setIfInBounds_toArray, List.set_cons_zero, List.set_cons_succ, List.getElem_toArray, List.getElem_cons_zero, List.getElem_cons_succ]
            generalize wv14.setCells pb13 0 (cellsOf64 (ds y)) = wv15 at *
            refine wpAnyH_done (by kernel_rfl) ?_ _
            go_wp2_with fail
            go_meet
            exact ⟨_, _, rfl, rfl, zp15, zq15, hS15⟩
          · have hb16 := (Below.refl wv11.heap.size wv11).alloc (Nat.le_refl _) (.cells #[.int .u64 0, .int .u64 0, .int .u64 0, .int .u64 0, .int .u64 0, .int .u64 0, .int .u64 0, .int .u64 0, .int .u64 0, .int .u64 0, .int .u64 0, .int .u64 0] 35)
            have hS16 : Below v3.heap.size v3 (wv11.alloc (.cells #[.int .u64 0, .int .u64 0, .int .u64 0, .int .u64 0, .int .u64 0, .int .u64 0, .int .u64 0, .int .u64 0, .int .u64 0, .int .u64 0, .int .u64 0, .int .u64 0] 35)) := bchain hS11 hb16
            have leq16 := hS11.size
            have ltp16 := (zp11).size
            have zp16 := blk_up zp11 hb16
            have zq16 : BlkW (wv11.alloc (.cells #[.int .u64 0, .int .u64 0, .int .u64 0, .int .u64 0, .int .u64 0, .int .u64 0, .int .u64 0, .int .u64 0, .int .u64 0, .int .u64 0, .int .u64 0, .int .u64 0] 35)) (wv11.heap.size) 35 (List.replicate 12 0) := z12_new wv11 35
            go_simp
            refine hK.out _ _ hS16 (fun hHeld => ?_)
            clear hK K
            try simp only [Act.put, List.setIfInBounds_toArray, List.set_cons_zero, List.set_cons_succ, List.getElem_toArray, List.getElem_cons_zero, List.getElem_cons_succ]
            generalize hv16 : wv11.alloc (.cells #[.int .u64 0, .int .u64 0, .int .u64 0, .int .u64 0, .int .u64 0, .int .u64 0, .int .u64 0, .int .u64 0, .int .u64 0, .int .u64 0, .int .u64 0, .int .u64 0] 35) = wv16 at *
            generalize hbl16 : wv11.heap.size = pb16 at *
            clear hb16
            refine wpAnyH_ready (rs := [5]) (by kernel_rfl) (by simp) ?_
            refine (AllReadyH.cons rfl (fun K hK => ?_) AllReadyH.nil)
            go_simp
            go_at_call 30
            with_reducible refine (C2 _ (by with_reducible assumption)).mono ?_
            rintro e wv17 ⟨rfl, hb17⟩
            have hS17 : Below v3.heap.size v3 wv17 := bchain (by with_reducible assumption) hb17
            have zp17 := blk_up zp16 hb17
            have zq17 := blk_up zq16 hb17
            dsimp only
            refine hK.out _ _ hS17 (fun hHeld => ?_)
            clear hK K
            try simp only [Act.put, List.setIfInBounds_toArray, List.set_cons_zero, List.set_cons_succ, List.getElem_toArray, List.getElem_cons_zero, List.getElem_cons_succ]
            refine wpAnyH_ready (rs := [8]) (by kernel_rfl) (by simp) ?_
            refine (AllReadyH.cons rfl (fun K hK => ?_) AllReadyH.nil)
            have hst18 := ST1 wv17 pb11 zp17
            go_simp
            have hS18 : Below v3.heap.size v3 (wv17.setCells pb11 0 (cellsOf64 (ds x))) := below_cells lep11 _ _ _ hS17
            have zq18 := blk_put (show pb16 ≠ pb11 by omega) (cellsOf64 (ds x)) 0 _ zq17
            have zp18 := zero_over (Y := x) zp17
            refine hK.out _ _ hS18 (fun hHeld => ?_)
            clear hK K hst18
            try simp only [Act.put, List.setIfInBounds_toArray, List.set_cons_zero, List.set_cons_succ, List.getElem_toArray, List.getElem_cons_zero, List.getElem_cons_succ]
            generalize wv17.setCells pb11 0 (cellsOf64 (ds x)) = wv18 at *
            refine wpAnyH_ready (rs := [9]) (by kernel_rfl) (by simp) ?_
            refine (AllReadyH.cons rfl (fun K hK => ?_) AllReadyH.nil)
            have hst19 := ST2 wv18 pb16 zq18
            go_simp
            have hS19 : Below v3.heap.size v3 (wv18.setCells pb16 0 (cellsOf64 (ds y))) := below_cells leq16 _ _ _ hS18
            have zp19 := blk_put (show pb11 ≠ pb16 by omega) (cellsOf64 (ds y)) 0 _ zp18
            have zq19 := zero_over (Y := y) zq18
            refine hK.out _ _ hS19 (fun hHeld => ?_)
            clear hK K hst19
            try simp only [Act.put, List.setIfInBounds_toArray, List.set_cons_zero, List.set_cons_succ, List.getElem_toArray, List.getElem_cons_zero, List.getElem_cons_succ]
            generalize wv18.setCells pb16 0 (cellsOf64 (ds y)) = wv19 at *
            refine wpAnyH_done (by kernel_rfl) ?_ _
            go_wp2_with fail
            go_meet
            exact ⟨_, _, rfl, rfl, zp19, zq19, hS19⟩
        · have hb20 := (Below.refl wv1.heap.size wv1).alloc (Nat.le_refl _) (.cells #[.int .u64 0, .int .u64 0, .int .u64 0, .int .u64 0, .int .u64 0, .int .u64 0, .int .u64 0, .int .u64 0, .int .u64 0, .int .u64 0, .int .u64 0, .int .u64 0] 35)
          have hS20 : Below v3.heap.size v3 (wv1.alloc (.cells #[.int .u64 0, .int .u64 0, .int .u64 0, .int .u64 0, .int .u64 0, .int .u64 0, .int .u64 0, .int .u64 0, .int .u64 0, .int .u64 0, .int .u64 0, .int .u64 0] 35)) := bchain hS1 hb20
          have leq20 := hS1.size
          have zq20 : BlkW (wv1.alloc (.cells #[.int .u64 0, .int .u64 0, .int .u64 0, .int .u64 0, .int .u64 0, .int .u64 0, .int .u64 0, .int .u64 0, .int .u64 0, .int .u64 0, .int .u64 0, .int .u64 0] 35)) (wv1.heap.size) 35 (List.replicate 12 0) := z12_new wv1 35
          go_simp
          refine hK.out _ _ hS20 (fun hHeld => ?_)
          clear hK K
          try simp only [Act.put, List.setIfInBounds_toArray, List.set_cons_zero, List.set_cons_succ, List.getElem_toArray, List.getElem_cons_zero, List.getElem_cons_succ]
          generalize hv20 : wv1.alloc (.cells #[.int .u64 0, .int .u64 0, .int .u64 0, .int .u64 0, .int .u64 0, .int .u64 0, .int .u64 0, .int .u64 0, .int .u64 0, .int .u64 0, .int .u64 0, .int .u64 0] 35) = wv20 at *
          generalize hbl20 : wv1.heap.size = pb20 at *
          clear hb20
          refine wpAnyH_ready (rs := [5, 6]) (by kernel_rfl) (by simp) ?_
          refine (AllReadyH.cons rfl (fun K hK => ?_) (AllReadyH.cons rfl (fun K hK => ?_) AllReadyH.nil))
          · go_simp
            go_at_call 30
            with_reducible refine (C2 _ (by with_reducible assumption)).mono ?_
            rintro e wv21 ⟨rfl, hb21⟩
            have hS21 : Below v3.heap.size v3 wv21 := bchain (by with_reducible assumption) hb21
            have zq21 := blk_up zq20 hb21
            dsimp only
            refine hK.out _ _ hS21 (fun hHeld => ?_)
            clear hK K
            try simp only [Act.put, List.setIfInBounds_toArray, List.set_cons_zero, List.set_cons_succ, List.getElem_toArray, List.getElem_cons_zero, List.getElem_cons_succ]
            refine wpAnyH_ready (rs := [6]) (by kernel_rfl) (by simp) ?_
            refine (AllReadyH.cons rfl (fun K hK => ?_) AllReadyH.nil)
            have hb22 := (Below.refl wv21.heap.size wv21).alloc (Nat.le_refl _) (.cells #[.int .u64 0, .int .u64 0, .int .u64 0, .int .u64 0, .int .u64 0, .int .u64 0, .int .u64 0, .int .u64 0, .int .u64 0, .int .u64 0, .int .u64 0, .int .u64 0] 35)
            have hS22 : Below v3.heap.size v3 (wv21.alloc (.cells #[.int .u64 0, .int .u64 0, .int .u64 0, .int .u64 0, .int .u64 0, .int .u64 0, .int .u64 0, .int .u64 0, .int .u64 0, .int .u64 0, .int .u64 0, .int .u64 0] 35)) := bchain hS21 hb22
            have lep22 := hS21.size
            have ltq22 := (zq21).size
            have zq22 := blk_up zq21 hb22
            have zp22 : BlkW (wv21.alloc (.cells #[.int .u64 0, .int .u64 0, .int .u64 0, .int .u64 0, .int .u64 0, .int .u64 0, .int .u64 0, .int .u64 0, .int .u64 0, .int .u64 0, .int .u64 0, .int .u64 0] 35)) (wv21.heap.size) 35 (List.replicate 12 0) := z12_new wv21 35
            go_simp
            refine hK.out _ _ hS22 (fun hHeld => ?_)
            clear hK K
            try simp only [Act.put, List.setIfInBounds_toArray, List.set_cons_zero, List.set_cons_succ, List.getElem_toArray, List.getElem_cons_zero, List.getElem_cons_succ]
            generalize hv22 : wv21.alloc (.cells #[.int .u64 0, .int .u64 0, .int .u64 0, .int .u64 0, .int .u64 0, .int .u64 0, .int .u64 0, .int .u64 0, .int .u64 0, .int .u64 0, .int .u64 0, .int .u64 0] 35) = wv22 at *
            generalize hbl22 : wv21.heap.size = pb22 at *
            clear hb22
            refine wpAnyH_ready (rs := [8]) (by kernel_rfl) (by simp) ?_
            refine (AllReadyH.cons rfl (fun K hK => ?_) AllReadyH.nil)
            have hst23 := ST1 wv22 pb22 zp22
            go_simp
            have hS23 : Below v3.heap.size v3 (wv22.setCells pb22 0 (cellsOf64 (ds x))) := below_cells lep22 _ _ _ hS22
            have zq23 := blk_put (show pb20 ≠ pb22 by omega) (cellsOf64 (ds x)) 0 _ zq22
            have zp23 := zero_over (Y := x) zp22
            refine hK.out _ _ hS23 (fun hHeld => ?_)
            clear hK K hst23
            try simp only [Act.put, List.setIfInBounds_toArray, List.set_cons_zero, List.set_cons_succ, List.getElem_toArray, List.getElem_cons_zero, List.getElem_cons_succ]
            generalize wv22.setCells pb22 0 (cellsOf64 (ds x)) = wv23 at *
            refine wpAnyH_ready (rs := [9]) (by kernel_rfl) (by simp) ?_
            refine (AllReadyH.cons rfl (fun K hK => ?_) AllReadyH.nil)
            have hst24 := ST2 wv23 pb20 zq23
            go_simp
            have hS24 : Below v3.heap.size v3 (wv23.setCells pb20 0 (cellsOf64 (ds y))) := below_cells leq20 _ _ _ hS23
            have zp24 := blk_put (show pb22 ≠ pb20 by omega) (cellsOf64 (ds y)) 0 _ zp23
            have zq24 := zero_over (Y := y) zq23
            refine hK.out _ _ hS24 (fun hHeld => ?_)
            clear hK K hst24
            try simp only [Act.put, List.setIfInBounds_toArray, List.set_cons_zero, List.set_cons_succ, List.getElem_toArray, List.getElem_cons_zero, List.getElem_cons_succ]
            generalize wv23.setCells pb20 0 (cellsOf64 (ds y)) = wv24 at *
            refine wpAnyH_done (by kernel_rfl) ?_ _
            go_wp2_with fail
            go_meet
            exact ⟨_, _, rfl, rfl, zp24, zq24, hS24⟩
          · have hb25 := (Below.refl wv20.heap.size wv20).alloc (Nat.le_refl _) (.cells #[.int .u64 0, .int .u64 0, .int .u64 0, .int .u64 0, .int .u64 0, .int .u64 0, .int .u64 0, .int .u64 0, .int .u64 0, .int .u64 0, .int .u64 0, .int .u64 0] 35)
            have hS25 : Below v3.heap.size v3 (wv20.alloc (.cells #[.int .u64 0, .int .u64 0, .int .u64 0, .int .u64 0, .int .u64 0, .int .u64 0, .int .u64 0, .int .u64 0, .int .u64 0, .int .u64 0, .int .u64 0, .int .u64 0] 35)) := bchain hS20 hb25
            have lep25 := hS20.size
            have ltq25 := (zq20).size
            have zq25 := blk_up zq20 hb25
            have zp25 : BlkW (wv20.alloc (.cells #[.int .u64 0, .int .u64 0, .int .u64 0, .int .u64 0, .int .u64 0, .int .u64 0, .int .u64 0, .int .u64 0, .int .u64 0, .int .u64 0, .int .u64 0, .int .u64 0] 35)) (wv20.heap.size) 35 (List.replicate 12 0) := z12_new wv20 35
            go_simp
            refine hK.out _ _ hS25 (fun hHeld => ?_)
            clear hK K
            try simp only [Act.put, List.setIfInBounds_toArray, List.set_cons_zero, List.set_cons_succ, List.getElem_toArray, List.getElem_cons_zero, List.getElem_cons_succ]
            generalize hv25 : wv20.alloc (.cells #[.int .u64 0, .int .u64 0, .int .u64 0, .int .u64 0, .int .u64 0, .int .u64 0, .int .u64 0, .int .u64 0, .int .u64 0, .int .u64 0, .int .u64 0, .int .u64 0] 35) = wv25 at *
            generalize hbl25 : wv20.heap.size = pb25 at *
            clear hb25
            refine wpAnyH_ready (rs := [5]) (by kernel_rfl) (by simp) ?_
            refine (AllReadyH.cons rfl (fun K hK => ?_) AllReadyH.nil)
            go_simp
            go_at_call 30
            with_reducible refine (C2 _ (by with_reducible assumption)).mono ?_
            rintro e wv26 ⟨rfl, hb26⟩
            have hS26 : Below v3.heap.size v3 wv26 := bchain (by with_reducible assumption) hb26
            have zq26 := blk_up zq25 hb26
            have zp26 := blk_up zp25 hb26
            dsimp only
            refine hK.out _ _ hS26 (fun hHeld => ?_)
            clear hK K
            try simp only [Act.put, List.setIfInBounds_toArray, List.set_cons_zero, List.set_cons_succ, List.getElem_toArray, List.getElem_cons_zero, List.getElem_cons_succ]
            refine wpAnyH_ready (rs := [8]) (by kernel_rfl) (by simp) ?_
            refine (AllReadyH.cons rfl (fun K hK => ?_) AllReadyH.nil)
            have hst27 := ST1 wv26 pb25 zp26
            go_simp
            have hS27 : Below v3.heap.size v3 (wv26.setCells pb25 0 (cellsOf64 (ds x))) := below_cells lep25 _ _ _ hS26
            have zq27 := blk_put (show pb20 ≠ pb25 by omega) (cellsOf64 (ds x)) 0 _ zq26
            have zp27 := zero_over (Y := x) zp26
            refine hK.out _ _ hS27 (fun hHeld => ?_)
            clear hK K hst27
            try simp only [Act.put, List.setIfInBounds_toArray, List.set_cons_zero, List.set_cons_succ, List.getElem_toArray, List.getElem_cons_zero, List.getElem_cons_succ]
            generalize wv26.setCells pb25 0 (cellsOf64 (ds x)) = wv27 at *
            refine wpAnyH_ready (rs := [9]) (by kernel_rfl) (by simp) ?_
            refine (AllReadyH.cons rfl (fun K hK => ?_) AllReadyH.nil)
            have hst28 := ST2 wv27 pb20 zq27
            go_simp
            have hS28 : Below v3.heap.size v3 (wv27.setCells pb20 0 (cellsOf64 (ds y))) := below_cells leq20 _ _ _ hS27
            have zp28 := blk_put (show pb25 ≠ pb20 by omega) (cellsOf64 (ds y)) 0 _ zp27
            have zq28 := zero_over (Y := y) zq27
            refine hK.out _ _ hS28 (fun hHeld => ?_)
            clear hK K hst28
            try simp only [Act.put, List.setIfInBounds_toArray, List.set_cons_zero, List.set_cons_succ, List.getElem_toArray, List.getElem_cons_zero, List.getElem_cons_succ]
            generalize wv27.setCells pb20 0 (cellsOf64 (ds y)) = wv28 at *
            refine wpAnyH_done (by kernel_rfl) ?_ _
            go_wp2_with fail
            go_meet
            exact ⟨_, _, rfl, rfl, zp28, zq28, hS28⟩
      · have hb29 := (Below.refl v0.heap.size v0).alloc (Nat.le_refl _) (.cells #[.int .u64 0, .int .u64 0, .int .u64 0, .int .u64 0, .int .u64 0, .int .u64 0, .int .u64 0, .int .u64 0, .int .u64 0, .int .u64 0, .int .u64 0, .int .u64 0] 35)
        have hS29 : Below v3.heap.size v3 (v0.alloc (.cells #[.int .u64 0, .int .u64 0, .int .u64 0, .int .u64 0, .int .u64 0, .int .u64 0, .int .u64 0, .int .u64 0, .int .u64 0, .int .u64 0, .int .u64 0, .int .u64 0] 35)) := bchain hS0 hb29
        have lep29 := hS0.size
        have zp29 : BlkW (v0.alloc (.cells #[.int .u64 0, .int .u64 0, .int .u64 0, .int .u64 0, .int .u64 0, .int .u64 0, .int .u64 0, .int .u64 0, .int .u64 0, .int .u64 0, .int .u64 0, .int .u64 0] 35)) (v0.heap.size) 35 (List.replicate 12 0) := z12_new v0 35
        go_simp
        refine hK.out _ _ hS29 (fun hHeld => ?_)
        clear hK K
        try simp only [Act.put, List.setIfInBounds_toArray, List.set_cons_zero, List.set_cons_succ, List.getElem_toArray, List.getElem_cons_zero, List.getElem_cons_succ]
        generalize hv29 : v0.alloc (.cells #[.int .u64 0, .int .u64 0, .int .u64 0, .int .u64 0, .int .u64 0, .int .u64 0, .int .u64 0, .int .u64 0, .int .u64 0, .int .u64 0, .int .u64 0, .int .u64 0] 35) = wv29 at *
        generalize hbl29 : v0.heap.size = pb29 at *
        clear hb29
        refine wpAnyH_ready (rs := [2, 7]) (by kernel_rfl) (by simp) ?_
        refine (AllReadyH.cons rfl (fun K hK => ?_) (AllReadyH.cons rfl (fun K hK => ?_) AllReadyH.nil))
        · go_simp
          go_at_call 30
          with_reducible refine (C1 _ (by with_reducible assumption)).mono ?_
          rintro e wv30 ⟨rfl, hb30⟩
          have hS30 : Below v3.heap.size v3 wv30 := bchain (by with_reducible assumption) hb30
          have zp30 := blk_up zp29 hb30
          dsimp only
          refine hK.out _ _ hS30 (fun hHeld => ?_)
          clear hK K
          try simp only [Act.put, List.setIfInBounds_toArray, List.set_cons_zero, List.set_cons_succ, List.getElem_toArray, List.getElem_cons_zero, List.getElem_cons_succ]
          refine wpAnyH_ready (rs := [5, 7]) (by kernel_rfl) (by simp) ?_
          refine (AllReadyH.cons rfl (fun K hK => ?_) (AllReadyH.cons rfl (fun K hK => ?_) AllReadyH.nil))
          · go_simp
            go_at_call 30
            with_reducible refine (C2 _ (by with_reducible assumption)).mono ?_
            rintro e wv31 ⟨rfl, hb31⟩
            have hS31 : Below v3.heap.size v3 wv31 := bchain (by with_reducible assumption) hb31
            have zp31 := blk_up zp30 hb31
            dsimp only
            refine hK.out _ _ hS31 (fun hHeld => ?_)
            clear hK K
            try simp only [Act.put, List.setIfInBounds_toArray, List.set_cons_zero, List.set_cons_succ, List.getElem_toArray, List.getElem_cons_zero, List.getElem_cons_succ]
            refine wpAnyH_ready (rs := [7]) (by kernel_rfl) (by simp) ?_
            refine (AllReadyH.cons rfl (fun K hK => ?_) AllReadyH.nil)
            have hb32 := (Below.refl wv31.heap.size wv31).alloc (Nat.le_refl _) (.cells #[.int .u64 0, .int .u64 0, .int .u64 0, .int .u64 0, .int .u64 0, .int .u64 0, .int .u64 0, .int .u64 0, .int .u64 0, .int .u64 0, .int .u64 0, .int .u64 0] 35)
            have hS32 : Below v3.heap.size v3 (wv31.alloc (.cells #[.int .u64 0, .int .u64 0, .int .u64 0, .int .u64 0, .int .u64 0, .int .u64 0, .int .u64 0, .int .u64 0, .int .u64 0, .int .u64 0, .int .u64 0, .int .u64 0] 35)) := bchain hS31 hb32
            have leq32 := hS31.size
            have ltp32 := (zp31).size
            have zp32 := blk_up zp31 hb32
            have zq32 : BlkW (wv31.alloc (.cells #[.int .u64 0, .int .u64 0, .int .u64 0, .int .u64 0, .int .u64 0, .int .u64 0, .int .u64 0, .int .u64 0, .int .u64 0, .int .u64 0, .int .u64 0, .int .u64 0] 35)) (wv31.heap.size) 35 (List.replicate 12 0) := z12_new wv31 35
            go_simp
            refine hK.out _ _ hS32 (fun hHeld => ?_)
            clear hK K
            try simp only [Act.put, List.setIfInBounds_toArray, List.set_cons_zero, List.set_cons_succ, List.getElem_toArray, List.getElem_cons_zero, List.getElem_cons_succ]
            generalize hv32 : wv31.alloc (.cells #[.int .u64 0, .int .u64 0, .int .u64 0, .int .u64 0, .int .u64 0, .int .u64 0, .int .u64 0, .int .u64 0, .int .u64 0, .int .u64 0, .int .u64 0, .int .u64 0] 35) = wv32 at *
            generalize hbl32 : wv31.heap.size = pb32 at *
            clear hb32
            refine wpAnyH_ready (rs := [8]) (by kernel_rfl) (by simp) ?_
            refine (AllReadyH.cons rfl (fun K hK => ?_) AllReadyH.nil)
            have hst33 := ST1 wv32 pb29 zp32
            go_simp
            have hS33 : Below v3.heap.size v3 (wv32.setCells pb29 0 (cellsOf64 (ds x))) := below_cells lep29 _ _ _ hS32
            have zq33 := blk_put (show pb32 ≠ pb29 by omega) (cellsOf64 (ds x)) 0 _ zq32
            have zp33 := zero_over (Y := x) zp32
            refine hK.out _ _ hS33 (fun hHeld => ?_)
            clear hK K hst33
            try simp only [Act.put, List.setIfInBounds_toArray, List.set_cons_zero, List.set_cons_succ, List.getElem_toArray, List.getElem_cons_zero, List.getElem_cons_succ]
            generalize wv32.setCells pb29 0 (cellsOf64 (ds x)) = wv33 at *
            refine wpAnyH_ready (rs := [9]) (by kernel_rfl) (by simp) ?_
            refine (AllReadyH.cons rfl (fun K hK => ?_) AllReadyH.nil)
            have hst34 := ST2 wv33 pb32 zq33
            go_simp
            have hS34 : Below v3.heap.size v3 (wv33.setCells pb32 0 (cellsOf64 (ds y))) := below_cells leq32 _ _ _ hS33
            have zp34 := blk_put (show pb29 ≠ pb32 by omega) (cellsOf64 (ds y)) 0 _ zp33
            have zq34 := zero_over (Y := y) zq33
            refine hK.out _ _ hS34 (fun hHeld => ?_)
            clear hK K hst34
            try simp only [Act.put, List.setIfInBounds_toArray, List.set_cons_zero, List.set_cons_succ, List.getElem_toArray, List.getElem_cons_zero, List.getElem_cons_succ]
            generalize wv33.setCells pb32 0 (cellsOf64 (ds y)) = wv34 at *
            refine wpAnyH_done (by kernel_rfl) ?_ _
            go_wp2_with fail
            go_meet
            exact ⟨_, _, rfl, rfl, zp34, zq34, hS34⟩
          · have hb35 := (Below.refl wv30.heap.size wv30).alloc (Nat.le_refl _) (.cells #[.int .u64 0, .int .u64 0, .int .u64 0, .int .u64 0, .int .u64 0, .int .u64 0, .int .u64 0, .int .u64 0, .int .u64 0, .int .u64 0, .int .u64 0, .int .u64 0] 35)
            have hS35 : Below v3.heap.size v3 (wv30.alloc (.cells #[.int .u64 0, .int .u64 0, .int .u64 0, .int .u64 0, .int .u64 0, .int .u64 0, .int .u64 0, .int .u64 0, .int .u64 0, .int .u64 0, .int .u64 0, .int .u64 0] 35)) := bchain hS30 hb35
            have leq35 := hS30.size
            have ltp35 := (zp30).size
            have zp35 := blk_up zp30 hb35
            have zq35 : BlkW (wv30.alloc (.cells #[.int .u64 0, .int .u64 0, .int .u64 0, .int .u64 0, .int .u64 0, .int .u64 0, .int .u64 0, .int .u64 0, .int .u64 0, .int .u64 0, .int .u64 0, .int .u64 0] 35)) (wv30.heap.size) 35 (List.replicate 12 0) := z12_new wv30 35
            go_simp
            refine hK.out _ _ hS35 (fun hHeld => ?_)
            clear hK K
            try simp only [Act.put, List.setIfInBounds_toArray, List.set_cons_zero, List.set_cons_succ, List.getElem_toArray, List.getElem_cons_zero, List.getElem_cons_succ]
            generalize hv35 : wv30.alloc (.cells #[.int .u64 0, .int .u64 0, .int .u64 0, .int .u64 0, .int .u64 0, .int .u64 0, .int .u64 0, .int .u64 0, .int .u64 0, .int .u64 0, .int .u64 0, .int .u64 0] 35) = wv35 at *
            generalize hbl35 : wv30.heap.size = pb35 at *
            clear hb35
            refine wpAnyH_ready (rs := [5]) (by kernel_rfl) (by simp) ?_
            refine (AllReadyH.cons rfl (fun K hK => ?_) AllReadyH.nil)
            go_simp
            go_at_call 30
            with_reducible refine (C2 _ (by with_reducible assumption)).mono ?_
            rintro e wv36 ⟨rfl, hb36⟩
            have hS36 : Below v3.heap.size v3 wv36 := bchain (by with_reducible assumption) hb36
            have zp36 := blk_up zp35 hb36
            have zq36 := blk_up zq35 hb36
            dsimp only
            refine hK.out _ _ hS36 (fun hHeld => ?_)
            clear hK K
            try simp only [Act.put, List.setIfInBounds_toArray, List.set_cons_zero, List.set_cons_succ, List.getElem_toArray, List.getElem_cons_zero, List.getElem_cons_succ]
            refine wpAnyH_ready (rs := [8]) (by kernel_rfl) (by simp) ?_
            refine (AllReadyH.cons rfl (fun K hK => ?_) AllReadyH.nil)
            have hst37 := ST1 wv36 pb29 zp36
            go_simp
            have hS37 : Below v3.heap.size v3 (wv36.setCells pb29 0 (cellsOf64 (ds x))) := below_cells lep29 _ _ _ hS36
            have zq37 := blk_put (show pb35 ≠ pb29 by omega) (cellsOf64 (ds x)) 0 _ zq36
            have zp37 := zero_over (Y := x) zp36
            refine hK.out _ _ hS37 (fun hHeld => ?_)
            clear hK K hst37
            try simp only [Act.put, List.setIfInBounds_toArray, List.set_cons_zero, List.set_cons_succ, List.getElem_toArray, List.getElem_cons_zero, List.getElem_cons_succ]
            generalize wv36.setCells pb29 0 (cellsOf64 (ds x)) = wv37 at *
            refine wpAnyH_ready (rs := [9]) (by kernel_rfl) (by simp) ?_
            refine (AllReadyH.cons rfl (fun K hK => ?_) AllReadyH.nil)
            have hst38 := ST2 wv37 pb35 zq37
            go_simp
            have hS38 : Below v3.heap.size v3 (wv37.setCells pb35 0 (cellsOf64 (ds y))) := below_cells leq35 _ _ _ hS37
            have zp38 := blk_put (show pb29 ≠ pb35 by omega) (cellsOf64 (ds y)) 0 _ zp37
            have zq38 := zero_over (Y := y) zq37
            refine hK.out _ _ hS38 (fun hHeld => ?_)
            clear hK K hst38
            try simp only [Act.put, List.setIfInBounds_toArray, List.set_cons_zero, List.set_cons_succ, List.getElem_toArray, List.getElem_cons_zero, List.getElem_cons_succ]
            generalize wv37.setCells pb35 0 (cellsOf64 (ds y)) = wv38 at *
            refine wpAnyH_done (by kernel_rfl) ?_ _
            go_wp2_with fail
            go_meet
            exact ⟨_, _, rfl, rfl, zp38, zq38, hS38⟩
        · have hb39 := (Below.refl wv29.heap.size wv29).alloc (Nat.le_refl _) (.cells #[.int .u64 0, .int .u64 0, .int .u64 0, .int .u64 0, .int .u64 0, .int .u64 0, .int .u64 0, .int .u64 0, .int .u64 0, .int .u64 0, .int .u64 0, .int .u64 0] 35)
          have hS39 : Below v3.heap.size v3 (wv29.alloc (.cells #[.int .u64 0, .int .u64 0, .int .u64 0, .int .u64 0, .int .u64 0, .int .u64 0, .int .u64 0, .int .u64 0, .int .u64 0, .int .u64 0, .int .u64 0, .int .u64 0] 35)) := bchain hS29 hb39
          have leq39 := hS29.size
          have ltp39 := (zp29).size
          have zp39 := blk_up zp29 hb39
          have zq39 : BlkW (wv29.alloc (.cells #[.int .u64 0, .int .u64 0, .int .u64 0, .int .u64 0, .int .u64 0, .int .u64 0, .int .u64 0, .int .u64 0, .int .u64 0, .int .u64 0, .int .u64 0, .int .u64 0] 35)) (wv29.heap.size) 35 (List.replicate 12 0) := z12_new wv29 35
          go_simp
          refine hK.out _ _ hS39 (fun hHeld => ?_)
          clear hK K
          try simp only [Act.put, List.setIfInBounds_toArray, List.set_cons_zero, List.set_cons_succ, List.getElem_toArray, List.getElem_cons_zero, List.getElem_cons_succ]
          generalize hv39 : wv29.alloc (.cells #[.int .u64 0, .int .u64 0, .int .u64 0, .int .u64 0, .int .u64 0, .int .u64 0, .int .u64 0, .int .u64 0, .int .u64 0, .int .u64 0, .int .u64 0, .int .u64 0] 35) = wv39 at *
          generalize hbl39 : wv29.heap.size = pb39 at *
          clear hb39
          refine wpAnyH_ready (rs := [2]) (by kernel_rfl) (by simp) ?_
          refine (AllReadyH.cons rfl (fun K hK => ?_) AllReadyH.nil)
          go_simp
          go_at_call 30
          with_reducible refine (C1 _ (by with_reducible assumption)).mono ?_
          rintro e wv40 ⟨rfl, hb40⟩
          have hS40 : Below v3.heap.size v3 wv40 := bchain (by with_reducible assumption) hb40
          have zp40 := blk_up zp39 hb40
          have zq40 := blk_up zq39 hb40
          dsimp only
          refine hK.out _ _ hS40 (fun hHeld => ?_)
          clear hK K
          try simp only [Act.put, List.setIfInBounds_toArray, List.set_cons_zero, List.set_cons_succ, List.getElem_toArray, List.getElem_cons_zero, List.getElem_cons_succ]
          refine wpAnyH_ready (rs := [5]) (by kernel_rfl) (by simp) ?_
          refine (AllReadyH.cons rfl (fun K hK => ?_) AllReadyH.nil)
          go_simp
          go_at_call 30
          with_reducible refine (C2 _ (by with_reducible assumption)).mono ?_
          rintro e wv41 ⟨rfl, hb41⟩
          have hS41 : Below v3.heap.size v3 wv41 := bchain (by with_reducible assumption) hb41
          have zp41 := blk_up zp40 hb41
          have zq41 := blk_up zq40 hb41
          dsimp only
          refine hK.out _ _ hS41 (fun hHeld => ?_)
          clear hK K
          try simp only [Act.put, List.setIfInBounds_toArray, List.set_cons_zero, List.set_cons_succ, List.getElem_toArray, List.getElem_cons_zero, List.getElem_cons_succ]
          refine wpAnyH_ready (rs := [8]) (by kernel_rfl) (by simp) ?_
          refine (AllReadyH.cons rfl (fun K hK => ?_) AllReadyH.nil)
          have hst42 := ST1 wv41 pb29 zp41
          go_simp
          have hS42 : Below v3.heap.size v3 (wv41.setCells pb29 0 (cellsOf64 (ds x))) := below_cells lep29 _ _ _ hS41
          have zq42 := blk_put (show pb39 ≠ pb29 by omega) (cellsOf64 (ds x)) 0 _ zq41
          have zp42 := zero_over (Y := x) zp41
          refine hK.out _ _ hS42 (fun hHeld => ?_)
          clear hK K hst42
          try simp only [Act.put, List.setIfInBounds_toArray, List.set_cons_zero, List.set_cons_succ, List.getElem_toArray, List.getElem_cons_zero, List.getElem_cons_succ]
          generalize wv41.setCells pb29 0 (cellsOf64 (ds x)) = wv42 at *
          refine wpAnyH_ready (rs := [9]) (by kernel_rfl) (by simp) ?_
          refine (AllReadyH.cons rfl (fun K hK => ?_) AllReadyH.nil)
          have hst43 := ST2 wv42 pb39 zq42
          go_simp
          have hS43 : Below v3.heap.size v3 (wv42.setCells pb39 0 (cellsOf64 (ds y))) := below_cells leq39 _ _ _ hS42
          have zp43 := blk_put (show pb29 ≠ pb39 by omega) (cellsOf64 (ds y)) 0 _ zp42
          have zq43 := zero_over (Y := y) zq42
          refine hK.out _ _ hS43 (fun hHeld => ?_)
          clear hK K hst43
          try simp only [Act.put, List.setIfInBounds_toArray, List.set_cons_zero, List.set_cons_succ, List.getElem_toArray, List.getElem_cons_zero, List.getElem_cons_succ]
          generalize wv42.setCells pb39 0 (cellsOf64 (ds y)) = wv43 at *
          refine wpAnyH_done (by kernel_rfl) ?_ _
          go_wp2_with fail
          go_meet
          exact ⟨_, _, rfl, rfl, zp43, zq43, hS43⟩
      · have hb44 := (Below.refl v0.heap.size v0).alloc (Nat.le_refl _) (.cells #[.int .u64 0, .int .u64 0, .int .u64 0, .int .u64 0, .int .u64 0, .int .u64 0, .int .u64 0, .int .u64 0, .int .u64 0, .int .u64 0, .int .u64 0, .int .u64 0] 35)
        have hS44 : Below v3.heap.size v3 (v0.alloc (.cells #[.int .u64 0, .int .u64 0, .int .u64 0, .int .u64 0, .int .u64 0, .int .u64 0, .int .u64 0, .int .u64 0, .int .u64 0, .int .u64 0, .int .u64 0, .int .u64 0] 35)) := bchain hS0 hb44
        have leq44 := hS0.size
        have zq44 : BlkW (v0.alloc (.cells #[.int .u64 0, .int .u64 0, .int .u64 0, .int .u64 0, .int .u64 0, .int .u64 0, .int .u64 0, .int .u64 0, .int .u64 0, .int .u64 0, .int .u64 0, .int .u64 0] 35)) (v0.heap.size) 35 (List.replicate 12 0) := z12_new v0 35
        go_simp
        refine hK.out _ _ hS44 (fun hHeld => ?_)
        clear hK K
        try simp only [Act.put, List.setIfInBounds_toArray, List.set_cons_zero, List.set_cons_succ, List.getElem_toArray, List.getElem_cons_zero, List.getElem_cons_succ]
        generalize hv44 : v0.alloc (.cells #[.int .u64 0, .int .u64 0, .int .u64 0, .int .u64 0, .int .u64 0, .int .u64 0, .int .u64 0, .int .u64 0, .int .u64 0, .int .u64 0, .int .u64 0, .int .u64 0] 35) = wv44 at *
        generalize hbl44 : v0.heap.size = pb44 at *
        clear hb44
        refine wpAnyH_ready (rs := [2, 6]) (by kernel_rfl) (by simp) ?_
        refine (AllReadyH.cons rfl (fun K hK => ?_) (AllReadyH.cons rfl (fun K hK => ?_) AllReadyH.nil))
        · go_simp
          go_at_call 30
          with_reducible refine (C1 _ (by with_reducible assumption)).mono ?_
          rintro e wv45 ⟨rfl, hb45⟩
          have hS45 : Below v3.heap.size v3 wv45 := bchain (by with_reducible assumption) hb45
          have zq45 := blk_up zq44 hb45
          dsimp only
          refine hK.out _ _ hS45 (fun hHeld => ?_)
          clear hK K
          try simp only [Act.put, List.setIfInBounds_toArray, List.set_cons_zero, List.set_cons_succ, List.getElem_toArray, List.getElem_cons_zero, List.getElem_cons_succ]
          refine wpAnyH_ready (rs := [5, 6]) (by kernel_rfl) (by simp) ?_
          refine (AllReadyH.cons rfl (fun K hK => ?_) (AllReadyH.cons rfl (fun K hK => ?_) AllReadyH.nil))
          · go_simp
            go_at_call 30
            with_reducible refine (C2 _ (by with_reducible assumption)).mono ?_
            rintro e wv46 ⟨rfl, hb46⟩
            have hS46 : Below v3.heap.size v3 wv46 := bchain (by with_reducible assumption) hb46
            have zq46 := blk_up zq45 hb46
            dsimp only
            refine hK.out _ _ hS46 (fun hHeld => ?_)
            clear hK K
            try simp only [Act.put, List.setIfInBounds_toArray, List.set_cons_zero, List.set_cons_succ, List.getElem_toArray, List.getElem_cons_zero, List.getElem_cons_succ]
            refine wpAnyH_ready (rs := [6]) (by kernel_rfl) (by simp) ?_
            refine (AllReadyH.cons rfl (fun K hK => ?_) AllReadyH.nil)
            have hb47 := (Below.refl wv46.heap.size wv46).alloc (Nat.le_refl _) (.cells #[.int .u64 0, .int .u64 0, .int .u64 0, .int .u64 0, .int .u64 0, .int .u64 0, .int .u64 0, .int .u64 0, .int .u64 0, .int .u64 0, .int .u64 0, .int .u64 0] 35)
            have hS47 : Below v3.heap.size v3 (wv46.alloc (.cells #[.int .u64 0, .int .u64 0, .int .u64 0, .int .u64 0, .int .u64 0, .int .u64 0, .int .u64 0, .int .u64 0, .int .u64 0, .int .u64 0, .int .u64 0, .int .u64 0] 35)) := bchain hS46 hb47
            have lep47 := hS46.size
            have ltq47 := (zq46).size
            have zq47 := blk_up zq46 hb47
            have zp47 : BlkW (wv46.alloc (.cells #[.int .u64 0, .int .u64 0, .int .u64 0, .int .u64 0, .int .u64 0, .int .u64 0, .int .u64 0, .int .u64 0, .int .u64 0, .int .u64 0, .int .u64 0, .int .u64 0] 35)) (wv46.heap.size) 35 (List.replicate 12 0) := z12_new wv46 35
            go_simp
            refine hK.out _ _ hS47 (fun hHeld => ?_)
            clear hK K
            try simp only [Act.put, List.setIfInBounds_toArray, List.set_cons_zero, List.set_cons_succ, List.getElem_toArray, List.getElem_cons_zero, List.getElem_cons_succ]
            generalize hv47 : wv46.alloc (.cells #[.int .u64 0, .int .u64 0, .int .u64 0, .int .u64 0, .int .u64 0, .int .u64 0, .int .u64 0, .int .u64 0, .int .u64 0, .int .u64 0, .int .u64 0, .int .u64 0] 35) = wv47 at *
            generalize hbl47 : wv46.heap.size = pb47 at *
            clear hb47
            refine wpAnyH_ready (rs := [8]) (by kernel_rfl) (by simp) ?_
            refine (AllReadyH.cons rfl (fun K hK => ?_) AllReadyH.nil)
            have hst48 := ST1 wv47 pb47 zp47
            go_simp
            have hS48 : Below v3.heap.size v3 (wv47.setCells pb47 0 (cellsOf64 (ds x))) := below_cells lep47 _ _ _ hS47
            have zq48 := blk_put (show pb44 ≠ pb47 by omega) (cellsOf64 (ds x)) 0 _ zq47
            have zp48 := zero_over (Y := x) zp47
            refine hK.out _ _ hS48 (fun hHeld => ?_)
            clear hK K hst48
            try simp only [Act.put, List.setIfInBounds_toArray, List.set_cons_zero, List.set_cons_succ, List.getElem_toArray, List.getElem_cons_zero, List.getElem_cons_succ]
            generalize wv47.setCells pb47 0 (cellsOf64 (ds x)) = wv48 at *
            refine wpAnyH_ready (rs := [9]) (by kernel_rfl) (by simp) ?_
            refine (AllReadyH.cons rfl (fun K hK => ?_) AllReadyH.nil)
            have hst49 := ST2 wv48 pb44 zq48
            go_simp
            have hS49 : Below v3.heap.size v3 (wv48.setCells pb44 0 (cellsOf64 (ds y))) := below_cells leq44 _ _ _ hS48
            have zp49 := blk_put (show pb47 ≠ pb44 by omega) (cellsOf64 (ds y)) 0 _ zp48
            have zq49 := zero_over (Y := y) zq48
            refine hK.out _ _ hS49 (fun hHeld => ?_)
            clear hK K hst49
            try simp only [Act.put, List.setIfInBounds_toArray, List.set_cons_zero, List.set_cons_succ, List.getElem_toArray, List.getElem_cons_zero, List.getElem_cons_succ]
            generalize wv48.setCells pb44 0 (cellsOf64 (ds y)) = wv49 at *
            refine wpAnyH_done (by kernel_rfl) ?_ _
            go_wp2_with fail
            go_meet
            exact ⟨_, _, rfl, rfl, zp49, zq49, hS49⟩
          · have hb50 := (Below.refl wv45.heap.size wv45).alloc (Nat.le_refl _) (.cells #[.int .u64 0, .int .u64 0, .int .u64 0, .int .u64 0, .int .u64 0, .int .u64 0, .int .u64 0, .int .u64 0, .int .u64 0, .int .u64 0, .int .u64 0, .int .u64 0] 35)
            have hS50 : Below v3.heap.size v3 (wv45.alloc (.cells #[.int .u64 0, .int .u64 0, .int .u64 0, .int .u64 0, .int .u64 0, .int .u64 0, .int .u64 0, .int .u64 0, .int .u64 0, .int .u64 0, .int .u64 0, .int .u64 0] 35)) := bchain hS45 hb50
            have lep50 := hS45.size
            have ltq50 := (zq45).size
            have zq50 := blk_up zq45 hb50
            have zp50 : BlkW (wv45.alloc (.cells #[.int .u64 0, .int .u64 0, .int .u64 0, .int .u64 0, .int .u64 0, .int .u64 0, .int .u64 0, .int .u64 0, .int .u64 0, .int .u64 0, .int .u64 0, .int .u64 0] 35)) (wv45.heap.size) 35 (List.replicate 12 0) := z12_new wv45 35
            go_simp
            refine hK.out _ _ hS50 (fun hHeld => ?_)
            clear hK K
            try simp only [Act.put, List.setIfInBounds_toArray, List.set_cons_zero, List.set_cons_succ, List.getElem_toArray, List.getElem_cons_zero, List.getElem_cons_succ]
            generalize hv50 : wv45.alloc (.cells #[.int .u64 0, .int .u64 0, .int .u64 0, .int .u64 0, .int .u64 0, .int .u64 0, .int .u64 0, .int .u64 0, .int .u64 0, .int .u64 0, .int .u64 0, .int .u64 0] 35) = wv50 at *
            generalize hbl50 : wv45.heap.size = pb50 at *
            clear hb50
            refine wpAnyH_ready (rs := [5]) (by kernel_rfl) (by simp) ?_
            refine (AllReadyH.cons rfl (fun K hK => ?_) AllReadyH.nil)
            go_simp
            go_at_call 30
            with_reducible refine (C2 _ (by with_reducible assumption)).mono ?_
            rintro e wv51 ⟨rfl, hb51⟩
            have hS51 : Below v3.heap.size v3 wv51 := bchain (by with_reducible assumption) hb51
            have zq51 := blk_up zq50 hb51
            have zp51 := blk_up zp50 hb51
            dsimp only
            refine hK.out _ _ hS51 (fun hHeld => ?_)
            clear hK K
            try simp only [Act.put, List.setIfInBounds_toArray, List.set_cons_zero, List.set_cons_succ, List.getElem_toArray, List.getElem_cons_zero, List.getElem_cons_succ]
            refine wpAnyH_ready (rs := [8]) (by kernel_rfl) (by simp) ?_
            refine (AllReadyH.cons rfl (fun K hK => ?_) AllReadyH.nil)
            have hst52 := ST1 wv51 pb50 zp51
            go_simp
            have hS52 : Below v3.heap.size v3 (wv51.setCells pb50 0 (cellsOf64 (ds x))) := below_cells lep50 _ _ _ hS51
            have zq52 := blk_put (show pb44 ≠ pb50 by omega) (cellsOf64 (ds x)) 0 _ zq51
            have zp52 := zero_over (Y := x) zp51
            refine hK.out _ _ hS52 (fun hHeld => ?_)
            clear hK K hst52
            try simp only [Act.put, List.setIfInBounds_toArray, List.set_cons_zero, List.set_cons_succ, List.getElem_toArray, List.getElem_cons_zero, List.getElem_cons_succ]
            generalize wv51.setCells pb50 0 (cellsOf64 (ds x)) = wv52 at *
            refine wpAnyH_ready (rs := [9]) (by kernel_rfl) (by simp) ?_
            refine (AllReadyH.cons rfl (fun K hK => ?_) AllReadyH.nil)
            have hst53 := ST2 wv52 pb44 zq52
            go_simp
            have hS53 : Below v3.heap.size v3 (wv52.setCells pb44 0 (cellsOf64 (ds y))) := below_cells leq44 _ _ _ hS52
            have zp53 := blk_put (show pb50 ≠ pb44 by omega) (cellsOf64 (ds y)) 0 _ zp52
            have zq53 := zero_over (Y := y) zq52
            refine hK.out _ _ hS53 (fun hHeld => ?_)
            clear hK K hst53
            try simp only [Act.put, List.setIfInBounds_toArray, List.set_cons_zero, List.set_cons_succ, List.getElem_toArray, List.getElem_cons_zero, List.getElem_cons_succ]
            generalize wv52.setCells pb44 0 (cellsOf64 (ds y)) = wv53 at *
            refine wpAnyH_done (by kernel_rfl) ?_ _
            go_wp2_with fail
            go_meet
            exact ⟨_, _, rfl, rfl, zp53, zq53, hS53⟩
        · have hb54 := (Below.refl wv44.heap.size wv44).alloc (Nat.le_refl _) (.cells #[.int .u64 0, .int .u64 0, .int .u64 0, .int .u64 0, .int .u64 0, .int .u64 0, .int .u64 0, .int .u64 0, .int .u64 0, .int .u64 0, .int .u64 0, .int .u64 0] 35)
          have hS54 : Below v3.heap.size v3 (wv44.alloc (.cells #[.int .u64 0, .int .u64 0, .int .u64 0, .int .u64 0, .int .u64 0, .int .u64 0, .int .u64 0, .int .u64 0, .int .u64 0, .int .u64 0, .int .u64 0, .int .u64 0] 35)) := bchain hS44 hb54
          have lep54 := hS44.size
          have ltq54 := (zq44).size
          have zq54 := blk_up zq44 hb54
          have zp54 : BlkW (wv44.alloc (.cells #[.int .u64 0, .int .u64 0, .int .u64 0, .int .u64 0, .int .u64 0, .int .u64 0, .int .u64 0, .int .u64 0, .int .u64 0, .int .u64 0, .int .u64 0, .int .u64 0] 35)) (wv44.heap.size) 35 (List.replicate 12 0) := z12_new wv44 35
          go_simp
          refine hK.out _ _ hS54 (fun hHeld => ?_)
          clear hK K
          try simp only [Act.put, List.setIfInBounds_toArray, List.set_cons_zero, List.set_cons_succ, List.getElem_toArray, List.getElem_cons_zero, List.getElem_cons_succ]
          generalize hv54 : wv44.alloc (.cells #[.int .u64 0, .int .u64 0, .int .u64 0, .int .u64 0, .int .u64 0, .int .u64 0, .int .u64 0, .int .u64 0, .int .u64 0, .int .u64 0, .int .u64 0, .int .u64 0] 35) = wv54 at *
          generalize hbl54 : wv44.heap.size = pb54 at *
          clear hb54
          refine wpAnyH_ready (rs := [2]) (by kernel_rfl) (by simp) ?_
          refine (AllReadyH.cons rfl (fun K hK => ?_) AllReadyH.nil)
          go_simp
          go_at_call 30
          with_reducible refine (C1 _ (by with_reducible assumption)).mono ?_
          rintro e wv55 ⟨rfl, hb55⟩
          have hS55 : Below v3.heap.size v3 wv55 := bchain (by with_reducible assumption) hb55
          have zq55 := blk_up zq54 hb55
          have zp55 := blk_up zp54 hb55
          dsimp only
          refine hK.out _ _ hS55 (fun hHeld => ?_)
          clear hK K
          try simp only [Act.put, List.setIfInBounds_toArray, List.set_cons_zero, List.set_cons_succ, List.getElem_toArray, List.getElem_cons_zero, List.getElem_cons_succ]
          refine wpAnyH_ready (rs := [5]) (by kernel_rfl) (by simp) ?_
          refine (AllReadyH.cons rfl (fun K hK => ?_) AllReadyH.nil)
          go_simp
          go_at_call 30
          with_reducible refine (C2 _ (by with_reducible assumption)).mono ?_
          rintro e wv56 ⟨rfl, hb56⟩
          have hS56 : Below v3.heap.size v3 wv56 := bchain (by with_reducible assumption) hb56
          have zq56 := blk_up zq55 hb56
          have zp56 := blk_up zp55 hb56
          dsimp only
          refine hK.out _ _ hS56 (fun hHeld => ?_)
          clear hK K
          try simp only [Act.put, List.setIfInBounds_toArray, List.set_cons_zero, List.set_cons_succ, List.getElem_toArray, List.getElem_cons_zero, List.getElem_cons_succ]
          refine wpAnyH_ready (rs := [8]) (by kernel_rfl) (by simp) ?_
          refine (AllReadyH.cons rfl (fun K hK => ?_) AllReadyH.nil)
          have hst57 := ST1 wv56 pb54 zp56
          go_simp
          have hS57 : Below v3.heap.size v3 (wv56.setCells pb54 0 (cellsOf64 (ds x))) := below_cells lep54 _ _ _ hS56
          have zq57 := blk_put (show pb44 ≠ pb54 by omega) (cellsOf64 (ds x)) 0 _ zq56
          have zp57 := zero_over (Y := x) zp56
          refine hK.out _ _ hS57 (fun hHeld => ?_)
          clear hK K hst57
          try simp only [Act.put, List.setIfInBounds_toArray, List.set_cons_zero, List.set_cons_succ, List.getElem_toArray, List.getElem_cons_zero, List.getElem_cons_succ]
          generalize wv56.setCells pb54 0 (cellsOf64 (ds x)) = wv57 at *
          refine wpAnyH_ready (rs := [9]) (by kernel_rfl) (by simp) ?_
          refine (AllReadyH.cons rfl (fun K hK => ?_) AllReadyH.nil)
          have hst58 := ST2 wv57 pb44 zq57
          go_simp
          have hS58 : Below v3.heap.size v3 (wv57.setCells pb44 0 (cellsOf64 (ds y))) := below_cells leq44 _ _ _ hS57
          have zp58 := blk_put (show pb54 ≠ pb44 by omega) (cellsOf64 (ds y)) 0 _ zp57
          have zq58 := zero_over (Y := y) zq57
          refine hK.out _ _ hS58 (fun hHeld => ?_)
          clear hK K hst58
          try simp only [Act.put, List.setIfInBounds_toArray, List.set_cons_zero, List.set_cons_succ, List.getElem_toArray, List.getElem_cons_zero, List.getElem_cons_succ]
          generalize wv57.setCells pb44 0 (cellsOf64 (ds y)) = wv58 at *
          refine wpAnyH_done (by kernel_rfl) ?_ _
          go_wp2_with fail
          go_meet
          exact ⟨_, _, rfl, rfl, zp58, zq58, hS58⟩
    case rest =>
      obtain ⟨b8, b9, rfl, rfl, hp, hq, hw⟩ := hcut
      obtain ⟨v4, hv4⟩ : ∃ v, v = wc := ⟨_, rfl⟩
      rw [← hv4] at hp hq hw ⊢
      clear hv4 hS0
      have HX4 := hid hp
      have HY4 := hid hq
      have HF4 := hid (blk_up HF.out hw)
      have HP4 := hid (blk_up HP3.out hw)
      have HQ4 := hid (blk_up HQ3.out hw)
      have HG4 := hid (HG3.out.up hw)
      have HB4 := hid (bchain HB3.out hw)
      clear hp hq hw HF HP3 HQ3 HG3 HB3
      have hS0 : Below v4.heap.size v4 v4.drew := (Below.refl _ _).drew
      go_wp2_with fail
      go_cut [65] (fun s wx => s = .bool false ∧ Below v4.heap.size v4 wx)
      case first =>
        obtain ⟨n12, hn12⟩ : ∃ n : Nat, n = 12 := ⟨_, rfl⟩
        obtain ⟨m1, hm1⟩ : ∃ m1, m1 = x * y % bigP := ⟨_, rfl⟩
        obtain ⟨a1, ha1⟩ : ∃ a1, a1 = (S + T) % bigQ := ⟨_, rfl⟩
        obtain ⟨z1, hz1⟩ : ∃ z1, z1 = x ^ T % bigP := ⟨_, rfl⟩
        obtain ⟨a2, ha2⟩ : ∃ a2, a2 = S * T % bigQ := ⟨_, rfl⟩
        have lm1 : m1 < W12 := by rw [hm1]; exact Nat.lt_trans (Nat.mod_lt _ (by decide)) bigP_lt
        have lz1 : z1 < W12 := by rw [hz1]; exact Nat.lt_trans (Nat.mod_lt _ (by decide)) bigP_lt
        have la1 : a1 < W12 := by rw [ha1]; exact Nat.lt_trans (Nat.mod_lt _ (by decide)) bigQ_lt
        have la2 : a2 < W12 := by rw [ha2]; exact Nat.lt_trans (Nat.mod_lt _ (by decide)) bigQ_lt
        have e1 : 4 ^ a1 % bigP = m1 := by rw [ha1, hm1, HX.out, HY.out]; exact law_add S T
        have e2 : y ^ S % bigP = z1 := by rw [hz1, HX.out, HY.out]; exact law_swap S T
        have e3 : 4 ^ a2 % bigP = z1 := by rw [ha2, hz1, HX.out]; exact law_mul S T
        have L1 : ∀ v, Below v4.heap.size v4 v → (loadCellsFrom ⟨b7, 0, none⟩ 0 n12 #[]).run Tryd.prog v = .ok (cellsOf64 (ds 4)).toArray v := fun v h => by rw [hn12]; exact cells_numT (blk_up HF4.out h)
        have L2 : ∀ v, Below v4.heap.size v4 v → (loadCellsFrom ⟨p, 0, none⟩ 0 n12 #[]).run Tryd.prog v = .ok (cellsOf64 (ds S)).toArray v := fun v h => by rw [hn12]; exact cells_numT (blk_up HP4.out h)
        have L3 : ∀ v, Below v4.heap.size v4 v → (loadCellsFrom ⟨q, 0, none⟩ 0 n12 #[]).run Tryd.prog v = .ok (cellsOf64 (ds T)).toArray v := fun v h => by rw [hn12]; exact cells_numT (blk_up HQ4.out h)
        have L4 : ∀ v, Below v4.heap.size v4 v → (loadCellsFrom ⟨b8, 0, none⟩ 0 n12 #[]).run Tryd.prog v = .ok (cellsOf64 (ds x)).toArray v := fun v h => by rw [hn12]; exact cells_numT (blk_up HX4.out h)
        have L5 : ∀ v, Below v4.heap.size v4 v → (loadCellsFrom ⟨b9, 0, none⟩ 0 n12 #[]).run Tryd.prog v = .ok (cellsOf64 (ds y)).toArray v := fun v h => by rw [hn12]; exact cells_numT (blk_up HY4.out h)
        have CMu : ∀ v, Below v4.heap.size v4 v → Calls Tryd.prog 29 #[.agg (cellsOf64 (ds x)).toArray, .agg (cellsOf64 (ds y)).toArray] v fun e w' => e = .returned (.agg (cellsOf64 (ds m1)).toArray) ∧ Below v.heap.size v w' := fun v h => by have := grMul_c x y v LX.out LY.out (HG4.out.up h); rw [← hm1] at this; exact this
        have CAd : ∀ v, Below v4.heap.size v4 v → Calls Tryd.prog 35 #[.agg (cellsOf64 (ds S)).toArray, .agg (cellsOf64 (ds T)).toArray] v fun e w' => e = .returned (.agg (cellsOf64 (ds a1)).toArray) ∧ Below v.heap.size v w' := fun v h => by have := scAdd_c S T v LS.out LT.out (HG4.out.up h); rw [← ha1] at this; exact this
        have CE1 : ∀ v, Below v4.heap.size v4 v → Calls Tryd.prog 30 #[.agg (cellsOf64 (ds 4)).toArray, .agg (cellsOf64 (ds a1)).toArray] v fun e w' => e = .returned (.agg (cellsOf64 (ds m1)).toArray) ∧ Below v.heap.size v w' := fun v h => by have := grExp_c 4 a1 v (by decide) la1 (HG4.out.up h); rw [e1] at this; exact this
        have CQ1 : ∀ v, Below v4.heap.size v4 v → Calls Tryd.prog 26 #[.agg (cellsOf64 (ds m1)).toArray, .agg (cellsOf64 (ds m1)).toArray] v fun e w' => e = .returned (.bool true) ∧ Below v.heap.size v w' := fun v h => by have := grEq_c m1 m1 v lm1 lm1; rw [decide_eq_true rfl] at this; exact this
        have CE2 : ∀ v, Below v4.heap.size v4 v → Calls Tryd.prog 30 #[.agg (cellsOf64 (ds x)).toArray, .agg (cellsOf64 (ds T)).toArray] v fun e w' => e = .returned (.agg (cellsOf64 (ds z1)).toArray) ∧ Below v.heap.size v w' := fun v h => by have := grExp_c x T v LX.out LT.out (HG4.out.up h); rw [← hz1] at this; exact this
        have CE3 : ∀ v, Below v4.heap.size v4 v → Calls Tryd.prog 30 #[.agg (cellsOf64 (ds y)).toArray, .agg (cellsOf64 (ds S)).toArray] v fun e w' => e = .returned (.agg (cellsOf64 (ds z1)).toArray) ∧ Below v.heap.size v w' := fun v h => by have := grExp_c y S v LY.out LS.out (HG4.out.up h); rw [e2] at this; exact this
        have CQ2 : ∀ v, Below v4.heap.size v4 v → Calls Tryd.prog 26 #[.agg (cellsOf64 (ds z1)).toArray, .agg (cellsOf64 (ds z1)).toArray] v fun e w' => e = .returned (.bool true) ∧ Below v.heap.size v w' := fun v h => by have := grEq_c z1 z1 v lz1 lz1; rw [decide_eq_true rfl] at this; exact this
        have CSM : ∀ v, Below v4.heap.size v4 v → Calls Tryd.prog 40 #[.agg (cellsOf64 (ds S)).toArray, .agg (cellsOf64 (ds T)).toArray] v fun e w' => e = .returned (.agg (cellsOf64 (ds a2)).toArray) ∧ Below v.heap.size v w' := fun v h => by have := scMul_c S T v LS.out LT.out (HG4.out.up h); rw [← ha2] at this; exact this
        have CE4 : ∀ v, Below v4.heap.size v4 v → Calls Tryd.prog 30 #[.agg (cellsOf64 (ds 4)).toArray, .agg (cellsOf64 (ds a2)).toArray] v fun e w' => e = .returned (.agg (cellsOf64 (ds z1)).toArray) ∧ Below v.heap.size v w' := fun v h => by have := grExp_c 4 a2 v (by decide) la2 (HG4.out.up h); rw [e3] at this; exact this
        have COn : ∀ v, Below v4.heap.size v4 v → Calls Tryd.prog 33 #[] v fun e w' => e = .returned (.agg (cellsOf64 (ds 1)).toArray) ∧ Below v.heap.size v w' := fun v h => one_c v
        have CMx : ∀ v, Below v4.heap.size v4 v → Calls Tryd.prog 29 #[.agg (cellsOf64 (ds x)).toArray, .agg (cellsOf64 (ds 1)).toArray] v fun e w' => e = .returned (.agg (cellsOf64 (ds x)).toArray) ∧ Below v.heap.size v w' := fun v h => by have := grMul_c x 1 v LX.out (by decide) (HG4.out.up h); rw [Nat.mul_one, Nat.mod_eq_of_lt PX.out] at this; exact this
        have CQx : ∀ v, Below v4.heap.size v4 v → Calls Tryd.prog 26 #[.agg (cellsOf64 (ds x)).toArray, .agg (cellsOf64 (ds x)).toArray] v fun e w' => e = .returned (.bool true) ∧ Below v.heap.size v w' := fun v h => by have := grEq_c x x v LX.out LX.out; rw [decide_eq_true rfl] at this; exact this
        have G1 := agg_el
        have G2 : ∀ v, (sizeOf 35).run Tryd.prog v = .ok n12 v := by rw [hn12]; exact size_el
        have G3 := agg_sc
        have G4 : ∀ v, (sizeOf 44).run Tryd.prog v = .ok n12 v := by rw [hn12]; exact size_sc
        have HM : Tryd.prog.follows .mixedOrders = true := by kernel_rfl
        have N1 := Tryd.call30
        have N2 := Tryd.call29
        have N3 := Tryd.call26
        have N4 := Tryd.call35
        have N5 := Tryd.call40
        have N6 := Tryd.call33
        clear hn12 hm1 ha1 hz1 ha2 lm1 lz1 la1 la2 e1 e2 e3 HX HY LS LT LX LY HG4 HB4 HP4 HQ4 HF4 HX4 HY4 QS QT hba PX
        generalize cellsOf64 (ds 4) = c4 at *
        generalize cellsOf64 (ds 1) = c1 at *
        generalize Tryd.prog = P at CMu CAd CE1 CQ1 CE2 CE3 CQ2 CSM CE4 COn CMx CQx L1 L2 L3 L4 L5 G1 G2 G3 G4 HM N1 N2 N3 N4 N5 N6 ⊢
        refine wp_region_held_drew (S := fun w' => Below v4.heap.size v4 w') HM hS0 (fun hHeld => ?_)
        generalize v4.drew = v0 at *
        refine wpAnyH_take (i := 0) (v := ?_) rfl (by kernel_rfl) (by kernel_rfl) (by kernel_rfl) (fun _ _ _ h => h) (Or.inl ⟨by rfl, fun v hv => ?_⟩) (by with_reducible assumption) ?_
        rotate_left
        · go_simp
          try with_reducible rfl
        simp only [Act.put, List.setIfInBounds_toArray, List.set_cons_zero, List.set_cons_succ, List.getElem_toArray, List.getElem_cons_zero, List.getElem_cons_succ]
        refine wpAnyH_take (i := 1) (v := ?_) rfl (by kernel_rfl) (by kernel_rfl) (by kernel_rfl) (fun _ _ _ h => h) (Or.inl ⟨by rfl, fun v hv => ?_⟩) (by with_reducible assumption) ?_
        rotate_left
        · go_simp
          try with_reducible rfl
        simp only [Act.put, List.setIfInBounds_toArray, List.set_cons_zero, List.set_cons_succ, List.getElem_toArray, List.getElem_cons_zero, List.getElem_cons_succ]
        refine wpAnyH_take (i := 3) (v := ?_) rfl (by kernel_rfl) (by kernel_rfl) (by kernel_rfl) (fun _ _ _ h => h) (Or.inl ⟨by rfl, fun v hv => ?_⟩) (by with_reducible assumption) ?_
        rotate_left
        · go_simp
          try with_reducible rfl
        simp only [Act.put, List.setIfInBounds_toArray, List.set_cons_zero, List.set_cons_succ, List.getElem_toArray, List.getElem_cons_zero, List.getElem_cons_succ]
        refine wpAnyH_take (i := 4) (v := ?_) rfl (by kernel_rfl) (by kernel_rfl) (by kernel_rfl) (fun _ _ _ h => h) (Or.inl ⟨by rfl, fun v hv => ?_⟩) (by with_reducible assumption) ?_
        rotate_left
        · go_simp
          try with_reducible rfl
        simp only [Act.put, List.setIfInBounds_toArray, List.set_cons_zero, List.set_cons_succ, List.getElem_toArray, List.getElem_cons_zero, List.getElem_cons_succ]
        refine wpAnyH_take (i := 5) (v := ?_) rfl (by kernel_rfl) (by kernel_rfl) (by kernel_rfl) (fun _ _ _ h => h) (Or.inl ⟨by rfl, fun v hv => ?_⟩) (by with_reducible assumption) ?_
        rotate_left
        · go_simp
          try with_reducible rfl
        simp only [Act.put, List.setIfInBounds_toArray, List.set_cons_zero, List.set_cons_succ, List.getElem_toArray, List.getElem_cons_zero, List.getElem_cons_succ]
        refine wpAnyH_ready (rs := [2]) (by kernel_rfl) (by simp) ?_
        refine (AllReadyH.cons rfl (fun K hK => ?_) AllReadyH.nil)
        go_simp
        go_at_call 29
        with_reducible refine (CMu _ (by with_reducible assumption)).mono ?_
        rintro e wv1 ⟨rfl, hb1⟩
        have hS1 : Below v4.heap.size v4 wv1 := bchain (by with_reducible assumption) hb1
        dsimp only
        refine hK.out _ _ hS1 (fun hHeld => ?_)
        clear hK K
        try simp only [Act.put, List.setIfInBounds_toArray, List.set_cons_zero, List.set_cons_succ, List.getElem_toArray, List.getElem_cons_zero, List.getElem_cons_succ]
        refine wpAnyH_ready (rs := [6]) (by kernel_rfl) (by simp) ?_
        refine (AllReadyH.cons rfl (fun K hK => ?_) AllReadyH.nil)
        go_simp
        go_at_call 35
        with_reducible refine (CAd _ (by with_reducible assumption)).mono ?_
        rintro e wv2 ⟨rfl, hb2⟩
        have hS2 : Below v4.heap.size v4 wv2 := bchain (by with_reducible assumption) hb2
        dsimp only
        refine hK.out _ _ hS2 (fun hHeld => ?_)
        clear hK K
        try simp only [Act.put, List.setIfInBounds_toArray, List.set_cons_zero, List.set_cons_succ, List.getElem_toArray, List.getElem_cons_zero, List.getElem_cons_succ]
        refine wpAnyH_ready (rs := [7]) (by kernel_rfl) (by simp) ?_
        refine (AllReadyH.cons rfl (fun K hK => ?_) AllReadyH.nil)
        go_simp
        go_at_call 30
        with_reducible refine (CE1 _ (by with_reducible assumption)).mono ?_
        rintro e wv3 ⟨rfl, hb3⟩
        have hS3 : Below v4.heap.size v4 wv3 := bchain (by with_reducible assumption) hb3
        dsimp only
        refine hK.out _ _ hS3 (fun hHeld => ?_)
        clear hK K
        try simp only [Act.put, List.setIfInBounds_toArray, List.set_cons_zero, List.set_cons_succ, List.getElem_toArray, List.getElem_cons_zero, List.getElem_cons_succ]
        refine wpAnyH_ready (rs := [8]) (by kernel_rfl) (by simp) ?_
        refine (AllReadyH.cons rfl (fun K hK => ?_) AllReadyH.nil)
        go_simp
        go_at_call 26
        with_reducible refine (CQ1 _ (by with_reducible assumption)).mono ?_
        rintro e wv4 ⟨rfl, hb4⟩
        have hS4 : Below v4.heap.size v4 wv4 := bchain (by with_reducible assumption) hb4
        dsimp only
        refine hK.out _ _ hS4 (fun hHeld => ?_)
        clear hK K
        try simp only [Act.put, List.setIfInBounds_toArray, List.set_cons_zero, List.set_cons_succ, List.getElem_toArray, List.getElem_cons_zero, List.getElem_cons_succ]
        refine wpAnyH_take (i := 9) (v := ?_) rfl (by kernel_rfl) (by kernel_rfl) (by kernel_rfl) (fun _ _ _ h => h) (Or.inl ⟨by rfl, fun v hv => ?_⟩) (by with_reducible assumption) ?_
        rotate_left
        · go_simp
          try with_reducible rfl
        simp only [Act.put, List.setIfInBounds_toArray, List.set_cons_zero, List.set_cons_succ, List.getElem_toArray, List.getElem_cons_zero, List.getElem_cons_succ]
        refine wpAnyH_take (i := 10) (v := ?_) rfl (by kernel_rfl) (by kernel_rfl) (by kernel_rfl) (fun _ _ _ h => h) (Or.inl ⟨by rfl, fun v hv => ?_⟩) (by with_reducible assumption) ?_
        rotate_left
        · go_simp
          try with_reducible rfl
        simp only [Act.put, List.setIfInBounds_toArray, List.set_cons_zero, List.set_cons_succ, List.getElem_toArray, List.getElem_cons_zero, List.getElem_cons_succ]
        refine wpAnyH_take (i := 11) (v := ?_) rfl (by kernel_rfl) (by kernel_rfl) (by kernel_rfl) (fun _ _ _ h => h) (Or.inl ⟨by rfl, fun v hv => ?_⟩) (by with_reducible assumption) ?_
        rotate_left
        · go_simp
          try with_reducible rfl
        simp only [Act.put, List.setIfInBounds_toArray, List.set_cons_zero, List.set_cons_succ, List.getElem_toArray, List.getElem_cons_zero, List.getElem_cons_succ]
        refine wpAnyH_take (i := 12) (v := ?_) rfl (by kernel_rfl) (by kernel_rfl) (by kernel_rfl) (fun _ _ _ h => h) (Or.inl ⟨by rfl, fun v hv => ?_⟩) (by with_reducible assumption) ?_
        rotate_left
        · go_simp
          try with_reducible rfl
        simp only [Act.put, List.setIfInBounds_toArray, List.set_cons_zero, List.set_cons_succ, List.getElem_toArray, List.getElem_cons_zero, List.getElem_cons_succ]
        refine wpAnyH_take (i := 14) (v := ?_) rfl (by kernel_rfl) (by kernel_rfl) (by kernel_rfl) (fun _ _ _ h => h) (Or.inl ⟨by rfl, fun v hv => ?_⟩) (by with_reducible assumption) ?_
        rotate_left
        · go_simp
          try with_reducible rfl
        simp only [Act.put, List.setIfInBounds_toArray, List.set_cons_zero, List.set_cons_succ, List.getElem_toArray, List.getElem_cons_zero, List.getElem_cons_succ]
        refine wpAnyH_take (i := 15) (v := ?_) rfl (by kernel_rfl) (by kernel_rfl) (by kernel_rfl) (fun _ _ _ h => h) (Or.inl ⟨by rfl, fun v hv => ?_⟩) (by with_reducible assumption) ?_
        rotate_left
        · go_simp
          try with_reducible rfl
        simp only [Act.put, List.setIfInBounds_toArray, List.set_cons_zero, List.set_cons_succ, List.getElem_toArray, List.getElem_cons_zero, List.getElem_cons_succ]
        refine wpAnyH_ready (rs := [13]) (by kernel_rfl) (by simp) ?_
        refine (AllReadyH.cons rfl (fun K hK => ?_) AllReadyH.nil)
        go_simp
        go_at_call 30
        with_reducible refine (CE2 _ (by with_reducible assumption)).mono ?_
        rintro e wv5 ⟨rfl, hb5⟩
        have hS5 : Below v4.heap.size v4 wv5 := bchain (by with_reducible assumption) hb5
        dsimp only
        refine hK.out _ _ hS5 (fun hHeld => ?_)
        clear hK K
        try simp only [Act.put, List.setIfInBounds_toArray, List.set_cons_zero, List.set_cons_succ, List.getElem_toArray, List.getElem_cons_zero, List.getElem_cons_succ]
        refine wpAnyH_ready (rs := [16]) (by kernel_rfl) (by simp) ?_
        refine (AllReadyH.cons rfl (fun K hK => ?_) AllReadyH.nil)
        go_simp
        go_at_call 30
        with_reducible refine (CE3 _ (by with_reducible assumption)).mono ?_
        rintro e wv6 ⟨rfl, hb6⟩
        have hS6 : Below v4.heap.size v4 wv6 := bchain (by with_reducible assumption) hb6
        dsimp only
        refine hK.out _ _ hS6 (fun hHeld => ?_)
        clear hK K
        try simp only [Act.put, List.setIfInBounds_toArray, List.set_cons_zero, List.set_cons_succ, List.getElem_toArray, List.getElem_cons_zero, List.getElem_cons_succ]
        refine wpAnyH_ready (rs := [17]) (by kernel_rfl) (by simp) ?_
        refine (AllReadyH.cons rfl (fun K hK => ?_) AllReadyH.nil)
        go_simp
        go_at_call 26
        with_reducible refine (CQ2 _ (by with_reducible assumption)).mono ?_
        rintro e wv7 ⟨rfl, hb7⟩
        have hS7 : Below v4.heap.size v4 wv7 := bchain (by with_reducible assumption) hb7
        dsimp only
        refine hK.out _ _ hS7 (fun hHeld => ?_)
        clear hK K
        try simp only [Act.put, List.setIfInBounds_toArray, List.set_cons_zero, List.set_cons_succ, List.getElem_toArray, List.getElem_cons_zero, List.getElem_cons_succ]
        refine wpAnyH_take (i := 18) (v := ?_) rfl (by kernel_rfl) (by kernel_rfl) (by kernel_rfl) (fun _ _ _ h => h) (Or.inl ⟨by rfl, fun v hv => ?_⟩) (by with_reducible assumption) ?_
        rotate_left
        · go_simp
          try with_reducible rfl
        simp only [Act.put, List.setIfInBounds_toArray, List.set_cons_zero, List.set_cons_succ, List.getElem_toArray, List.getElem_cons_zero, List.getElem_cons_succ]
        refine wpAnyH_take (i := 19) (v := ?_) rfl (by kernel_rfl) (by kernel_rfl) (by kernel_rfl) (fun _ _ _ h => h) (Or.inl ⟨by rfl, fun v hv => ?_⟩) (by with_reducible assumption) ?_
        rotate_left
        · go_simp
          try with_reducible rfl
        simp only [Act.put, List.setIfInBounds_toArray, List.set_cons_zero, List.set_cons_succ, List.getElem_toArray, List.getElem_cons_zero, List.getElem_cons_succ]
        refine wpAnyH_take (i := 20) (v := ?_) rfl (by kernel_rfl) (by kernel_rfl) (by kernel_rfl) (fun _ _ _ h => h) (Or.inl ⟨by rfl, fun v hv => ?_⟩) (by with_reducible assumption) ?_
        rotate_left
        · go_simp
          try with_reducible rfl
        simp only [Act.put, List.setIfInBounds_toArray, List.set_cons_zero, List.set_cons_succ, List.getElem_toArray, List.getElem_cons_zero, List.getElem_cons_succ]
        refine wpAnyH_take (i := 21) (v := ?_) rfl (by kernel_rfl) (by kernel_rfl) (by kernel_rfl) (fun _ _ _ h => h) (Or.inl ⟨by rfl, fun v hv => ?_⟩) (by with_reducible assumption) ?_
        rotate_left
        · go_simp
          try with_reducible rfl
        simp only [Act.put, List.setIfInBounds_toArray, List.set_cons_zero, List.set_cons_succ, List.getElem_toArray, List.getElem_cons_zero, List.getElem_cons_succ]
        refine wpAnyH_take (i := 22) (v := ?_) rfl (by kernel_rfl) (by kernel_rfl) (by kernel_rfl) (fun _ _ _ h => h) (Or.inl ⟨by rfl, fun v hv => ?_⟩) (by with_reducible assumption) ?_
        rotate_left
        · go_simp
          try with_reducible rfl
        simp only [Act.put, List.setIfInBounds_toArray, List.set_cons_zero, List.set_cons_succ, List.getElem_toArray, List.getElem_cons_zero, List.getElem_cons_succ]
        refine wpAnyH_take (i := 24) (v := ?_) rfl (by kernel_rfl) (by kernel_rfl) (by kernel_rfl) (fun _ _ _ h => h) (Or.inl ⟨by rfl, fun v hv => ?_⟩) (by with_reducible assumption) ?_
        rotate_left
        · go_simp
          try with_reducible rfl
        simp only [Act.put, List.setIfInBounds_toArray, List.set_cons_zero, List.set_cons_succ, List.getElem_toArray, List.getElem_cons_zero, List.getElem_cons_succ]
        refine wpAnyH_take (i := 25) (v := ?_) rfl (by kernel_rfl) (by kernel_rfl) (by kernel_rfl) (fun _ _ _ h => h) (Or.inl ⟨by rfl, fun v hv => ?_⟩) (by with_reducible assumption) ?_
        rotate_left
        · go_simp
          try with_reducible rfl
        simp only [Act.put, List.setIfInBounds_toArray, List.set_cons_zero, List.set_cons_succ, List.getElem_toArray, List.getElem_cons_zero, List.getElem_cons_succ]
        refine wpAnyH_take (i := 26) (v := ?_) rfl (by kernel_rfl) (by kernel_rfl) (by kernel_rfl) (fun _ _ _ h => h) (Or.inl ⟨by rfl, fun v hv => ?_⟩) (by with_reducible assumption) ?_
        rotate_left
        · go_simp
          try with_reducible rfl
        simp only [Act.put, List.setIfInBounds_toArray, List.set_cons_zero, List.set_cons_succ, List.getElem_toArray, List.getElem_cons_zero, List.getElem_cons_succ]
        refine wpAnyH_ready (rs := [23]) (by kernel_rfl) (by simp) ?_
        refine (AllReadyH.cons rfl (fun K hK => ?_) AllReadyH.nil)
        go_simp
        go_at_call 30
        with_reducible refine (CE2 _ (by with_reducible assumption)).mono ?_
        rintro e wv8 ⟨rfl, hb8⟩
        have hS8 : Below v4.heap.size v4 wv8 := bchain (by with_reducible assumption) hb8
        dsimp only
        refine hK.out _ _ hS8 (fun hHeld => ?_)
        clear hK K
        try simp only [Act.put, List.setIfInBounds_toArray, List.set_cons_zero, List.set_cons_succ, List.getElem_toArray, List.getElem_cons_zero, List.getElem_cons_succ]
        refine wpAnyH_ready (rs := [27]) (by kernel_rfl) (by simp) ?_
        refine (AllReadyH.cons rfl (fun K hK => ?_) AllReadyH.nil)
        go_simp
        go_at_call 40
        with_reducible refine (CSM _ (by with_reducible assumption)).mono ?_
        rintro e wv9 ⟨rfl, hb9⟩
        have hS9 : Below v4.heap.size v4 wv9 := bchain (by with_reducible assumption) hb9
        dsimp only
        refine hK.out _ _ hS9 (fun hHeld => ?_)
        clear hK K
        try simp only [Act.put, List.setIfInBounds_toArray, List.set_cons_zero, List.set_cons_succ, List.getElem_toArray, List.getElem_cons_zero, List.getElem_cons_succ]
        refine wpAnyH_ready (rs := [28]) (by kernel_rfl) (by simp) ?_
        refine (AllReadyH.cons rfl (fun K hK => ?_) AllReadyH.nil)
        go_simp
        go_at_call 30
        with_reducible refine (CE4 _ (by with_reducible assumption)).mono ?_
        rintro e wv10 ⟨rfl, hb10⟩
        have hS10 : Below v4.heap.size v4 wv10 := bchain (by with_reducible assumption) hb10
        dsimp only
        refine hK.out _ _ hS10 (fun hHeld => ?_)
        clear hK K
        try simp only [Act.put, List.setIfInBounds_toArray, List.set_cons_zero, List.set_cons_succ, List.getElem_toArray, List.getElem_cons_zero, List.getElem_cons_succ]
        refine wpAnyH_ready (rs := [29]) (by kernel_rfl) (by simp) ?_
        refine (AllReadyH.cons rfl (fun K hK => ?_) AllReadyH.nil)
        go_simp
        go_at_call 26
        with_reducible refine (CQ2 _ (by with_reducible assumption)).mono ?_
        rintro e wv11 ⟨rfl, hb11⟩
        have hS11 : Below v4.heap.size v4 wv11 := bchain (by with_reducible assumption) hb11
        dsimp only
        refine hK.out _ _ hS11 (fun hHeld => ?_)
        clear hK K
        try simp only [Act.put, List.setIfInBounds_toArray, List.set_cons_zero, List.set_cons_succ, List.getElem_toArray, List.getElem_cons_zero, List.getElem_cons_succ]
        refine wpAnyH_take (i := 30) (v := ?_) rfl (by kernel_rfl) (by kernel_rfl) (by kernel_rfl) (fun _ _ _ h => h) (Or.inl ⟨by rfl, fun v hv => ?_⟩) (by with_reducible assumption) ?_
        rotate_left
        · go_simp
          try with_reducible rfl
        simp only [Act.put, List.setIfInBounds_toArray, List.set_cons_zero, List.set_cons_succ, List.getElem_toArray, List.getElem_cons_zero, List.getElem_cons_succ]
        refine wpAnyH_take (i := 31) (v := ?_) rfl (by kernel_rfl) (by kernel_rfl) (by kernel_rfl) (fun _ _ _ h => h) (Or.inl ⟨by rfl, fun v hv => ?_⟩) (by with_reducible assumption) ?_
        rotate_left
        · go_simp
          try with_reducible rfl
        simp only [Act.put, List.setIfInBounds_toArray, List.set_cons_zero, List.set_cons_succ, List.getElem_toArray, List.getElem_cons_zero, List.getElem_cons_succ]
        refine wpAnyH_take (i := 32) (v := ?_) rfl (by kernel_rfl) (by kernel_rfl) (by kernel_rfl) (fun _ _ _ h => h) (Or.inl ⟨by rfl, fun v hv => ?_⟩) (by with_reducible assumption) ?_
        rotate_left
        · go_simp
          try with_reducible rfl
        simp only [Act.put, List.setIfInBounds_toArray, List.set_cons_zero, List.set_cons_succ, List.getElem_toArray, List.getElem_cons_zero, List.getElem_cons_succ]
        refine wpAnyH_take (i := 33) (v := ?_) rfl (by kernel_rfl) (by kernel_rfl) (by kernel_rfl) (fun _ _ _ h => h) (Or.inl ⟨by rfl, fun v hv => ?_⟩) (by with_reducible assumption) ?_
        rotate_left
        · go_simp
          try with_reducible rfl
        simp only [Act.put, List.setIfInBounds_toArray, List.set_cons_zero, List.set_cons_succ, List.getElem_toArray, List.getElem_cons_zero, List.getElem_cons_succ]
        refine wpAnyH_take (i := 36) (v := ?_) rfl (by kernel_rfl) (by kernel_rfl) (by kernel_rfl) (fun _ _ _ h => h) (Or.inl ⟨by rfl, fun v hv => ?_⟩) (by with_reducible assumption) ?_
        rotate_left
        · go_simp
          try with_reducible rfl
        simp only [Act.put, List.setIfInBounds_toArray, List.set_cons_zero, List.set_cons_succ, List.getElem_toArray, List.getElem_cons_zero, List.getElem_cons_succ]
        refine wpAnyH_ready (rs := [34]) (by kernel_rfl) (by simp) ?_
        refine (AllReadyH.cons rfl (fun K hK => ?_) AllReadyH.nil)
        go_simp
        go_at_call 33
        with_reducible refine (COn _ (by with_reducible assumption)).mono ?_
        rintro e wv12 ⟨rfl, hb12⟩
        have hS12 : Below v4.heap.size v4 wv12 := bchain (by with_reducible assumption) hb12
        dsimp only
        refine hK.out _ _ hS12 (fun hHeld => ?_)
        clear hK K
        try simp only [Act.put, List.setIfInBounds_toArray, List.set_cons_zero, List.set_cons_succ, List.getElem_toArray, List.getElem_cons_zero, List.getElem_cons_succ]
        refine wpAnyH_ready (rs := [35]) (by kernel_rfl) (by simp) ?_
        refine (AllReadyH.cons rfl (fun K hK => ?_) AllReadyH.nil)
        go_simp
        go_at_call 29
        with_reducible refine (CMx _ (by with_reducible assumption)).mono ?_
        rintro e wv13 ⟨rfl, hb13⟩
        have hS13 : Below v4.heap.size v4 wv13 := bchain (by with_reducible assumption) hb13
        dsimp only
        refine hK.out _ _ hS13 (fun hHeld => ?_)
        clear hK K
        try simp only [Act.put, List.setIfInBounds_toArray, List.set_cons_zero, List.set_cons_succ, List.getElem_toArray, List.getElem_cons_zero, List.getElem_cons_succ]
        refine wpAnyH_ready (rs := [37]) (by kernel_rfl) (by simp) ?_
        refine (AllReadyH.cons rfl (fun K hK => ?_) AllReadyH.nil)
        go_simp
        go_at_call 26
        with_reducible refine (CQx _ (by with_reducible assumption)).mono ?_
        rintro e wv14 ⟨rfl, hb14⟩
        have hS14 : Below v4.heap.size v4 wv14 := bchain (by with_reducible assumption) hb14
        dsimp only
        refine hK.out _ _ hS14 (fun hHeld => ?_)
        clear hK K
        try simp only [Act.put, List.setIfInBounds_toArray, List.set_cons_zero, List.set_cons_succ, List.getElem_toArray, List.getElem_cons_zero, List.getElem_cons_succ]
        refine wpAnyH_take (i := 38) (v := ?_) rfl (by kernel_rfl) (by kernel_rfl) (by kernel_rfl) (fun _ _ _ h => h) (Or.inl ⟨by rfl, fun v hv => ?_⟩) (by with_reducible assumption) ?_
        rotate_left
        · go_simp
          try with_reducible rfl
        simp only [Act.put, List.setIfInBounds_toArray, List.set_cons_zero, List.set_cons_succ, List.getElem_toArray, List.getElem_cons_zero, List.getElem_cons_succ]
        refine wpAnyH_take (i := 39) (v := ?_) rfl (by kernel_rfl) (by kernel_rfl) (by kernel_rfl) (fun _ _ _ h => h) (Or.inl ⟨by rfl, fun v hv => ?_⟩) (by with_reducible assumption) ?_
        rotate_left
        · go_simp
          try with_reducible rfl
        simp only [Act.put, List.setIfInBounds_toArray, List.set_cons_zero, List.set_cons_succ, List.getElem_toArray, List.getElem_cons_zero, List.getElem_cons_succ]
        refine wpAnyH_done (by kernel_rfl) ?_ _
        go_wp2_with fail
        go_meet
        exact ⟨rfl, hS14⟩
      case rest =>
        obtain ⟨rfl, hw⟩ := hcut
        obtain ⟨v5, hv5⟩ : ∃ v, v = wc := ⟨_, rfl⟩
        rw [← hv5] at hw ⊢
        clear hv5 hS0
        have HX5 := hid (blk_up HX4.out hw)
        have HY5 := hid (blk_up HY4.out hw)
        have HF5 := hid (blk_up HF4.out hw)
        have HP5 := hid (blk_up HP4.out hw)
        have HQ5 := hid (blk_up HQ4.out hw)
        have HG5 := hid (HG4.out.up hw)
        have HB5 := hid (bchain HB4.out hw)
        clear hw HX4 HY4 HF4 HP4 HQ4 HG4 HB4
        have hS0 : Below v5.heap.size v5 v5.drew := (Below.refl _ _).drew
        go_wp2_with fail
        go_cut [83] (fun s wx => s = .bool false ∧ Below v5.heap.size v5 wx)
        case first =>
          obtain ⟨n12, hn12⟩ : ∃ n : Nat, n = 12 := ⟨_, rfl⟩
          obtain ⟨a3, ha3⟩ : ∃ a3, a3 = (S % bigQ + bigQ - T % bigQ) % bigQ := ⟨_, rfl⟩
          obtain ⟨e5, he5⟩ : ∃ e5, e5 = 4 ^ a3 % bigP := ⟨_, rfl⟩
          have la3 : a3 < W12 := by rw [ha3]; exact Nat.lt_trans (Nat.mod_lt _ (by decide)) bigQ_lt
          have le5 : e5 < W12 := by rw [he5]; exact Nat.lt_trans (Nat.mod_lt _ (by decide)) bigP_lt
          have e1 : e5 * y % bigP = x := by rw [he5, ha3, HX.out, HY.out]; exact law_sub S T QS.out QT.out
          have e2 : x ^ 0 % bigP = 1 := by rw [Nat.pow_zero]; decide
          have L1 : ∀ v, Below v5.heap.size v5 v → (loadCellsFrom ⟨b7, 0, none⟩ 0 n12 #[]).run Tryd.prog v = .ok (cellsOf64 (ds 4)).toArray v := fun v h => by rw [hn12]; exact cells_numT (blk_up HF5.out h)
          have L2 : ∀ v, Below v5.heap.size v5 v → (loadCellsFrom ⟨p, 0, none⟩ 0 n12 #[]).run Tryd.prog v = .ok (cellsOf64 (ds S)).toArray v := fun v h => by rw [hn12]; exact cells_numT (blk_up HP5.out h)
          have L3 : ∀ v, Below v5.heap.size v5 v → (loadCellsFrom ⟨q, 0, none⟩ 0 n12 #[]).run Tryd.prog v = .ok (cellsOf64 (ds T)).toArray v := fun v h => by rw [hn12]; exact cells_numT (blk_up HQ5.out h)
          have L4 : ∀ v, Below v5.heap.size v5 v → (loadCellsFrom ⟨b8, 0, none⟩ 0 n12 #[]).run Tryd.prog v = .ok (cellsOf64 (ds x)).toArray v := fun v h => by rw [hn12]; exact cells_numT (blk_up HX5.out h)
          have L5 : ∀ v, Below v5.heap.size v5 v → (loadCellsFrom ⟨b9, 0, none⟩ 0 n12 #[]).run Tryd.prog v = .ok (cellsOf64 (ds y)).toArray v := fun v h => by rw [hn12]; exact cells_numT (blk_up HY5.out h)
          have CSu : ∀ v, Below v5.heap.size v5 v → Calls Tryd.prog 37 #[.agg (cellsOf64 (ds S)).toArray, .agg (cellsOf64 (ds T)).toArray] v fun e w' => e = .returned (.agg (cellsOf64 (ds a3)).toArray) ∧ Below v.heap.size v w' := fun v h => by have := scSub_c S T v LS.out LT.out (HG5.out.up h); rw [← ha3] at this; exact this
          have CE1 : ∀ v, Below v5.heap.size v5 v → Calls Tryd.prog 30 #[.agg (cellsOf64 (ds 4)).toArray, .agg (cellsOf64 (ds a3)).toArray] v fun e w' => e = .returned (.agg (cellsOf64 (ds e5)).toArray) ∧ Below v.heap.size v w' := fun v h => by have := grExp_c 4 a3 v (by decide) la3 (HG5.out.up h); rw [← he5] at this; exact this
          have CMu : ∀ v, Below v5.heap.size v5 v → Calls Tryd.prog 29 #[.agg (cellsOf64 (ds e5)).toArray, .agg (cellsOf64 (ds y)).toArray] v fun e w' => e = .returned (.agg (cellsOf64 (ds x)).toArray) ∧ Below v.heap.size v w' := fun v h => by have := grMul_c e5 y v le5 LY.out (HG5.out.up h); rw [e1] at this; exact this
          have CQx : ∀ v, Below v5.heap.size v5 v → Calls Tryd.prog 26 #[.agg (cellsOf64 (ds x)).toArray, .agg (cellsOf64 (ds x)).toArray] v fun e w' => e = .returned (.bool true) ∧ Below v.heap.size v w' := fun v h => by have := grEq_c x x v LX.out LX.out; rw [decide_eq_true rfl] at this; exact this
          have CE0 : ∀ v, Below v5.heap.size v5 v → Calls Tryd.prog 30 #[.agg (cellsOf64 (ds x)).toArray, .agg #[.int .u64 0, .int .u64 0, .int .u64 0, .int .u64 0, .int .u64 0, .int .u64 0, .int .u64 0, .int .u64 0, .int .u64 0, .int .u64 0, .int .u64 0, .int .u64 0]] v fun e w' => e = .returned (.agg (cellsOf64 (ds 1)).toArray) ∧ Below v.heap.size v w' := fun v h => by have := grExp_c x 0 v LX.out (by decide) (HG5.out.up h); rw [e2, num_0] at this; exact this
          have COn : ∀ v, Below v5.heap.size v5 v → Calls Tryd.prog 33 #[] v fun e w' => e = .returned (.agg (cellsOf64 (ds 1)).toArray) ∧ Below v.heap.size v w' := fun v h => one_c v
          have CQ1 : ∀ v, Below v5.heap.size v5 v → Calls Tryd.prog 26 #[.agg (cellsOf64 (ds 1)).toArray, .agg (cellsOf64 (ds 1)).toArray] v fun e w' => e = .returned (.bool true) ∧ Below v.heap.size v w' := fun v h => grEq_c 1 1 v (by decide) (by decide)
          have G1 := agg_el
          have G2 : ∀ v, (sizeOf 35).run Tryd.prog v = .ok n12 v := by rw [hn12]; exact size_el
          have G3 := agg_sc
          have G4 : ∀ v, (sizeOf 44).run Tryd.prog v = .ok n12 v := by rw [hn12]; exact size_sc
          have HM : Tryd.prog.follows .mixedOrders = true := by kernel_rfl
          have N1 := Tryd.call30
          have N2 := Tryd.call29
          have N3 := Tryd.call26
          have N4 := Tryd.call37
          have N5 := Tryd.call33
          have G5 : ∀ v, (zeroValue 44).run Tryd.prog v = .ok (.agg #[.int .u64 0, .int .u64 0, .int .u64 0, .int .u64 0, .int .u64 0, .int .u64 0, .int .u64 0, .int .u64 0, .int .u64 0, .int .u64 0, .int .u64 0, .int .u64 0]) v := fun v => by kernel_rfl
          have G6 := fun v => run_underlying Tryd.underlying44 v
          have G7 : ∀ v, (sizeOf 24).run Tryd.prog v = .ok n12 v := by rw [hn12]; exact size_num
          clear hn12 ha3 he5 la3 le5 e1 e2 HX HY LS LT LX LY HG5 HB5 HP5 HQ5 HF5 HX5 HY5 QS QT hba PX
          generalize cellsOf64 (ds 4) = c4 at *
          generalize cellsOf64 (ds 1) = c1 at *
          generalize Tryd.prog = P at CSu CE1 CMu CQx CE0 COn CQ1 L1 L2 L3 L4 L5 G1 G2 G3 G4 G5 G6 G7 HM N1 N2 N3 N4 N5 ⊢
          refine wp_region_held_drew (S := fun w' => Below v5.heap.size v5 w') HM hS0 (fun hHeld => ?_)
          generalize v5.drew = v0 at *
          refine wpAnyH_take (i := 0) (v := ?_) rfl (by kernel_rfl) (by kernel_rfl) (by kernel_rfl) (fun _ _ _ h => h) (Or.inl ⟨by rfl, fun v hv => ?_⟩) (by with_reducible assumption) ?_
          rotate_left
          · go_simp
            try with_reducible rfl
          simp only [Act.put, List.setIfInBounds_toArray, List.set_cons_zero, List.set_cons_succ, List.getElem_toArray, List.getElem_cons_zero, List.getElem_cons_succ]
          refine wpAnyH_take (i := 1) (v := ?_) rfl (by kernel_rfl) (by kernel_rfl) (by kernel_rfl) (fun _ _ _ h => h) (Or.inl ⟨by rfl, fun v hv => ?_⟩) (by with_reducible assumption) ?_
          rotate_left
          · go_simp
            try with_reducible rfl
          simp only [Act.put, List.setIfInBounds_toArray, List.set_cons_zero, List.set_cons_succ, List.getElem_toArray, List.getElem_cons_zero, List.getElem_cons_succ]
          refine wpAnyH_take (i := 2) (v := ?_) rfl (by kernel_rfl) (by kernel_rfl) (by kernel_rfl) (fun _ _ _ h => h) (Or.inl ⟨by rfl, fun v hv => ?_⟩) (by with_reducible assumption) ?_
          rotate_left
          · go_simp
            try with_reducible rfl
          simp only [Act.put, List.setIfInBounds_toArray, List.set_cons_zero, List.set_cons_succ, List.getElem_toArray, List.getElem_cons_zero, List.getElem_cons_succ]
          refine wpAnyH_take (i := 5) (v := ?_) rfl (by kernel_rfl) (by kernel_rfl) (by kernel_rfl) (fun _ _ _ h => h) (Or.inl ⟨by rfl, fun v hv => ?_⟩) (by with_reducible assumption) ?_
          rotate_left
          · go_simp
            try with_reducible rfl
          simp only [Act.put, List.setIfInBounds_toArray, List.set_cons_zero, List.set_cons_succ, List.getElem_toArray, List.getElem_cons_zero, List.getElem_cons_succ]
          refine wpAnyH_take (i := 7) (v := ?_) rfl (by kernel_rfl) (by kernel_rfl) (by kernel_rfl) (fun _ _ _ h => h) (Or.inl ⟨by rfl, fun v hv => ?_⟩) (by with_reducible assumption) ?_
          rotate_left
          · go_simp
            try with_reducible rfl
          simp only [Act.put, List.setIfInBounds_toArray, List.set_cons_zero, List.set_cons_succ, List.getElem_toArray, List.getElem_cons_zero, List.getElem_cons_succ]
          refine wpAnyH_ready (rs := [3]) (by kernel_rfl) (by simp) ?_
          refine (AllReadyH.cons rfl (fun K hK => ?_) AllReadyH.nil)
          go_simp
          go_at_call 37
          with_reducible refine (CSu _ (by with_reducible assumption)).mono ?_
          rintro e wv1 ⟨rfl, hb1⟩
          have hS1 : Below v5.heap.size v5 wv1 := bchain (by with_reducible assumption) hb1
          dsimp only
          refine hK.out _ _ hS1 (fun hHeld => ?_)
          clear hK K
          try simp only [Act.put, List.setIfInBounds_toArray, List.set_cons_zero, List.set_cons_succ, List.getElem_toArray, List.getElem_cons_zero, List.getElem_cons_succ]
          refine wpAnyH_ready (rs := [4]) (by kernel_rfl) (by simp) ?_
          refine (AllReadyH.cons rfl (fun K hK => ?_) AllReadyH.nil)
          go_simp
          go_at_call 30
          with_reducible refine (CE1 _ (by with_reducible assumption)).mono ?_
          rintro e wv2 ⟨rfl, hb2⟩
          have hS2 : Below v5.heap.size v5 wv2 := bchain (by with_reducible assumption) hb2
          dsimp only
          refine hK.out _ _ hS2 (fun hHeld => ?_)
          clear hK K
          try simp only [Act.put, List.setIfInBounds_toArray, List.set_cons_zero, List.set_cons_succ, List.getElem_toArray, List.getElem_cons_zero, List.getElem_cons_succ]
          refine wpAnyH_ready (rs := [6]) (by kernel_rfl) (by simp) ?_
          refine (AllReadyH.cons rfl (fun K hK => ?_) AllReadyH.nil)
          go_simp
          go_at_call 29
          with_reducible refine (CMu _ (by with_reducible assumption)).mono ?_
          rintro e wv3 ⟨rfl, hb3⟩
          have hS3 : Below v5.heap.size v5 wv3 := bchain (by with_reducible assumption) hb3
          dsimp only
          refine hK.out _ _ hS3 (fun hHeld => ?_)
          clear hK K
          try simp only [Act.put, List.setIfInBounds_toArray, List.set_cons_zero, List.set_cons_succ, List.getElem_toArray, List.getElem_cons_zero, List.getElem_cons_succ]
          refine wpAnyH_ready (rs := [8]) (by kernel_rfl) (by simp) ?_
          refine (AllReadyH.cons rfl (fun K hK => ?_) AllReadyH.nil)
          go_simp
          go_at_call 26
          with_reducible refine (CQx _ (by with_reducible assumption)).mono ?_
          rintro e wv4 ⟨rfl, hb4⟩
          have hS4 : Below v5.heap.size v5 wv4 := bchain (by with_reducible assumption) hb4
          dsimp only
          refine hK.out _ _ hS4 (fun hHeld => ?_)
          clear hK K
          try simp only [Act.put, List.setIfInBounds_toArray, List.set_cons_zero, List.set_cons_succ, List.getElem_toArray, List.getElem_cons_zero, List.getElem_cons_succ]
          refine wpAnyH_take (i := 9) (v := ?_) rfl (by kernel_rfl) (by kernel_rfl) (by kernel_rfl) (fun _ _ _ h => h) (Or.inl ⟨by rfl, fun v hv => ?_⟩) (by with_reducible assumption) ?_
          rotate_left
          · go_simp
            try with_reducible rfl
          simp only [Act.put, List.setIfInBounds_toArray, List.set_cons_zero, List.set_cons_succ, List.getElem_toArray, List.getElem_cons_zero, List.getElem_cons_succ]
          refine wpAnyH_take (i := 10) (v := ?_) rfl (by kernel_rfl) (by kernel_rfl) (by kernel_rfl) (fun _ _ _ h => h) (Or.inl ⟨by rfl, fun v hv => ?_⟩) (by with_reducible assumption) ?_
          rotate_left
          · go_simp
            try with_reducible rfl
          simp only [Act.put, List.setIfInBounds_toArray, List.set_cons_zero, List.set_cons_succ, List.getElem_toArray, List.getElem_cons_zero, List.getElem_cons_succ]
          refine wpAnyH_take (i := 11) (v := ?_) rfl (by kernel_rfl) (by kernel_rfl) (by kernel_rfl) (fun _ _ _ h => h) (Or.inl ⟨by rfl, fun v hv => ?_⟩) (by with_reducible assumption) ?_
          rotate_left
          · go_simp
            try with_reducible rfl
          simp only [Act.put, List.setIfInBounds_toArray, List.set_cons_zero, List.set_cons_succ, List.getElem_toArray, List.getElem_cons_zero, List.getElem_cons_succ]
          refine wpAnyH_take (i := 12) (v := ?_) rfl (by kernel_rfl) (by kernel_rfl) (by kernel_rfl) (fun _ _ _ h => h) (Or.inl ⟨by rfl, fun v hv => ?_⟩) (by with_reducible assumption) ?_
          rotate_left
          · go_simp
            try with_reducible rfl
          simp only [Act.put, List.setIfInBounds_toArray, List.set_cons_zero, List.set_cons_succ, List.getElem_toArray, List.getElem_cons_zero, List.getElem_cons_succ]
          refine wpAnyH_ready (rs := [13]) (by kernel_rfl) (by simp) ?_
          refine (AllReadyH.cons rfl (fun K hK => ?_) AllReadyH.nil)
          go_simp
          go_at_call 30
          with_reducible refine (CE0 _ (by with_reducible assumption)).mono ?_
          rintro e wv5 ⟨rfl, hb5⟩
          have hS5 : Below v5.heap.size v5 wv5 := bchain (by with_reducible assumption) hb5
          dsimp only
          refine hK.out _ _ hS5 (fun hHeld => ?_)
          clear hK K
          try simp only [Act.put, List.setIfInBounds_toArray, List.set_cons_zero, List.set_cons_succ, List.getElem_toArray, List.getElem_cons_zero, List.getElem_cons_succ]
          refine wpAnyH_ready (rs := [14]) (by kernel_rfl) (by simp) ?_
          refine (AllReadyH.cons rfl (fun K hK => ?_) AllReadyH.nil)
          go_simp
          go_at_call 33
          with_reducible refine (COn _ (by with_reducible assumption)).mono ?_
          rintro e wv6 ⟨rfl, hb6⟩
          have hS6 : Below v5.heap.size v5 wv6 := bchain (by with_reducible assumption) hb6
          dsimp only
          refine hK.out _ _ hS6 (fun hHeld => ?_)
          clear hK K
          try simp only [Act.put, List.setIfInBounds_toArray, List.set_cons_zero, List.set_cons_succ, List.getElem_toArray, List.getElem_cons_zero, List.getElem_cons_succ]
          refine wpAnyH_ready (rs := [15]) (by kernel_rfl) (by simp) ?_
          refine (AllReadyH.cons rfl (fun K hK => ?_) AllReadyH.nil)
          go_simp
          go_at_call 26
          with_reducible refine (CQ1 _ (by with_reducible assumption)).mono ?_
          rintro e wv7 ⟨rfl, hb7⟩
          have hS7 : Below v5.heap.size v5 wv7 := bchain (by with_reducible assumption) hb7
          dsimp only
          refine hK.out _ _ hS7 (fun hHeld => ?_)
          clear hK K
          try simp only [Act.put, List.setIfInBounds_toArray, List.set_cons_zero, List.set_cons_succ, List.getElem_toArray, List.getElem_cons_zero, List.getElem_cons_succ]
          refine wpAnyH_take (i := 16) (v := ?_) rfl (by kernel_rfl) (by kernel_rfl) (by kernel_rfl) (fun _ _ _ h => h) (Or.inl ⟨by rfl, fun v hv => ?_⟩) (by with_reducible assumption) ?_
          rotate_left
          · go_simp
            try with_reducible rfl
          simp only [Act.put, List.setIfInBounds_toArray, List.set_cons_zero, List.set_cons_succ, List.getElem_toArray, List.getElem_cons_zero, List.getElem_cons_succ]
          refine wpAnyH_take (i := 17) (v := ?_) rfl (by kernel_rfl) (by kernel_rfl) (by kernel_rfl) (fun _ _ _ h => h) (Or.inl ⟨by rfl, fun v hv => ?_⟩) (by with_reducible assumption) ?_
          rotate_left
          · go_simp
            try with_reducible rfl
          simp only [Act.put, List.setIfInBounds_toArray, List.set_cons_zero, List.set_cons_succ, List.getElem_toArray, List.getElem_cons_zero, List.getElem_cons_succ]
          refine wpAnyH_done (by kernel_rfl) ?_ _
          go_wp2_with fail
          go_meet
          exact ⟨rfl, hS7⟩
        case rest =>
          obtain ⟨rfl, hw⟩ := hcut
          obtain ⟨v6, hv6⟩ : ∃ v, v = wc := ⟨_, rfl⟩
          rw [← hv6] at hw ⊢
          clear hv6 hS0
          have HX6 := hid (blk_up HX5.out hw)
          have HG6 := hid (HG5.out.up hw)
          have HB6 := hid (bchain HB5.out hw)
          have OX := hid HX6.out.range
          have IX := hid (sizeEl.trans (congrArg some (dsc_len x).symm))
          have QX : Hid (x ^ bigQ % bigP = 1) := hid (by rw [HX.out]; exact four_pow_q S)
          clear hw HX5 HY5 HF5 HP5 HQ5 HG5 HB5 HX HY LS LT LY QS QT
          go_wp2_with (refine wpList_load_mid rfl 35 (.tmp 8) rfl b8 0 rfl (cellsOf64 (ds x)) _ OX.out Tryd.underlying35 rfl IX.out ?_)
          refine (elBytes_c x v6 LX).mono ?_
          rintro e v7 ⟨r, rfl, hr, b7'⟩
          obtain ⟨l, rfl, hl, hlt, hv⟩ := hr
          obtain ⟨v8, hst, hBx, b8'⟩ := new96 v7 l hl hlt
          have hlen : (cells8 l).length = 96 := by simp [cells8, hl]
          have b78 := bchain b7' b8'
          have HX8 := hid (blk_up HX6.out b78)
          have HG8 := hid (HG6.out.up b78)
          have HB8 := hid (bchain HB6.out b78)
          have HBx := hid hBx
          have HL := hid hl
          have HV := hid hv
          clear b7' b8' b78 HX6 HG6 HB6 OX hBx hv
          go_wp2_with fail
          have ra := HBx.out.rd HBx.out.size
          rw [HL.out] at ra
          have CR := gRead_c _ 96 96 l v8 ra HG8.out
          rw [eE_of HL.out HV.out PX.out, eN_of HL.out HV.out PX.out, if_pos QX.out, if_pos QX.out] at CR
          refine CR.mono ?_
          rintro e v9 ⟨rfl, b9'⟩
          obtain ⟨v10, s10, x10, b10'⟩ := layT v9 35 x
          have hlx := dsc_len x
          have b910 := bchain b9' b10'
          have HX10 := hid (blk_up HX8.out b910)
          have HB10 := hid (bchain HB8.out b910)
          have HZ10 := hid x10
          have OX := hid HX10.out.range
          have OZ := hid HZ10.out.range
          clear CR ra hst hlen HBx b9' b10' b910 x10 HX8 HG8 HB8 QX
          unfold num z12 at *
          go_wp2_with (first
            | refine wpList_load_g (by rfl) 35 (.tmp 11) rfl v9.heap.size 0 rfl (cellsOf64 (ds x)) _ (by with_reducible exact OZ.out) Tryd.underlying35 rfl IX.out ?_
            | refine wpList_load_g (by rfl) 35 (.tmp 8) rfl b8 0 rfl (cellsOf64 (ds x)) _ (by with_reducible exact OX.out) Tryd.underlying35 rfl IX.out ?_)
          have CQ := grEq_c x x v10 LX.out LX.out
          rw [decide_eq_true rfl] at CQ
          refine CQ.mono ?_
          rintro e v11 ⟨rfl, b11'⟩
          have HB11 := hid (bchain HB10.out b11')
          clear CQ b11' s10 hlx HX10 HB10 HZ10 OX OZ IX
          go_wp2
          go_ret
          exact ⟨rfl, hba ▸ HB11.out⟩
end Go.Proofs.YtfonpmahcdmajaaDoor
