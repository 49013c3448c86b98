/-
  avouchlaw05.GroupCloses: the walk.
-/
import Derived.Test.YtfonpmahcdmajaaDoorGrpZ
namespace Go.Proofs.YtfonpmahcdmajaaDoor
open Go.RowKit
set_option linter.unusedVariables false
set_option linter.unusedSimpArgs false

theorem boxes2T (w : World) (X Y : Nat) :
    BlkW ((w.alloc (o12 24 X)).alloc (o12 24 Y)) w.heap.size 24 (ds X) ∧
    BlkW ((w.alloc (o12 24 X)).alloc (o12 24 Y)) (w.heap.size + 1) 24 (ds Y) ∧
    Below w.heap.size w ((w.alloc (o12 24 X)).alloc (o12 24 Y)) := by
  have e1 : (w.alloc (o12 24 X)).heap.size = w.heap.size + 1 := by simp
  have h2 := o12_new (w.alloc (o12 24 X)) 24 Y
  rw [e1] at h2
  exact ⟨(o12_new w 24 X).alloc _, h2, ((Below.refl _ _).alloc (Nat.le_refl _) _).alloc (by omega) _⟩

theorem setCells_blkW {b : Nat} {t : TypeId} : ∀ (l old done : List Nat) {w : World}, w.heap[b]? = some (.cells (cellsOf64 (done ++ old)).toArray t (0, 0)) → l.length = old.length →
    (w.setCells b done.length (cellsOf64 l)).heap[b]? = some (.cells (cellsOf64 (done ++ l)).toArray t (0, 0))
  | [], [], done, w, h, _ => h
  | [], _ :: _, _, _, _, hl => by simp at hl
  | _ :: _, [], _, _, _, hl => by simp at hl
  | x :: l, y :: old, done, w, h, hl => by
    have h' : (w.setCell ⟨b, done.length, none⟩ (.int .u64 (x : Int))).heap[b]? = some (.cells (cellsOf64 ((done ++ [x]) ++ old)).toArray t (0, 0)) := by
      simp [World.setCell, Array.getElem?_modify, h, cellsOf64]
    have ih := setCells_blkW l old (done ++ [x]) h' (by simpa using hl)
    rw [List.length_append, List.length_singleton, List.append_assoc] at ih
    exact ih
theorem zero_over {b : Nat} {t : TypeId} {w : World} {Y : Nat} (h : BlkW w b t (List.replicate 12 0)) : BlkW (w.setCells b 0 (cellsOf64 (ds Y))) b t (ds Y) := by
  have h2 := setCells_blkW (w := w) (b := b) (t := t) (ds Y) (List.replicate 12 0) [] h.heap (by rw [ds_len, List.length_replicate])
  simp only [List.nil_append, List.length_nil] at h2
  exact ⟨h2, ds_lt Y⟩


set_option maxRecDepth 100000 in
set_option maxHeartbeats 8000000 in
theorem groupCloses_w (X Y : Nat) (w : World) (hX : X < W12) (hY : Y < W12) (hG : GlobW w) :
    Calls Tryd.prog 8 #[num X, num Y] w fun e w' => e = .returned (.bool true) ∧ Below w.heap.size w w' := by
  have hlX := dsc_len X
  have hlY := dsc_len Y
  obtain ⟨a1, a2, a3⟩ := boxes2T w X Y
  have A := hid (And.intro a1 (And.intro a2 a3))
  have HX := hid hX
  have HY := hid hY
  have hG0 := hG.up a3
  clear hX hY hG a1 a2 a3
  unfold num
  go_enter Tryd.func8, Tryd.ntmps8
  go_wp2_with fail
  change Calls _ _ _ ((w.alloc (o12 24 X)).alloc (o12 24 Y)) _
  generalize (w.alloc (o12 24 X)).alloc (o12 24 Y) = w0 at *
  clear hlX hlY
  refine (speaks5_c w0 hG0).mono ?_
  rintro e w1 ⟨rfl, b1⟩
  obtain ⟨a1, a2, a3⟩ := A.out
  have HA := hid (blk_up a1 b1)
  have HB := hid (blk_up a2 b1)
  have HW := hid (bchain a3 b1)
  have HG := hid (hG0.up b1)
  clear a1 a2 a3 A b1 hG0
  have OB := hid HB.out.range
  have IB := hid (sizeNb.trans (congrArg some (dsc_len Y).symm))
  have IA := hid (sizeNb.trans (congrArg some (dsc_len X).symm))
  go_wp2_with (refine wpList_load_mid rfl 24 (.tmp 3) rfl (w.heap.size + 1) 0 rfl (cellsOf64 (ds Y)) _ (by with_reducible exact OB.out) Tryd.underlying24 rfl IB.out ?_)
  obtain ⟨S, hS⟩ : ∃ S, S = Y % bigQ := ⟨_, rfl⟩
  have CO := ofNumber_c Y w1 HY HG.out
  rw [← hS] at CO
  have QS : Hid (S < bigQ) := hid (by rw [hS]; exact Nat.mod_lt _ (by decide))
  have LS : Hid (S < W12) := hid (Nat.lt_trans QS.out bigQ_lt)
  refine CO.mono ?_
  rintro e w2 ⟨rfl, b2⟩
  obtain ⟨w3, s3, x3, b3⟩ := layT w2 44 S
  have hlS := dsc_len S
  have b13 := bchain b2 b3
  have HS3 := hid x3
  have HA3 := hid (blk_up HA.out b13)
  have HW3 := hid (bchain HW.out b13)
  have HG3 := hid (HG.out.up b13)
  clear CO hS b2 b3 b13 x3 HA HB HW HG OB IB HY
  unfold num z12 at *
  go_wp2_with fail
  refine (group_c w3 HG3.out).mono ?_
  rintro e w4 ⟨br, rfl, hr, b4⟩
  have HR4 := hid hr
  have HA4 := hid (blk_up HA3.out b4)
  have HS4 := hid (blk_up HS3.out b4)
  have HW4 := hid (bchain HW3.out b4)
  have HG4 := hid (HG3.out.up b4)
  have OA := hid HA4.out.range
  clear hr b4 HA3 HS3 HW3 HG3 s3 hlS
  generalize w2.heap.size = b5 at *
  go_wp2_with (refine wpList_load_mid rfl 24 (.tmp 2) rfl w.heap.size 0 rfl (cellsOf64 (ds X)) _ (by with_reducible exact OA.out) Tryd.underlying24 rfl IA.out ?_)
  obtain ⟨x, hx⟩ : ∃ x, x = X * X % bigP := ⟨_, rfl⟩
  have CM := rMul_c br X X bigP w4 HR4.out HX.out HX.out bigP_lt (by decide)
  rw [← hx] at CM
  have PX : Hid (x < bigP) := hid (by rw [hx]; exact Nat.mod_lt _ (by decide))
  have LX : Hid (x < W12) := hid (Nat.lt_trans PX.out bigP_lt)
  have SX : Hid (x ≠ 0 → x ^ bigQ % bigP = 1) := hid (by rw [hx]; exact sq_pow X)
  refine CM.mono ?_
  rintro e w5 ⟨rfl, b5'⟩
  obtain ⟨w6, s6, x6, b6⟩ := layT w5 24 x
  have hlx := dsc_len x
  have b46 := bchain b5' b6
  have HX6 := hid x6
  have HR6 := hid (HR4.out.up b46)
  have HS6 := hid (blk_up HS4.out b46)
  have HW6 := hid (bchain HW4.out b46)
  have HG6 := hid (HG4.out.up b46)
  have OX := hid HX6.out.range
  have IX := hid (sizeNb.trans (congrArg some (dsc_len x).symm))
  clear CM hx b5' b6 b46 x6 HR4 HA4 HS4 HW4 HG4 OA IA HX
  unfold num z12 at *
  obtain ⟨q0, hq0⟩ : ∃ q0, q0 = decide (x = 0) := ⟨_, rfl⟩
  have F1 : ∀ v, (Op.equalIn 10000 24 (.agg (cellsOf64 (ds x)).toArray) (.agg #[.int .u64 0, .int .u64 0, .int .u64 0, .int .u64 0, .int .u64 0, .int .u64 0, .int .u64 0, .int .u64 0, .int .u64 0, .int .u64 0, .int .u64 0, .int .u64 0])).run Tryd.prog v = .ok q0 v := fun v => by
    have h := num_eq v x 0 LX.out (by decide)
    rw [← hq0, num_0] at h
    exact h
  have HQ0 := hid hq0
  clear hq0
  by_cases hx0 : x = 0
  · obtain rfl : q0 = true := by rw [HQ0.out]; exact decide_eq_true hx0
    have HE := hid HW6.out
    clear HQ0 SX PX HR6 HS6 HG6 hx0
    go_wp2_with (refine wpList_load_mid rfl 24 (.tmp 7) rfl w5.heap.size 0 rfl (cellsOf64 (ds x)) _ (by with_reducible exact OX.out) Tryd.underlying24 rfl IX.out ?_)
    go_ret
    exact ⟨rfl, HE.out⟩
  obtain rfl : q0 = false := by rw [HQ0.out]; exact decide_eq_false hx0
  have SQ : Hid (x ^ bigQ % bigP = 1) := hid (SX.out hx0)
  have X0 : Hid (0 < x) := hid (Nat.pos_of_ne_zero hx0)
  clear HQ0 SX hx0
  go_wp2_with (refine wpList_load_mid rfl 24 (.tmp 7) rfl w5.heap.size 0 rfl (cellsOf64 (ds x)) _ (by with_reducible exact OX.out) Tryd.underlying24 rfl IX.out ?_)
  clear F1 OX s6 hlx
  generalize w5.heap.size = b7 at *
  obtain ⟨x2, hx2⟩ : ∃ x2, x2 = bigP - x := ⟨_, rfl⟩
  have P2 : Hid (x2 < bigP) := hid (by rw [hx2]; have := X0.out; have h0 : 0 < bigP := (by decide); omega)
  have N2 : Hid (¬ x2 ^ bigQ % bigP = 1) := hid (by rw [hx2]; exact opp_pow X0.out PX.out SQ.out)
  have E2 : Hid ((0 % bigP + bigP - x % bigP) % bigP = x2) := hid (by rw [hx2, Nat.zero_mod, Nat.zero_add, Nat.mod_eq_of_lt PX.out, Nat.mod_eq_of_lt (by have := X0.out; have h0 : 0 < bigP := (by decide); omega)])
  obtain ⟨l1, hl1, hlt1, hv1⟩ := bytes_of 96 x (Nat.lt_of_lt_of_le LX.out (by decide))
  obtain ⟨l2, hl2, hlt2, hv2⟩ := bytes_of 96 x2 (Nat.lt_of_lt_of_le (Nat.lt_trans P2.out bigP_lt) (by decide))
  have K1 := hid (And.intro hl1 (And.intro hlt1 hv1))
  have K2 := hid (And.intro hl2 (And.intro hlt2 hv2))
  clear hx2 hl1 hlt1 hv1 hl2 hlt2 hv2
  have hS0 : Below w6.heap.size w6 w6.drew := (Below.refl _ _).drew
  go_cut [8, 9] (fun s t wx => ∃ p q, s = .pointer (some ⟨p, 0, none⟩) ∧ t = .pointer (some ⟨q, 0, none⟩) ∧ BlkB wx p 70 l1 ∧ BlkB wx q 70 l2 ∧ Below w6.heap.size w6 wx)
  case first =>
    obtain ⟨n12, hn12⟩ : ∃ n : Nat, n = 12 := ⟨_, rfl⟩
    obtain ⟨n96, hn96⟩ : ∃ n : Nat, n = 96 := ⟨_, rfl⟩
    have L1 : ∀ v, Below w6.heap.size w6 v → (loadCellsFrom ⟨b7, 0, none⟩ 0 n12 #[]).run Tryd.prog v = .ok (cellsOf64 (ds x)).toArray v := fun v h => by rw [hn12]; exact cells_numT (blk_up HX6.out h)
    have C1 : ∀ v, Below w6.heap.size w6 v → Calls Tryd.prog 48 #[.agg (cellsOf64 (ds x)).toArray] v fun e w' => e = .returned (.agg (cells8 l1).toArray) ∧ Below v.heap.size v w' := fun v h => write_l K1.out.1 K1.out.2.1 K1.out.2.2 LX v
    have C2 : ∀ v, Below w6.heap.size w6 v → Calls Tryd.prog 49 #[.pointer (some ⟨br, 0, none⟩), .agg #[.int .u64 0, .int .u64 0, .int .u64 0, .int .u64 0, .int .u64 0, .int .u64 0, .int .u64 0, .int .u64 0, .int .u64 0, .int .u64 0, .int .u64 0, .int .u64 0], .agg (cellsOf64 (ds x)).toArray] v fun e w' => e = .returned (.agg (cellsOf64 (ds x2)).toArray) ∧ Below v.heap.size v w' := fun v h => by have := rSub_c br 0 x bigP v (HR6.out.up h) (by decide) LX.out bigP_lt (by decide); rw [E2.out, num_0] at this; exact this
    have C3 : ∀ v, Below w6.heap.size w6 v → Calls Tryd.prog 48 #[.agg (cellsOf64 (ds x2)).toArray] v fun e w' => e = .returned (.agg (cells8 l2).toArray) ∧ Below v.heap.size v w' := fun v h => write_l K2.out.1 K2.out.2.1 K2.out.2.2 (hid (Nat.lt_trans P2.out bigP_lt)) v
    have ST1 : ∀ v b, BlkB v b 70 (List.replicate 96 0) → (storeCells ⟨b, 0, none⟩ (cells8 l1)).run Tryd.prog v = .ok () (v.setCells b 0 (cells8 l1)) := fun v b h => (stored96 h l1 K1.out.1 K1.out.2.1).1
    have ST2 : ∀ v b, BlkB v b 70 (List.replicate 96 0) → (storeCells ⟨b, 0, none⟩ (cells8 l2)).run Tryd.prog v = .ok () (v.setCells b 0 (cells8 l2)) := fun v b h => (stored96 h l2 K2.out.1 K2.out.2.1).1
    have OV1 : ∀ (v : World) b, BlkB v b 70 (List.replicate 96 0) → BlkB (v.setCells b 0 (cells8 l1)) b 70 l1 := fun v b h => over96 K1.out.1 K1.out.2.1 h
    have OV2 : ∀ (v : World) b, BlkB v b 70 (List.replicate 96 0) → BlkB (v.setCells b 0 (cells8 l2)) b 70 l2 := fun v b h => over96 K2.out.1 K2.out.2.1 h
    have ZN : ∀ v : World, BlkB (v.alloc (.cells Tryd.zeroCells70 70)) v.heap.size 70 (List.replicate 96 0) := z96_new
    have hl1 : (cells8 l1).length = n96 := by rw [hn96]; simp [cells8, K1.out.1]
    have hl2 : (cells8 l2).length = n96 := by rw [hn96]; simp [cells8, K2.out.1]
    have G1 := agg_num
    have G2 : ∀ v, (sizeOf 24).run Tryd.prog v = .ok n12 v := by rw [hn12]; exact size_num
    have G3 := zero_num
    have G4 := under_num
    have G5 := sz64
    have G6 : ∀ v, (isAgg 70).run Tryd.prog v = .ok true v := fun v => by unfold isAgg; rw [Sem.run_bind, run_underlying Tryd.underlying70 v]; rfl
    have G7 : ∀ v, (sizeOf 70).run Tryd.prog v = .ok n96 v := by rw [hn96]; intro v; kernel_rfl
    obtain ⟨zz, hzz⟩ : ∃ zz, zz = Tryd.zeroCells70 := ⟨_, rfl⟩
    have G8 : ∀ v, (zeroValue 70).run Tryd.prog v = .ok (.agg zz) v := by rw [hzz]; intro v; kernel_rfl
    rw [← hzz] at ZN
    have HM : Tryd.prog.follows .mixedOrders = true := by kernel_rfl
    have N1 := Tryd.call48
    have N2' := Tryd.call49
    clear hn12 hn96 hzz K1 K2 HX6 HR6 HS6 HW6 HG6 LX PX P2 N2 E2 SQ X0 QS LS IX
    generalize Tryd.prog = P at C1 C2 C3 ST1 ST2 L1 G1 G2 G3 G4 G5 G6 G7 G8 HM N1 N2' ⊢
    refine wp_region_held_drew (S := fun w' => Below w6.heap.size w6 w') HM hS0 (fun hHeld => ?_)
    generalize w6.drew = v0 at *
    refine wpAnyH_take (i := 0) (v := ?_) rfl (by kernel_rfl) (by kernel_rfl) (by kernel_rfl) (fun _ _ _ h => h) (Or.inl ⟨by rfl, fun v hv => ?_⟩) (by with_reducible assumption) ?_
    rotate_left
    · go_simp
      try with_reducible rfl
    simp only [Act.put, List.setIfInBounds_toArray, List.set_cons_zero, List.set_cons_succ, List.getElem_toArray, List.getElem_cons_zero, List.getElem_cons_succ]
    refine wpAnyH_take (i := 2) (v := ?_) rfl (by kernel_rfl) (by kernel_rfl) (by kernel_rfl) (fun _ _ _ h => h) (Or.inl ⟨by rfl, fun v hv => ?_⟩) (by with_reducible assumption) ?_
    rotate_left
    · go_simp
      try with_reducible rfl
    simp only [Act.put, List.setIfInBounds_toArray, List.set_cons_zero, List.set_cons_succ, List.getElem_toArray, List.getElem_cons_zero, List.getElem_cons_succ]
    refine wpAnyH_take (i := 3) (v := ?_) rfl (by kernel_rfl) (by kernel_rfl) (by kernel_rfl) (fun _ _ _ h => h) (Or.inl ⟨by rfl, fun v hv => ?_⟩) (by with_reducible assumption) ?_
    rotate_left
    · go_simp
      try with_reducible rfl
    simp only [Act.put, List.setIfInBounds_toArray, List.set_cons_zero, List.set_cons_succ, List.getElem_toArray, List.getElem_cons_zero, List.getElem_cons_succ]
    refine wpAnyH_take (i := 4) (v := ?_) rfl (by kernel_rfl) (by kernel_rfl) (by kernel_rfl) (fun _ _ _ h => h) (Or.inl ⟨by rfl, fun v hv => ?_⟩) (by with_reducible assumption) ?_
    rotate_left
    · go_simp
      try with_reducible rfl
    simp only [Act.put, List.setIfInBounds_toArray, List.set_cons_zero, List.set_cons_succ, List.getElem_toArray, List.getElem_cons_zero, List.getElem_cons_succ]
    refine wpAnyH_ready (rs := [1, 7, 8]) (by kernel_rfl) (by simp) ?_
    refine (AllReadyH.cons rfl (fun K hK => ?_) (AllReadyH.cons rfl (fun K hK => ?_) (AllReadyH.cons rfl (fun K hK => ?_) AllReadyH.nil)))
    · go_simp
      go_at_call 48
      with_reducible refine (C1 _ (by with_reducible assumption)).mono ?_
      rintro e wv1 ⟨rfl, hb1⟩
      have hS1 : Below w6.heap.size w6 wv1 := bchain (by with_reducible assumption) hb1
      dsimp only
      refine hK.out _ _ hS1 (fun hHeld => ?_)
      clear hK K
      try simp only [Act.put, List.setIfInBounds_toArray, List.set_cons_zero, List.set_cons_succ, List.getElem_toArray, List.getElem_cons_zero, List.getElem_cons_succ]
      refine wpAnyH_ready (rs := [5, 7, 8]) (by kernel_rfl) (by simp) ?_
      refine (AllReadyH.cons rfl (fun K hK => ?_) (AllReadyH.cons rfl (fun K hK => ?_) (AllReadyH.cons rfl (fun K hK => ?_) AllReadyH.nil)))
      · go_simp
        go_at_call 49
        with_reducible refine (C2 _ (by with_reducible assumption)).mono ?_
        rintro e wv2 ⟨rfl, hb2⟩
        have hS2 : Below w6.heap.size w6 wv2 := bchain (by with_reducible assumption) hb2
        dsimp only
        refine hK.out _ _ hS2 (fun hHeld => ?_)
        clear hK K
        try simp only [Act.put, List.setIfInBounds_toArray, List.set_cons_zero, List.set_cons_succ, List.getElem_toArray, List.getElem_cons_zero, List.getElem_cons_succ]
        refine wpAnyH_ready (rs := [6, 7, 8]) (by kernel_rfl) (by simp) ?_
        refine (AllReadyH.cons rfl (fun K hK => ?_) (AllReadyH.cons rfl (fun K hK => ?_) (AllReadyH.cons rfl (fun K hK => ?_) AllReadyH.nil)))
        · go_simp
          go_at_call 48
          with_reducible refine (C3 _ (by with_reducible assumption)).mono ?_
          rintro e wv3 ⟨rfl, hb3⟩
          have hS3 : Below w6.heap.size w6 wv3 := bchain (by with_reducible assumption) hb3
          dsimp only
          refine hK.out _ _ hS3 (fun hHeld => ?_)
          clear hK K
          try simp only [Act.put, List.setIfInBounds_toArray, List.set_cons_zero, List.set_cons_succ, List.getElem_toArray, List.getElem_cons_zero, List.getElem_cons_succ]
          refine wpAnyH_ready (rs := [7, 8]) (by kernel_rfl) (by simp) ?_
          refine (AllReadyH.cons rfl (fun K hK => ?_) (AllReadyH.cons rfl (fun K hK => ?_) AllReadyH.nil))
          · have hb4 := (Below.refl wv3.heap.size wv3).alloc (Nat.le_refl _) (.cells zz 70)
            have hS4 : Below w6.heap.size w6 (wv3.alloc (.cells zz 70)) := bchain hS3 hb4
            have lep4 := hS3.size
            have zp4 : BlkB (wv3.alloc (.cells zz 70)) (wv3.heap.size) 70 (List.replicate 96 0) := ZN wv3 
            go_simp
            refine hK.out _ _ hS4 (fun hHeld => ?_)
            clear hK K
            try simp only [Act.put, List.setIfInBounds_toArray, List.set_cons_zero, List.set_cons_succ, List.getElem_toArray, List.getElem_cons_zero, List.getElem_cons_succ]
            generalize hv4 : wv3.alloc (.cells zz 70) = wv4 at *
            generalize hbl4 : wv3.heap.size = pb4 at *
            clear hb4
            refine wpAnyH_ready (rs := [8]) (by kernel_rfl) (by simp) ?_
            refine (AllReadyH.cons rfl (fun K hK => ?_) AllReadyH.nil)
            have hb5 := (Below.refl wv4.heap.size wv4).alloc (Nat.le_refl _) (.cells zz 70)
            have hS5 : Below w6.heap.size w6 (wv4.alloc (.cells zz 70)) := bchain hS4 hb5
            have leq5 := hS4.size
            have ltp5 := (zp4).size
            have zp5 := blkB_up zp4 hb5
            have zq5 : BlkB (wv4.alloc (.cells zz 70)) (wv4.heap.size) 70 (List.replicate 96 0) := ZN wv4 
            go_simp
            refine hK.out _ _ hS5 (fun hHeld => ?_)
            clear hK K
            try simp only [Act.put, List.setIfInBounds_toArray, List.set_cons_zero, List.set_cons_succ, List.getElem_toArray, List.getElem_cons_zero, List.getElem_cons_succ]
            generalize hv5 : wv4.alloc (.cells zz 70) = wv5 at *
            generalize hbl5 : wv4.heap.size = pb5 at *
            clear hb5
            refine wpAnyH_ready (rs := [9]) (by kernel_rfl) (by simp) ?_
            refine (AllReadyH.cons rfl (fun K hK => ?_) AllReadyH.nil)
            have hst6 := ST1 wv5 pb4 zp5
            go_simp
            have hS6 : Below w6.heap.size w6 (wv5.setCells pb4 0 (cells8 l1)) := below_cells lep4 _ _ _ hS5
            have zq6 := blkB_put (show pb5 ≠ pb4 by omega) (cells8 l1) 0 _ zq5
            have zp6 := OV1 _ _ zp5
            refine hK.out _ _ hS6 (fun hHeld => ?_)
            clear hK K hst6
            try simp only [Act.put, List.setIfInBounds_toArray, List.set_cons_zero, List.set_cons_succ, List.getElem_toArray, List.getElem_cons_zero, List.getElem_cons_succ]
            generalize wv5.setCells pb4 0 (cells8 l1) = wv6 at *
            refine wpAnyH_ready (rs := [10]) (by kernel_rfl) (by simp) ?_
            refine (AllReadyH.cons rfl (fun K hK => ?_) AllReadyH.nil)
            have hst7 := ST2 wv6 pb5 zq6
            go_simp
            have hS7 : Below w6.heap.size w6 (wv6.setCells pb5 0 (cells8 l2)) := below_cells leq5 _ _ _ hS6
            have zp7 := blkB_put (show pb4 ≠ pb5 by omega) (cells8 l2) 0 _ zp6
            have zq7 := OV2 _ _ zq6
            refine hK.out _ _ hS7 (fun hHeld => ?_)
            clear hK K hst7
            try simp only [Act.put, List.setIfInBounds_toArray, List.set_cons_zero, List.set_cons_succ, List.getElem_toArray, List.getElem_cons_zero, List.getElem_cons_succ]
            generalize wv6.setCells pb5 0 (cells8 l2) = wv7 at *
            refine wpAnyH_done (by kernel_rfl) ?_ _
            go_wp2_with fail
            go_meet
            exact ⟨_, _, rfl, rfl, zp7, zq7, hS7⟩
          · have hb8 := (Below.refl wv3.heap.size wv3).alloc (Nat.le_refl _) (.cells zz 70)
            have hS8 : Below w6.heap.size w6 (wv3.alloc (.cells zz 70)) := bchain hS3 hb8
            have leq8 := hS3.size
            have zq8 : BlkB (wv3.alloc (.cells zz 70)) (wv3.heap.size) 70 (List.replicate 96 0) := ZN wv3 
            go_simp
            refine hK.out _ _ hS8 (fun hHeld => ?_)
            clear hK K
            try simp only [Act.put, List.setIfInBounds_toArray, List.set_cons_zero, List.set_cons_succ, List.getElem_toArray, List.getElem_cons_zero, List.getElem_cons_succ]
            generalize hv8 : wv3.alloc (.cells zz 70) = wv8 at *
            generalize hbl8 : wv3.heap.size = pb8 at *
            clear hb8
            refine wpAnyH_ready (rs := [7]) (by kernel_rfl) (by simp) ?_
            refine (AllReadyH.cons rfl (fun K hK => ?_) AllReadyH.nil)
            have hb9 := (Below.refl wv8.heap.size wv8).alloc (Nat.le_refl _) (.cells zz 70)
            have hS9 : Below w6.heap.size w6 (wv8.alloc (.cells zz 70)) := bchain hS8 hb9
            have lep9 := hS8.size
            have ltq9 := (zq8).size
            have zq9 := blkB_up zq8 hb9
            have zp9 : BlkB (wv8.alloc (.cells zz 70)) (wv8.heap.size) 70 (List.replicate 96 0) := ZN wv8 
            go_simp
            refine hK.out _ _ hS9 (fun hHeld => ?_)
            clear hK K
            try simp only [Act.put, List.setIfInBounds_toArray, List.set_cons_zero, List.set_cons_succ, List.getElem_toArray, List.getElem_cons_zero, List.getElem_cons_succ]
            generalize hv9 : wv8.alloc (.cells zz 70) = wv9 at *
            generalize hbl9 : wv8.heap.size = pb9 at *
            clear hb9
            refine wpAnyH_ready (rs := [9]) (by kernel_rfl) (by simp) ?_
            refine (AllReadyH.cons rfl (fun K hK => ?_) AllReadyH.nil)
            have hst10 := ST1 wv9 pb9 zp9
            go_simp
            have hS10 : Below w6.heap.size w6 (wv9.setCells pb9 0 (cells8 l1)) := below_cells lep9 _ _ _ hS9
            have zq10 := blkB_put (show pb8 ≠ pb9 by omega) (cells8 l1) 0 _ zq9
            have zp10 := OV1 _ _ zp9
            refine hK.out _ _ hS10 (fun hHeld => ?_)
            clear hK K hst10
            try simp only [Act.put, List.setIfInBounds_toArray, List.set_cons_zero, List.set_cons_succ, List.getElem_toArray, List.getElem_cons_zero, List.getElem_cons_succ]
            generalize wv9.setCells pb9 0 (cells8 l1) = wv10 at *
            refine wpAnyH_ready (rs := [10]) (by kernel_rfl) (by simp) ?_
            refine (AllReadyH.cons rfl (fun K hK => ?_) AllReadyH.nil)
            have hst11 := ST2 wv10 pb8 zq10
            go_simp
            have hS11 : Below w6.heap.size w6 (wv10.setCells pb8 0 (cells8 l2)) := below_cells leq8 _ _ _ hS10
            have zp11 := blkB_put (show pb9 ≠ pb8 by omega) (cells8 l2) 0 _ zp10
            have zq11 := OV2 _ _ zq10
            refine hK.out _ _ hS11 (fun hHeld => ?_)
            clear hK K hst11
            try simp only [Act.put, List.setIfInBounds_toArray, List.set_cons_zero, List.set_cons_succ, List.getElem_toArray, List.getElem_cons_zero, List.getElem_cons_succ]
            generalize wv10.setCells pb8 0 (cells8 l2) = wv11 at *
            refine wpAnyH_done (by kernel_rfl) ?_ _
            go_wp2_with fail
            go_meet
            exact ⟨_, _, rfl, rfl, zp11, zq11, hS11⟩
        · have hb12 := (Below.refl wv2.heap.size wv2).alloc (Nat.le_refl _) (.cells zz 70)
          have hS12 : Below w6.heap.size w6 (wv2.alloc (.cells zz 70)) := bchain hS2 hb12
          have lep12 := hS2.size
          have zp12 : BlkB (wv2.alloc (.cells zz 70)) (wv2.heap.size) 70 (List.replicate 96 0) := ZN wv2 
          go_simp
          refine hK.out _ _ hS12 (fun hHeld => ?_)
          clear hK K
          try simp only [Act.put, List.setIfInBounds_toArray, List.set_cons_zero, List.set_cons_succ, List.getElem_toArray, List.getElem_cons_zero, List.getElem_cons_succ]
          generalize hv12 : wv2.alloc (.cells zz 70) = wv12 at *
          generalize hbl12 : wv2.heap.size = pb12 at *
          clear hb12
          refine wpAnyH_ready (rs := [6, 8]) (by kernel_rfl) (by simp) ?_
          refine (AllReadyH.cons rfl (fun K hK => ?_) (AllReadyH.cons rfl (fun K hK => ?_) AllReadyH.nil))
          · go_simp
            go_at_call 48
            with_reducible refine (C3 _ (by with_reducible assumption)).mono ?_
            rintro e wv13 ⟨rfl, hb13⟩
            have hS13 : Below w6.heap.size w6 wv13 := bchain (by with_reducible assumption) hb13
            have zp13 := blkB_up zp12 hb13
            dsimp only
            refine hK.out _ _ hS13 (fun hHeld => ?_)
            clear hK K
            try simp only [Act.put, List.setIfInBounds_toArray, List.set_cons_zero, List.set_cons_succ, List.getElem_toArray, List.getElem_cons_zero, List.getElem_cons_succ]
            refine wpAnyH_ready (rs := [8]) (by kernel_rfl) (by simp) ?_
            refine (AllReadyH.cons rfl (fun K hK => ?_) AllReadyH.nil)
            have hb14 := (Below.refl wv13.heap.size wv13).alloc (Nat.le_refl _) (.cells zz 70)
            have hS14 : Below w6.heap.size w6 (wv13.alloc (.cells zz 70)) := bchain hS13 hb14
            have leq14 := hS13.size
            have ltp14 := (zp13).size
            have zp14 := blkB_up zp13 hb14
            have zq14 : BlkB (wv13.alloc (.cells zz 70)) (wv13.heap.size) 70 (List.replicate 96 0) := ZN wv13 
            go_simp
            refine hK.out _ _ hS14 (fun hHeld => ?_)
            clear hK K
            try simp only [Act.put, List.setIfInBounds_toArray, List.set_cons_zero, List.set_cons_succ, List.getElem_toArray, List.getElem_cons_zero, List.getElem_cons_succ]
            generalize hv14 : wv13.alloc (.cells zz 70) = wv14 at *
            generalize hbl14 : wv13.heap.size = pb14 at *
            clear hb14
            refine wpAnyH_ready (rs := [9]) (by kernel_rfl) (by simp) ?_
            refine (AllReadyH.cons rfl (fun K hK => ?_) AllReadyH.nil)
            have hst15 := ST1 wv14 pb12 zp14
            go_simp
            have hS15 : Below w6.heap.size w6 (wv14.setCells pb12 0 (cells8 l1)) := below_cells lep12 _ _ _ hS14
            have zq15 := blkB_put (show pb14 ≠ pb12 by omega) (cells8 l1) 0 _ zq14
            have zp15 := OV1 _ _ zp14
            refine hK.out _ _ hS15 (fun hHeld => ?_)
            clear hK K hst15
            try simp only [Act.put, List.setIfInBounds_toArray, List.set_cons_zero, List.set_cons_succ, List.getElem_toArray, List.getElem_cons_zero, List.getElem_cons_succ]
            generalize wv14.setCells pb12 0 (cells8 l1) = wv15 at *
            refine wpAnyH_ready (rs := [10]) (by kernel_rfl) (by simp) ?_
            refine (AllReadyH.cons rfl (fun K hK => ?_) AllReadyH.nil)
            have hst16 := ST2 wv15 pb14 zq15
            go_simp
            have hS16 : Below w6.heap.size w6 (wv15.setCells pb14 0 (cells8 l2)) := below_cells leq14 _ _ _ hS15
            have zp16 := blkB_put (show pb12 ≠ pb14 by omega) (cells8 l2) 0 _ zp15
            have zq16 := OV2 _ _ zq15
            refine hK.out _ _ hS16 (fun hHeld => ?_)
            clear hK K hst16
            try simp only [Act.put, List.setIfInBounds_toArray, List.set_cons_zero, List.set_cons_succ, List.getElem_toArray, List.getElem_cons_zero, List.getElem_cons_succ]
            generalize wv15.setCells pb14 0 (cells8 l2) = wv16 at *
            refine wpAnyH_done (by kernel_rfl) ?_ _
            go_wp2_with fail
            go_meet
            exact ⟨_, _, rfl, rfl, zp16, zq16, hS16⟩
          · have hb17 := (Below.refl wv12.heap.size wv12).alloc (Nat.le_refl _) (.cells zz 70)
            have hS17 : Below w6.heap.size w6 (wv12.alloc (.cells zz 70)) := bchain hS12 hb17
            have leq17 := hS12.size
            have ltp17 := (zp12).size
            have zp17 := blkB_up zp12 hb17
            have zq17 : BlkB (wv12.alloc (.cells zz 70)) (wv12.heap.size) 70 (List.replicate 96 0) := ZN wv12 
            go_simp
            refine hK.out _ _ hS17 (fun hHeld => ?_)
            clear hK K
            try simp only [Act.put, List.setIfInBounds_toArray, List.set_cons_zero, List.set_cons_succ, List.getElem_toArray, List.getElem_cons_zero, List.getElem_cons_succ]
            generalize hv17 : wv12.alloc (.cells zz 70) = wv17 at *
            generalize hbl17 : wv12.heap.size = pb17 at *
            clear hb17
            refine wpAnyH_ready (rs := [6]) (by kernel_rfl) (by simp) ?_
            refine (AllReadyH.cons rfl (fun K hK => ?_) AllReadyH.nil)
            go_simp
            go_at_call 48
            with_reducible refine (C3 _ (by with_reducible assumption)).mono ?_
            rintro e wv18 ⟨rfl, hb18⟩
            have hS18 : Below w6.heap.size w6 wv18 := bchain (by with_reducible assumption) hb18
            have zp18 := blkB_up zp17 hb18
            have zq18 := blkB_up zq17 hb18
            dsimp only
            refine hK.out _ _ hS18 (fun hHeld => ?_)
            clear hK K
            try simp only [Act.put, List.setIfInBounds_toArray, List.set_cons_zero, List.set_cons_succ, List.getElem_toArray, List.getElem_cons_zero, List.getElem_cons_succ]
            refine wpAnyH_ready (rs := [9]) (by kernel_rfl) (by simp) ?_
            refine (AllReadyH.cons rfl (fun K hK => ?_) AllReadyH.nil)
            have hst19 := ST1 wv18 pb12 zp18
            go_simp
            have hS19 : Below w6.heap.size w6 (wv18.setCells pb12 0 (cells8 l1)) := below_cells lep12 _ _ _ hS18
            have zq19 := blkB_put (show pb17 ≠ pb12 by omega) (cells8 l1) 0 _ zq18
            have zp19 := OV1 _ _ zp18
            refine hK.out _ _ hS19 (fun hHeld => ?_)
            clear hK K hst19
            try simp only [Act.put, List.setIfInBounds_toArray, List.set_cons_zero, List.set_cons_succ, List.getElem_toArray, List.getElem_cons_zero, List.getElem_cons_succ]
            generalize wv18.setCells pb12 0 (cells8 l1) = wv19 at *
            refine wpAnyH_ready (rs := [10]) (by kernel_rfl) (by simp) ?_
            refine (AllReadyH.cons rfl (fun K hK => ?_) AllReadyH.nil)
            have hst20 := ST2 wv19 pb17 zq19
            go_simp
            have hS20 : Below w6.heap.size w6 (wv19.setCells pb17 0 (cells8 l2)) := below_cells leq17 _ _ _ hS19
            have zp20 := blkB_put (show pb12 ≠ pb17 by omega) (cells8 l2) 0 _ zp19
            have zq20 := OV2 _ _ zq19
            refine hK.out _ _ hS20 (fun hHeld => ?_)
            clear hK K hst20
            try simp only [Act.put, List.setIfInBounds_toArray, List.set_cons_zero, List.set_cons_succ, List.getElem_toArray, List.getElem_cons_zero, List.getElem_cons_succ]
            generalize wv19.setCells pb17 0 (cells8 l2) = wv20 at *
            refine wpAnyH_done (by kernel_rfl) ?_ _
            go_wp2_with fail
            go_meet
            exact ⟨_, _, rfl, rfl, zp20, zq20, hS20⟩
        · have hb21 := (Below.refl wv2.heap.size wv2).alloc (Nat.le_refl _) (.cells zz 70)
          have hS21 : Below w6.heap.size w6 (wv2.alloc (.cells zz 70)) := bchain hS2 hb21
          have leq21 := hS2.size
          have zq21 : BlkB (wv2.alloc (.cells zz 70)) (wv2.heap.size) 70 (List.replicate 96 0) := ZN wv2 
          go_simp
          refine hK.out _ _ hS21 (fun hHeld => ?_)
          clear hK K
          try simp only [Act.put, List.setIfInBounds_toArray, List.set_cons_zero, List.set_cons_succ, List.getElem_toArray, List.getElem_cons_zero, List.getElem_cons_succ]
          generalize hv21 : wv2.alloc (.cells zz 70) = wv21 at *
          generalize hbl21 : wv2.heap.size = pb21 at *
          clear hb21
          refine wpAnyH_ready (rs := [6, 7]) (by kernel_rfl) (by simp) ?_
          refine (AllReadyH.cons rfl (fun K hK => ?_) (AllReadyH.cons rfl (fun K hK => ?_) AllReadyH.nil))
          · go_simp
            go_at_call 48
            with_reducible refine (C3 _ (by with_reducible assumption)).mono ?_
            rintro e wv22 ⟨rfl, hb22⟩
            have hS22 : Below w6.heap.size w6 wv22 := bchain (by with_reducible assumption) hb22
            have zq22 := blkB_up zq21 hb22
            dsimp only
            refine hK.out _ _ hS22 (fun hHeld => ?_)
            clear hK K
            try simp only [Act.put, List.setIfInBounds_toArray, List.set_cons_zero, List.set_cons_succ, List.getElem_toArray, List.getElem_cons_zero, List.getElem_cons_succ]
            refine wpAnyH_ready (rs := [7]) (by kernel_rfl) (by simp) ?_
            refine (AllReadyH.cons rfl (fun K hK => ?_) AllReadyH.nil)
            have hb23 := (Below.refl wv22.heap.size wv22).alloc (Nat.le_refl _) (.cells zz 70)
            have hS23 : Below w6.heap.size w6 (wv22.alloc (.cells zz 70)) := bchain hS22 hb23
            have lep23 := hS22.size
            have ltq23 := (zq22).size
            have zq23 := blkB_up zq22 hb23
            have zp23 : BlkB (wv22.alloc (.cells zz 70)) (wv22.heap.size) 70 (List.replicate 96 0) := ZN wv22 
            go_simp
            refine hK.out _ _ hS23 (fun hHeld => ?_)
            clear hK K
            try simp only [Act.put, List.setIfInBounds_toArray, List.set_cons_zero, List.set_cons_succ, List.getElem_toArray, List.getElem_cons_zero, List.getElem_cons_succ]
            generalize hv23 : wv22.alloc (.cells zz 70) = wv23 at *
            generalize hbl23 : wv22.heap.size = pb23 at *
            clear hb23
            refine wpAnyH_ready (rs := [9]) (by kernel_rfl) (by simp) ?_
            refine (AllReadyH.cons rfl (fun K hK => ?_) AllReadyH.nil)
            have hst24 := ST1 wv23 pb23 zp23
            go_simp
            have hS24 : Below w6.heap.size w6 (wv23.setCells pb23 0 (cells8 l1)) := below_cells lep23 _ _ _ hS23
            have zq24 := blkB_put (show pb21 ≠ pb23 by omega) (cells8 l1) 0 _ zq23
            have zp24 := OV1 _ _ zp23
            refine hK.out _ _ hS24 (fun hHeld => ?_)
            clear hK K hst24
            try simp only [Act.put, List.setIfInBounds_toArray, List.set_cons_zero, List.set_cons_succ, List.getElem_toArray, List.getElem_cons_zero, List.getElem_cons_succ]
            generalize wv23.setCells pb23 0 (cells8 l1) = wv24 at *
            refine wpAnyH_ready (rs := [10]) (by kernel_rfl) (by simp) ?_
            refine (AllReadyH.cons rfl (fun K hK => ?_) AllReadyH.nil)
            have hst25 := ST2 wv24 pb21 zq24
            go_simp
            have hS25 : Below w6.heap.size w6 (wv24.setCells pb21 0 (cells8 l2)) := below_cells leq21 _ _ _ hS24
            have zp25 := blkB_put (show pb23 ≠ pb21 by omega) (cells8 l2) 0 _ zp24
            have zq25 := OV2 _ _ zq24
            refine hK.out _ _ hS25 (fun hHeld => ?_)
            clear hK K hst25
            try simp only [Act.put, List.setIfInBounds_toArray, List.set_cons_zero, List.set_cons_succ, List.getElem_toArray, List.getElem_cons_zero, List.getElem_cons_succ]
            generalize wv24.setCells pb21 0 (cells8 l2) = wv25 at *
            refine wpAnyH_done (by kernel_rfl) ?_ _
            go_wp2_with fail
            go_meet
            exact ⟨_, _, rfl, rfl, zp25, zq25, hS25⟩
          · have hb26 := (Below.refl wv21.heap.size wv21).alloc (Nat.le_refl _) (.cells zz 70)
            have hS26 : Below w6.heap.size w6 (wv21.alloc (.cells zz 70)) := bchain hS21 hb26
            have lep26 := hS21.size
            have ltq26 := (zq21).size
            have zq26 := blkB_up zq21 hb26
            have zp26 : BlkB (wv21.alloc (.cells zz 70)) (wv21.heap.size) 70 (List.replicate 96 0) := ZN wv21 
            go_simp
            refine hK.out _ _ hS26 (fun hHeld => ?_)
            clear hK K
            try simp only [Act.put, List.setIfInBounds_toArray, List.set_cons_zero, List.set_cons_succ, List.getElem_toArray, List.getElem_cons_zero, List.getElem_cons_succ]
            generalize hv26 : wv21.alloc (.cells zz 70) = wv26 at *
            generalize hbl26 : wv21.heap.size = pb26 at *
            clear hb26
            refine wpAnyH_ready (rs := [6]) (by kernel_rfl) (by simp) ?_
            refine (AllReadyH.cons rfl (fun K hK => ?_) AllReadyH.nil)
            go_simp
            go_at_call 48
            with_reducible refine (C3 _ (by with_reducible assumption)).mono ?_
            rintro e wv27 ⟨rfl, hb27⟩
            have hS27 : Below w6.heap.size w6 wv27 := bchain (by with_reducible assumption) hb27
            have zq27 := blkB_up zq26 hb27
            have zp27 := blkB_up zp26 hb27
            dsimp only
            refine hK.out _ _ hS27 (fun hHeld => ?_)
            clear hK K
            try simp only [Act.put, List.setIfInBounds_toArray, List.set_cons_zero, List.set_cons_succ, List.getElem_toArray, List.getElem_cons_zero, List.getElem_cons_succ]
            refine wpAnyH_ready (rs := [9]) (by kernel_rfl) (by simp) ?_
            refine (AllReadyH.cons rfl (fun K hK => ?_) AllReadyH.nil)
            have hst28 := ST1 wv27 pb26 zp27
            go_simp
            have hS28 : Below w6.heap.size w6 (wv27.setCells pb26 0 (cells8 l1)) := below_cells lep26 _ _ _ hS27
            have zq28 := blkB_put (show pb21 ≠ pb26 by omega) (cells8 l1) 0 _ zq27
            have zp28 := OV1 _ _ zp27
            refine hK.out _ _ hS28 (fun hHeld => ?_)
            clear hK K hst28
            try simp only [Act.put, List.setIfInBounds_toArray, List.set_cons_zero, List.set_cons_succ, List.getElem_toArray, List.getElem_cons_zero, List.getElem_cons_succ]
            generalize wv27.setCells pb26 0 (cells8 l1) = wv28 at *
            refine wpAnyH_ready (rs := [10]) (by kernel_rfl) (by simp) ?_
            refine (AllReadyH.cons rfl (fun K hK => ?_) AllReadyH.nil)
            have hst29 := ST2 wv28 pb21 zq28
            go_simp
            have hS29 : Below w6.heap.size w6 (wv28.setCells pb21 0 (cells8 l2)) := below_cells leq21 _ _ _ hS28
            have zp29 := blkB_put (show pb26 ≠ pb21 by omega) (cells8 l2) 0 _ zp28
            have zq29 := OV2 _ _ zq28
            refine hK.out _ _ hS29 (fun hHeld => ?_)
            clear hK K hst29
            try simp only [Act.put, List.setIfInBounds_toArray, List.set_cons_zero, List.set_cons_succ, List.getElem_toArray, List.getElem_cons_zero, List.getElem_cons_succ]
            generalize wv28.setCells pb21 0 (cells8 l2) = wv29 at *
            refine wpAnyH_done (by kernel_rfl) ?_ _
            go_wp2_with fail
            go_meet
            exact ⟨_, _, rfl, rfl, zp29, zq29, hS29⟩
      · have hb30 := (Below.refl wv1.heap.size wv1).alloc (Nat.le_refl _) (.cells zz 70)
        have hS30 : Below w6.heap.size w6 (wv1.alloc (.cells zz 70)) := bchain hS1 hb30
        have lep30 := hS1.size
        have zp30 : BlkB (wv1.alloc (.cells zz 70)) (wv1.heap.size) 70 (List.replicate 96 0) := ZN wv1 
        go_simp
        refine hK.out _ _ hS30 (fun hHeld => ?_)
        clear hK K
        try simp only [Act.put, List.setIfInBounds_toArray, List.set_cons_zero, List.set_cons_succ, List.getElem_toArray, List.getElem_cons_zero, List.getElem_cons_succ]
        generalize hv30 : wv1.alloc (.cells zz 70) = wv30 at *
        generalize hbl30 : wv1.heap.size = pb30 at *
        clear hb30
        refine wpAnyH_ready (rs := [5, 8]) (by kernel_rfl) (by simp) ?_
        refine (AllReadyH.cons rfl (fun K hK => ?_) (AllReadyH.cons rfl (fun K hK => ?_) AllReadyH.nil))
        · go_simp
          go_at_call 49
          with_reducible refine (C2 _ (by with_reducible assumption)).mono ?_
          rintro e wv31 ⟨rfl, hb31⟩
          have hS31 : Below w6.heap.size w6 wv31 := bchain (by with_reducible assumption) hb31
          have zp31 := blkB_up zp30 hb31
          dsimp only
          refine hK.out _ _ hS31 (fun hHeld => ?_)
          clear hK K
          try simp only [Act.put, List.setIfInBounds_toArray, List.set_cons_zero, List.set_cons_succ, List.getElem_toArray, List.getElem_cons_zero, List.getElem_cons_succ]
          refine wpAnyH_ready (rs := [6, 8]) (by kernel_rfl) (by simp) ?_
          refine (AllReadyH.cons rfl (fun K hK => ?_) (AllReadyH.cons rfl (fun K hK => ?_) AllReadyH.nil))
          · go_simp
            go_at_call 48
            with_reducible refine (C3 _ (by with_reducible assumption)).mono ?_
            rintro e wv32 ⟨rfl, hb32⟩
            have hS32 : Below w6.heap.size w6 wv32 := bchain (by with_reducible assumption) hb32
            have zp32 := blkB_up zp31 hb32
            dsimp only
            refine hK.out _ _ hS32 (fun hHeld => ?_)
            clear hK K
            try simp only [Act.put, List.setIfInBounds_toArray, List.set_cons_zero, List.set_cons_succ, List.getElem_toArray, List.getElem_cons_zero, List.getElem_cons_succ]
            refine wpAnyH_ready (rs := [8]) (by kernel_rfl) (by simp) ?_
            refine (AllReadyH.cons rfl (fun K hK => ?_) AllReadyH.nil)
            have hb33 := (Below.refl wv32.heap.size wv32).alloc (Nat.le_refl _) (.cells zz 70)
            have hS33 : Below w6.heap.size w6 (wv32.alloc (.cells zz 70)) := bchain hS32 hb33
            have leq33 := hS32.size
            have ltp33 := (zp32).size
            have zp33 := blkB_up zp32 hb33
            have zq33 : BlkB (wv32.alloc (.cells zz 70)) (wv32.heap.size) 70 (List.replicate 96 0) := ZN wv32 
            go_simp
            refine hK.out _ _ hS33 (fun hHeld => ?_)
            clear hK K
            try simp only [Act.put, List.setIfInBounds_toArray, List.set_cons_zero, List.set_cons_succ, List.getElem_toArray, List.getElem_cons_zero, List.getElem_cons_succ]
            generalize hv33 : wv32.alloc (.cells zz 70) = wv33 at *
            generalize hbl33 : wv32.heap.size = pb33 at *
            clear hb33
            refine wpAnyH_ready (rs := [9]) (by kernel_rfl) (by simp) ?_
            refine (AllReadyH.cons rfl (fun K hK => ?_) AllReadyH.nil)
            have hst34 := ST1 wv33 pb30 zp33
            go_simp
            have hS34 : Below w6.heap.size w6 (wv33.setCells pb30 0 (cells8 l1)) := below_cells lep30 _ _ _ hS33
            have zq34 := blkB_put (show pb33 ≠ pb30 by omega) (cells8 l1) 0 _ zq33
            have zp34 := OV1 _ _ zp33
            refine hK.out _ _ hS34 (fun hHeld => ?_)
            clear hK K hst34
            try simp only [Act.put, List.setIfInBounds_toArray, List.set_cons_zero, List.set_cons_succ, List.getElem_toArray, List.getElem_cons_zero, List.getElem_cons_succ]
            generalize wv33.setCells pb30 0 (cells8 l1) = wv34 at *
            refine wpAnyH_ready (rs := [10]) (by kernel_rfl) (by simp) ?_
            refine (AllReadyH.cons rfl (fun K hK => ?_) AllReadyH.nil)
            have hst35 := ST2 wv34 pb33 zq34
            go_simp
            have hS35 : Below w6.heap.size w6 (wv34.setCells pb33 0 (cells8 l2)) := below_cells leq33 _ _ _ hS34
            have zp35 := blkB_put (show pb30 ≠ pb33 by omega) (cells8 l2) 0 _ zp34
            have zq35 := OV2 _ _ zq34
            refine hK.out _ _ hS35 (fun hHeld => ?_)
            clear hK K hst35
            try simp only [Act.put, List.setIfInBounds_toArray, List.set_cons_zero, List.set_cons_succ, List.getElem_toArray, List.getElem_cons_zero, List.getElem_cons_succ]
            generalize wv34.setCells pb33 0 (cells8 l2) = wv35 at *
            refine wpAnyH_done (by kernel_rfl) ?_ _
            go_wp2_with fail
            go_meet
            exact ⟨_, _, rfl, rfl, zp35, zq35, hS35⟩
          · have hb36 := (Below.refl wv31.heap.size wv31).alloc (Nat.le_refl _) (.cells zz 70)
            have hS36 : Below w6.heap.size w6 (wv31.alloc (.cells zz 70)) := bchain hS31 hb36
            have leq36 := hS31.size
            have ltp36 := (zp31).size
            have zp36 := blkB_up zp31 hb36
            have zq36 : BlkB (wv31.alloc (.cells zz 70)) (wv31.heap.size) 70 (List.replicate 96 0) := ZN wv31 
            go_simp
            refine hK.out _ _ hS36 (fun hHeld => ?_)
            clear hK K
            try simp only [Act.put, List.setIfInBounds_toArray, List.set_cons_zero, List.set_cons_succ, List.getElem_toArray, List.getElem_cons_zero, List.getElem_cons_succ]
            generalize hv36 : wv31.alloc (.cells zz 70) = wv36 at *
            generalize hbl36 : wv31.heap.size = pb36 at *
            clear hb36
            refine wpAnyH_ready (rs := [6]) (by kernel_rfl) (by simp) ?_
            refine (AllReadyH.cons rfl (fun K hK => ?_) AllReadyH.nil)
            go_simp
            go_at_call 48
            with_reducible refine (C3 _ (by with_reducible assumption)).mono ?_
            rintro e wv37 ⟨rfl, hb37⟩
            have hS37 : Below w6.heap.size w6 wv37 := bchain (by with_reducible assumption) hb37
            have zp37 := blkB_up zp36 hb37
            have zq37 := blkB_up zq36 hb37
            dsimp only
            refine hK.out _ _ hS37 (fun hHeld => ?_)
            clear hK K
            try simp only [Act.put, List.setIfInBounds_toArray, List.set_cons_zero, List.set_cons_succ, List.getElem_toArray, List.getElem_cons_zero, List.getElem_cons_succ]
            refine wpAnyH_ready (rs := [9]) (by kernel_rfl) (by simp) ?_
            refine (AllReadyH.cons rfl (fun K hK => ?_) AllReadyH.nil)
            have hst38 := ST1 wv37 pb30 zp37
            go_simp
            have hS38 : Below w6.heap.size w6 (wv37.setCells pb30 0 (cells8 l1)) := below_cells lep30 _ _ _ hS37
            have zq38 := blkB_put (show pb36 ≠ pb30 by omega) (cells8 l1) 0 _ zq37
            have zp38 := OV1 _ _ zp37
            refine hK.out _ _ hS38 (fun hHeld => ?_)
            clear hK K hst38
            try simp only [Act.put, List.setIfInBounds_toArray, List.set_cons_zero, List.set_cons_succ, List.getElem_toArray, List.getElem_cons_zero, List.getElem_cons_succ]
            generalize wv37.setCells pb30 0 (cells8 l1) = wv38 at *
            refine wpAnyH_ready (rs := [10]) (by kernel_rfl) (by simp) ?_
            refine (AllReadyH.cons rfl (fun K hK => ?_) AllReadyH.nil)
            have hst39 := ST2 wv38 pb36 zq38
            go_simp
            have hS39 : Below w6.heap.size w6 (wv38.setCells pb36 0 (cells8 l2)) := below_cells leq36 _ _ _ hS38
            have zp39 := blkB_put (show pb30 ≠ pb36 by omega) (cells8 l2) 0 _ zp38
            have zq39 := OV2 _ _ zq38
            refine hK.out _ _ hS39 (fun hHeld => ?_)
            clear hK K hst39
            try simp only [Act.put, List.setIfInBounds_toArray, List.set_cons_zero, List.set_cons_succ, List.getElem_toArray, List.getElem_cons_zero, List.getElem_cons_succ]
            generalize wv38.setCells pb36 0 (cells8 l2) = wv39 at *
            refine wpAnyH_done (by kernel_rfl) ?_ _
            go_wp2_with fail
            go_meet
            exact ⟨_, _, rfl, rfl, zp39, zq39, hS39⟩
        · have hb40 := (Below.refl wv30.heap.size wv30).alloc (Nat.le_refl _) (.cells zz 70)
          have hS40 : Below w6.heap.size w6 (wv30.alloc (.cells zz 70)) := bchain hS30 hb40
          have leq40 := hS30.size
          have ltp40 := (zp30).size
          have zp40 := blkB_up zp30 hb40
          have zq40 : BlkB (wv30.alloc (.cells zz 70)) (wv30.heap.size) 70 (List.replicate 96 0) := ZN wv30 
          go_simp
          refine hK.out _ _ hS40 (fun hHeld => ?_)
          clear hK K
          try simp only [Act.put, List.setIfInBounds_toArray, List.set_cons_zero, List.set_cons_succ, List.getElem_toArray, List.getElem_cons_zero, List.getElem_cons_succ]
          generalize hv40 : wv30.alloc (.cells zz 70) = wv40 at *
          generalize hbl40 : wv30.heap.size = pb40 at *
          clear hb40
          refine wpAnyH_ready (rs := [5]) (by kernel_rfl) (by simp) ?_
          refine (AllReadyH.cons rfl (fun K hK => ?_) AllReadyH.nil)
          go_simp
          go_at_call 49
          with_reducible refine (C2 _ (by with_reducible assumption)).mono ?_
          rintro e wv41 ⟨rfl, hb41⟩
          have hS41 : Below w6.heap.size w6 wv41 := bchain (by with_reducible assumption) hb41
          have zp41 := blkB_up zp40 hb41
          have zq41 := blkB_up zq40 hb41
          dsimp only
          refine hK.out _ _ hS41 (fun hHeld => ?_)
          clear hK K
          try simp only [Act.put, List.setIfInBounds_toArray, List.set_cons_zero, List.set_cons_succ, List.getElem_toArray, List.getElem_cons_zero, List.getElem_cons_succ]
          refine wpAnyH_ready (rs := [6]) (by kernel_rfl) (by simp) ?_
          refine (AllReadyH.cons rfl (fun K hK => ?_) AllReadyH.nil)
          go_simp
          go_at_call 48
          with_reducible refine (C3 _ (by with_reducible assumption)).mono ?_
          rintro e wv42 ⟨rfl, hb42⟩
          have hS42 : Below w6.heap.size w6 wv42 := bchain (by with_reducible assumption) hb42
          have zp42 := blkB_up zp41 hb42
          have zq42 := blkB_up zq41 hb42
          dsimp only
          refine hK.out _ _ hS42 (fun hHeld => ?_)
          clear hK K
          try simp only [Act.put, List.setIfInBounds_toArray, List.set_cons_zero, List.set_cons_succ, List.getElem_toArray, List.getElem_cons_zero, List.getElem_cons_succ]
          refine wpAnyH_ready (rs := [9]) (by kernel_rfl) (by simp) ?_
          refine (AllReadyH.cons rfl (fun K hK => ?_) AllReadyH.nil)
          have hst43 := ST1 wv42 pb30 zp42
          go_simp
          have hS43 : Below w6.heap.size w6 (wv42.setCells pb30 0 (cells8 l1)) := below_cells lep30 _ _ _ hS42
          have zq43 := blkB_put (show pb40 ≠ pb30 by omega) (cells8 l1) 0 _ zq42
          have zp43 := OV1 _ _ zp42
          refine hK.out _ _ hS43 (fun hHeld => ?_)
          clear hK K hst43
          try simp only [Act.put, List.setIfInBounds_toArray, List.set_cons_zero, List.set_cons_succ, List.getElem_toArray, List.getElem_cons_zero, List.getElem_cons_succ]
          generalize wv42.setCells pb30 0 (cells8 l1) = wv43 at *
          refine wpAnyH_ready (rs := [10]) (by kernel_rfl) (by simp) ?_
          refine (AllReadyH.cons rfl (fun K hK => ?_) AllReadyH.nil)
          have hst44 := ST2 wv43 pb40 zq43
          go_simp
          have hS44 : Below w6.heap.size w6 (wv43.setCells pb40 0 (cells8 l2)) := below_cells leq40 _ _ _ hS43
          have zp44 := blkB_put (show pb30 ≠ pb40 by omega) (cells8 l2) 0 _ zp43
          have zq44 := OV2 _ _ zq43
          refine hK.out _ _ hS44 (fun hHeld => ?_)
          clear hK K hst44
          try simp only [Act.put, List.setIfInBounds_toArray, List.set_cons_zero, List.set_cons_succ, List.getElem_toArray, List.getElem_cons_zero, List.getElem_cons_succ]
          generalize wv43.setCells pb40 0 (cells8 l2) = wv44 at *
          refine wpAnyH_done (by kernel_rfl) ?_ _
          go_wp2_with fail
          go_meet
          exact ⟨_, _, rfl, rfl, zp44, zq44, hS44⟩
      · have hb45 := (Below.refl wv1.heap.size wv1).alloc (Nat.le_refl _) (.cells zz 70)
        have hS45 : Below w6.heap.size w6 (wv1.alloc (.cells zz 70)) := bchain hS1 hb45
        have leq45 := hS1.size
        have zq45 : BlkB (wv1.alloc (.cells zz 70)) (wv1.heap.size) 70 (List.replicate 96 0) := ZN wv1 
        go_simp
        refine hK.out _ _ hS45 (fun hHeld => ?_)
        clear hK K
        try simp only [Act.put, List.setIfInBounds_toArray, List.set_cons_zero, List.set_cons_succ, List.getElem_toArray, List.getElem_cons_zero, List.getElem_cons_succ]
        generalize hv45 : wv1.alloc (.cells zz 70) = wv45 at *
        generalize hbl45 : wv1.heap.size = pb45 at *
        clear hb45
        refine wpAnyH_ready (rs := [5, 7]) (by kernel_rfl) (by simp) ?_
        refine (AllReadyH.cons rfl (fun K hK => ?_) (AllReadyH.cons rfl (fun K hK => ?_) AllReadyH.nil))
        · go_simp
          go_at_call 49
          with_reducible refine (C2 _ (by with_reducible assumption)).mono ?_
          rintro e wv46 ⟨rfl, hb46⟩
          have hS46 : Below w6.heap.size w6 wv46 := bchain (by with_reducible assumption) hb46
          have zq46 := blkB_up zq45 hb46
          dsimp only
          refine hK.out _ _ hS46 (fun hHeld => ?_)
          clear hK K
          try simp only [Act.put, List.setIfInBounds_toArray, List.set_cons_zero, List.set_cons_succ, List.getElem_toArray, List.getElem_cons_zero, List.getElem_cons_succ]
          refine wpAnyH_ready (rs := [6, 7]) (by kernel_rfl) (by simp) ?_
          refine (AllReadyH.cons rfl (fun K hK => ?_) (AllReadyH.cons rfl (fun K hK => ?_) AllReadyH.nil))
          · go_simp
            go_at_call 48
            with_reducible refine (C3 _ (by with_reducible assumption)).mono ?_
            rintro e wv47 ⟨rfl, hb47⟩
            have hS47 : Below w6.heap.size w6 wv47 := bchain (by with_reducible assumption) hb47
            have zq47 := blkB_up zq46 hb47
            dsimp only
            refine hK.out _ _ hS47 (fun hHeld => ?_)
            clear hK K
            try simp only [Act.put, List.setIfInBounds_toArray, List.set_cons_zero, List.set_cons_succ, List.getElem_toArray, List.getElem_cons_zero, List.getElem_cons_succ]
            refine wpAnyH_ready (rs := [7]) (by kernel_rfl) (by simp) ?_
            refine (AllReadyH.cons rfl (fun K hK => ?_) AllReadyH.nil)
            have hb48 := (Below.refl wv47.heap.size wv47).alloc (Nat.le_refl _) (.cells zz 70)
            have hS48 : Below w6.heap.size w6 (wv47.alloc (.cells zz 70)) := bchain hS47 hb48
            have lep48 := hS47.size
            have ltq48 := (zq47).size
            have zq48 := blkB_up zq47 hb48
            have zp48 : BlkB (wv47.alloc (.cells zz 70)) (wv47.heap.size) 70 (List.replicate 96 0) := ZN wv47 
            go_simp
            refine hK.out _ _ hS48 (fun hHeld => ?_)
            clear hK K
            try simp only [Act.put, List.setIfInBounds_toArray, List.set_cons_zero, List.set_cons_succ, List.getElem_toArray, List.getElem_cons_zero, List.getElem_cons_succ]
            generalize hv48 : wv47.alloc (.cells zz 70) = wv48 at *
            generalize hbl48 : wv47.heap.size = pb48 at *
            clear hb48
            refine wpAnyH_ready (rs := [9]) (by kernel_rfl) (by simp) ?_
            refine (AllReadyH.cons rfl (fun K hK => ?_) AllReadyH.nil)
            have hst49 := ST1 wv48 pb48 zp48
            go_simp
            have hS49 : Below w6.heap.size w6 (wv48.setCells pb48 0 (cells8 l1)) := below_cells lep48 _ _ _ hS48
            have zq49 := blkB_put (show pb45 ≠ pb48 by omega) (cells8 l1) 0 _ zq48
            have zp49 := OV1 _ _ zp48
            refine hK.out _ _ hS49 (fun hHeld => ?_)
            clear hK K hst49
            try simp only [Act.put, List.setIfInBounds_toArray, List.set_cons_zero, List.set_cons_succ, List.getElem_toArray, List.getElem_cons_zero, List.getElem_cons_succ]
            generalize wv48.setCells pb48 0 (cells8 l1) = wv49 at *
            refine wpAnyH_ready (rs := [10]) (by kernel_rfl) (by simp) ?_
            refine (AllReadyH.cons rfl (fun K hK => ?_) AllReadyH.nil)
            have hst50 := ST2 wv49 pb45 zq49
            go_simp
            have hS50 : Below w6.heap.size w6 (wv49.setCells pb45 0 (cells8 l2)) := below_cells leq45 _ _ _ hS49
            have zp50 := blkB_put (show pb48 ≠ pb45 by omega) (cells8 l2) 0 _ zp49
            have zq50 := OV2 _ _ zq49
            refine hK.out _ _ hS50 (fun hHeld => ?_)
            clear hK K hst50
            try simp only [Act.put, List.setIfInBounds_toArray, List.set_cons_zero, List.set_cons_succ, List.getElem_toArray, List.getElem_cons_zero, List.getElem_cons_succ]
            generalize wv49.setCells pb45 0 (cells8 l2) = wv50 at *
            refine wpAnyH_done (by kernel_rfl) ?_ _
            go_wp2_with fail
            go_meet
            exact ⟨_, _, rfl, rfl, zp50, zq50, hS50⟩
          · have hb51 := (Below.refl wv46.heap.size wv46).alloc (Nat.le_refl _) (.cells zz 70)
            have hS51 : Below w6.heap.size w6 (wv46.alloc (.cells zz 70)) := bchain hS46 hb51
            have lep51 := hS46.size
            have ltq51 := (zq46).size
            have zq51 := blkB_up zq46 hb51
            have zp51 : BlkB (wv46.alloc (.cells zz 70)) (wv46.heap.size) 70 (List.replicate 96 0) := ZN wv46 
            go_simp
            refine hK.out _ _ hS51 (fun hHeld => ?_)
            clear hK K
            try simp only [Act.put, List.setIfInBounds_toArray, List.set_cons_zero, List.set_cons_succ, List.getElem_toArray, List.getElem_cons_zero, List.getElem_cons_succ]
            generalize hv51 : wv46.alloc (.cells zz 70) = wv51 at *
            generalize hbl51 : wv46.heap.size = pb51 at *
            clear hb51
            refine wpAnyH_ready (rs := [6]) (by kernel_rfl) (by simp) ?_
            refine (AllReadyH.cons rfl (fun K hK => ?_) AllReadyH.nil)
            go_simp
            go_at_call 48
            with_reducible refine (C3 _ (by with_reducible assumption)).mono ?_
            rintro e wv52 ⟨rfl, hb52⟩
            have hS52 : Below w6.heap.size w6 wv52 := bchain (by with_reducible assumption) hb52
            have zq52 := blkB_up zq51 hb52
            have zp52 := blkB_up zp51 hb52
            dsimp only
            refine hK.out _ _ hS52 (fun hHeld => ?_)
            clear hK K
            try simp only [Act.put, List.setIfInBounds_toArray, List.set_cons_zero, List.set_cons_succ, List.getElem_toArray, List.getElem_cons_zero, List.getElem_cons_succ]
            refine wpAnyH_ready (rs := [9]) (by kernel_rfl) (by simp) ?_
            refine (AllReadyH.cons rfl (fun K hK => ?_) AllReadyH.nil)
            have hst53 := ST1 wv52 pb51 zp52
            go_simp
            have hS53 : Below w6.heap.size w6 (wv52.setCells pb51 0 (cells8 l1)) := below_cells lep51 _ _ _ hS52
            have zq53 := blkB_put (show pb45 ≠ pb51 by omega) (cells8 l1) 0 _ zq52
            have zp53 := OV1 _ _ zp52
            refine hK.out _ _ hS53 (fun hHeld => ?_)
            clear hK K hst53
            try simp only [Act.put, List.setIfInBounds_toArray, List.set_cons_zero, List.set_cons_succ, List.getElem_toArray, List.getElem_cons_zero, List.getElem_cons_succ]
            generalize wv52.setCells pb51 0 (cells8 l1) = wv53 at *
            refine wpAnyH_ready (rs := [10]) (by kernel_rfl) (by simp) ?_
            refine (AllReadyH.cons rfl (fun K hK => ?_) AllReadyH.nil)
            have hst54 := ST2 wv53 pb45 zq53
            go_simp
            have hS54 : Below w6.heap.size w6 (wv53.setCells pb45 0 (cells8 l2)) := below_cells leq45 _ _ _ hS53
            have zp54 := blkB_put (show pb51 ≠ pb45 by omega) (cells8 l2) 0 _ zp53
            have zq54 := OV2 _ _ zq53
            refine hK.out _ _ hS54 (fun hHeld => ?_)
            clear hK K hst54
            try simp only [Act.put, List.setIfInBounds_toArray, List.set_cons_zero, List.set_cons_succ, List.getElem_toArray, List.getElem_cons_zero, List.getElem_cons_succ]
            generalize wv53.setCells pb45 0 (cells8 l2) = wv54 at *
            refine wpAnyH_done (by kernel_rfl) ?_ _
            go_wp2_with fail
            go_meet
            exact ⟨_, _, rfl, rfl, zp54, zq54, hS54⟩
        · have hb55 := (Below.refl wv45.heap.size wv45).alloc (Nat.le_refl _) (.cells zz 70)
          have hS55 : Below w6.heap.size w6 (wv45.alloc (.cells zz 70)) := bchain hS45 hb55
          have lep55 := hS45.size
          have ltq55 := (zq45).size
          have zq55 := blkB_up zq45 hb55
          have zp55 : BlkB (wv45.alloc (.cells zz 70)) (wv45.heap.size) 70 (List.replicate 96 0) := ZN wv45 
          go_simp
          refine hK.out _ _ hS55 (fun hHeld => ?_)
          clear hK K
          try simp only [Act.put, List.setIfInBounds_toArray, List.set_cons_zero, List.set_cons_succ, List.getElem_toArray, List.getElem_cons_zero, List.getElem_cons_succ]
          generalize hv55 : wv45.alloc (.cells zz 70) = wv55 at *
          generalize hbl55 : wv45.heap.size = pb55 at *
          clear hb55
          refine wpAnyH_ready (rs := [5]) (by kernel_rfl) (by simp) ?_
          refine (AllReadyH.cons rfl (fun K hK => ?_) AllReadyH.nil)
          go_simp
          go_at_call 49
          with_reducible refine (C2 _ (by with_reducible assumption)).mono ?_
          rintro e wv56 ⟨rfl, hb56⟩
          have hS56 : Below w6.heap.size w6 wv56 := bchain (by with_reducible assumption) hb56
          have zq56 := blkB_up zq55 hb56
          have zp56 := blkB_up zp55 hb56
          dsimp only
          refine hK.out _ _ hS56 (fun hHeld => ?_)
          clear hK K
          try simp only [Act.put, List.setIfInBounds_toArray, List.set_cons_zero, List.set_cons_succ, List.getElem_toArray, List.getElem_cons_zero, List.getElem_cons_succ]
          refine wpAnyH_ready (rs := [6]) (by kernel_rfl) (by simp) ?_
          refine (AllReadyH.cons rfl (fun K hK => ?_) AllReadyH.nil)
          go_simp
          go_at_call 48
          with_reducible refine (C3 _ (by with_reducible assumption)).mono ?_
          rintro e wv57 ⟨rfl, hb57⟩
          have hS57 : Below w6.heap.size w6 wv57 := bchain (by with_reducible assumption) hb57
          have zq57 := blkB_up zq56 hb57
          have zp57 := blkB_up zp56 hb57
          dsimp only
          refine hK.out _ _ hS57 (fun hHeld => ?_)
          clear hK K
          try simp only [Act.put, List.setIfInBounds_toArray, List.set_cons_zero, List.set_cons_succ, List.getElem_toArray, List.getElem_cons_zero, List.getElem_cons_succ]
          refine wpAnyH_ready (rs := [9]) (by kernel_rfl) (by simp) ?_
          refine (AllReadyH.cons rfl (fun K hK => ?_) AllReadyH.nil)
          have hst58 := ST1 wv57 pb55 zp57
          go_simp
          have hS58 : Below w6.heap.size w6 (wv57.setCells pb55 0 (cells8 l1)) := below_cells lep55 _ _ _ hS57
          have zq58 := blkB_put (show pb45 ≠ pb55 by omega) (cells8 l1) 0 _ zq57
          have zp58 := OV1 _ _ zp57
          refine hK.out _ _ hS58 (fun hHeld => ?_)
          clear hK K hst58
          try simp only [Act.put, List.setIfInBounds_toArray, List.set_cons_zero, List.set_cons_succ, List.getElem_toArray, List.getElem_cons_zero, List.getElem_cons_succ]
          generalize wv57.setCells pb55 0 (cells8 l1) = wv58 at *
          refine wpAnyH_ready (rs := [10]) (by kernel_rfl) (by simp) ?_
          refine (AllReadyH.cons rfl (fun K hK => ?_) AllReadyH.nil)
          have hst59 := ST2 wv58 pb45 zq58
          go_simp
          have hS59 : Below w6.heap.size w6 (wv58.setCells pb45 0 (cells8 l2)) := below_cells leq45 _ _ _ hS58
          have zp59 := blkB_put (show pb55 ≠ pb45 by omega) (cells8 l2) 0 _ zp58
          have zq59 := OV2 _ _ zq58
          refine hK.out _ _ hS59 (fun hHeld => ?_)
          clear hK K hst59
          try simp only [Act.put, List.setIfInBounds_toArray, List.set_cons_zero, List.set_cons_succ, List.getElem_toArray, List.getElem_cons_zero, List.getElem_cons_succ]
          generalize wv58.setCells pb45 0 (cells8 l2) = wv59 at *
          refine wpAnyH_done (by kernel_rfl) ?_ _
          go_wp2_with fail
          go_meet
          exact ⟨_, _, rfl, rfl, zp59, zq59, hS59⟩
    · have hb60 := (Below.refl v0.heap.size v0).alloc (Nat.le_refl _) (.cells zz 70)
      have hS60 : Below w6.heap.size w6 (v0.alloc (.cells zz 70)) := bchain hS0 hb60
      have lep60 := hS0.size
      have zp60 : BlkB (v0.alloc (.cells zz 70)) (v0.heap.size) 70 (List.replicate 96 0) := ZN v0 
      go_simp
      refine hK.out _ _ hS60 (fun hHeld => ?_)
      clear hK K
      try simp only [Act.put, List.setIfInBounds_toArray, List.set_cons_zero, List.set_cons_succ, List.getElem_toArray, List.getElem_cons_zero, List.getElem_cons_succ]
      generalize hv60 : v0.alloc (.cells zz 70) = wv60 at *
      generalize hbl60 : v0.heap.size = pb60 at *
      clear hb60
      refine wpAnyH_ready (rs := [1, 8]) (by kernel_rfl) (by simp) ?_
      refine (AllReadyH.cons rfl (fun K hK => ?_) (AllReadyH.cons rfl (fun K hK => ?_) AllReadyH.nil))
      · go_simp
        go_at_call 48
        with_reducible refine (C1 _ (by with_reducible assumption)).mono ?_
        rintro e wv61 ⟨rfl, hb61⟩
        have hS61 : Below w6.heap.size w6 wv61 := bchain (by with_reducible assumption) hb61
        have zp61 := blkB_up zp60 hb61
        dsimp only
        refine hK.out _ _ hS61 (fun hHeld => ?_)
        clear hK K
        try simp only [Act.put, List.setIfInBounds_toArray, List.set_cons_zero, List.set_cons_succ, List.getElem_toArray, List.getElem_cons_zero, List.getElem_cons_succ]
        refine wpAnyH_ready (rs := [5, 8]) (by kernel_rfl) (by simp) ?_
        refine (AllReadyH.cons rfl (fun K hK => ?_) (AllReadyH.cons rfl (fun K hK => ?_) AllReadyH.nil))
        · go_simp
          go_at_call 49
          with_reducible refine (C2 _ (by with_reducible assumption)).mono ?_
          rintro e wv62 ⟨rfl, hb62⟩
          have hS62 : Below w6.heap.size w6 wv62 := bchain (by with_reducible assumption) hb62
          have zp62 := blkB_up zp61 hb62
          dsimp only
          refine hK.out _ _ hS62 (fun hHeld => ?_)
          clear hK K
          try simp only [Act.put, List.setIfInBounds_toArray, List.set_cons_zero, List.set_cons_succ, List.getElem_toArray, List.getElem_cons_zero, List.getElem_cons_succ]
          refine wpAnyH_ready (rs := [6, 8]) (by kernel_rfl) (by simp) ?_
          refine (AllReadyH.cons rfl (fun K hK => ?_) (AllReadyH.cons rfl (fun K hK => ?_) AllReadyH.nil))
          · go_simp
            go_at_call 48
            with_reducible refine (C3 _ (by with_reducible assumption)).mono ?_
            rintro e wv63 ⟨rfl, hb63⟩
            have hS63 : Below w6.heap.size w6 wv63 := bchain (by with_reducible assumption) hb63
            have zp63 := blkB_up zp62 hb63
            dsimp only
            refine hK.out _ _ hS63 (fun hHeld => ?_)
            clear hK K
            try simp only [Act.put, List.setIfInBounds_toArray, List.set_cons_zero, List.set_cons_succ, List.getElem_toArray, List.getElem_cons_zero, List.getElem_cons_succ]
            refine wpAnyH_ready (rs := [8]) (by kernel_rfl) (by simp) ?_
            refine (AllReadyH.cons rfl (fun K hK => ?_) AllReadyH.nil)
            have hb64 := (Below.refl wv63.heap.size wv63).alloc (Nat.le_refl _) (.cells zz 70)
            have hS64 : Below w6.heap.size w6 (wv63.alloc (.cells zz 70)) := bchain hS63 hb64
            have leq64 := hS63.size
            have ltp64 := (zp63).size
            have zp64 := blkB_up zp63 hb64
            have zq64 : BlkB (wv63.alloc (.cells zz 70)) (wv63.heap.size) 70 (List.replicate 96 0) := ZN wv63 
            go_simp
            refine hK.out _ _ hS64 (fun hHeld => ?_)
            clear hK K
            try simp only [Act.put, List.setIfInBounds_toArray, List.set_cons_zero, List.set_cons_succ, List.getElem_toArray, List.getElem_cons_zero, List.getElem_cons_succ]
            generalize hv64 : wv63.alloc (.cells zz 70) = wv64 at *
            generalize hbl64 : wv63.heap.size = pb64 at *
            clear hb64
            refine wpAnyH_ready (rs := [9]) (by kernel_rfl) (by simp) ?_
            refine (AllReadyH.cons rfl (fun K hK => ?_) AllReadyH.nil)
            have hst65 := ST1 wv64 pb60 zp64
            go_simp
            have hS65 : Below w6.heap.size w6 (wv64.setCells pb60 0 (cells8 l1)) := below_cells lep60 _ _ _ hS64
            have zq65 := blkB_put (show pb64 ≠ pb60 by omega) (cells8 l1) 0 _ zq64
            have zp65 := OV1 _ _ zp64
            refine hK.out _ _ hS65 (fun hHeld => ?_)
            clear hK K hst65
            try simp only [Act.put, List.setIfInBounds_toArray, List.set_cons_zero, List.set_cons_succ, List.getElem_toArray, List.getElem_cons_zero, List.getElem_cons_succ]
            generalize wv64.setCells pb60 0 (cells8 l1) = wv65 at *
            refine wpAnyH_ready (rs := [10]) (by kernel_rfl) (by simp) ?_
            refine (AllReadyH.cons rfl (fun K hK => ?_) AllReadyH.nil)
            have hst66 := ST2 wv65 pb64 zq65
            go_simp
            have hS66 : Below w6.heap.size w6 (wv65.setCells pb64 0 (cells8 l2)) := below_cells leq64 _ _ _ hS65
            have zp66 := blkB_put (show pb60 ≠ pb64 by omega) (cells8 l2) 0 _ zp65
            have zq66 := OV2 _ _ zq65
            refine hK.out _ _ hS66 (fun hHeld => ?_)
            clear hK K hst66
            try simp only [Act.put, List.setIfInBounds_toArray, List.set_cons_zero, List.set_cons_succ, List.getElem_toArray, List.getElem_cons_zero, List.getElem_cons_succ]
            generalize wv65.setCells pb64 0 (cells8 l2) = wv66 at *
            refine wpAnyH_done (by kernel_rfl) ?_ _
            go_wp2_with fail
            go_meet
            exact ⟨_, _, rfl, rfl, zp66, zq66, hS66⟩
          · have hb67 := (Below.refl wv62.heap.size wv62).alloc (Nat.le_refl _) (.cells zz 70)
            have hS67 : Below w6.heap.size w6 (wv62.alloc (.cells zz 70)) := bchain hS62 hb67
            have leq67 := hS62.size
            have ltp67 := (zp62).size
            have zp67 := blkB_up zp62 hb67
            have zq67 : BlkB (wv62.alloc (.cells zz 70)) (wv62.heap.size) 70 (List.replicate 96 0) := ZN wv62 
            go_simp
            refine hK.out _ _ hS67 (fun hHeld => ?_)
            clear hK K
            try simp only [Act.put, List.setIfInBounds_toArray, List.set_cons_zero, List.set_cons_succ, List.getElem_toArray, List.getElem_cons_zero, List.getElem_cons_succ]
            generalize hv67 : wv62.alloc (.cells zz 70) = wv67 at *
            generalize hbl67 : wv62.heap.size = pb67 at *
            clear hb67
            refine wpAnyH_ready (rs := [6]) (by kernel_rfl) (by simp) ?_
            refine (AllReadyH.cons rfl (fun K hK => ?_) AllReadyH.nil)
            go_simp
            go_at_call 48
            with_reducible refine (C3 _ (by with_reducible assumption)).mono ?_
            rintro e wv68 ⟨rfl, hb68⟩
            have hS68 : Below w6.heap.size w6 wv68 := bchain (by with_reducible assumption) hb68
            have zp68 := blkB_up zp67 hb68
            have zq68 := blkB_up zq67 hb68
            dsimp only
            refine hK.out _ _ hS68 (fun hHeld => ?_)
            clear hK K
            try simp only [Act.put, List.setIfInBounds_toArray, List.set_cons_zero, List.set_cons_succ, List.getElem_toArray, List.getElem_cons_zero, List.getElem_cons_succ]
            refine wpAnyH_ready (rs := [9]) (by kernel_rfl) (by simp) ?_
            refine (AllReadyH.cons rfl (fun K hK => ?_) AllReadyH.nil)
            have hst69 := ST1 wv68 pb60 zp68
            go_simp
            have hS69 : Below w6.heap.size w6 (wv68.setCells pb60 0 (cells8 l1)) := below_cells lep60 _ _ _ hS68
            have zq69 := blkB_put (show pb67 ≠ pb60 by omega) (cells8 l1) 0 _ zq68
            have zp69 := OV1 _ _ zp68
            refine hK.out _ _ hS69 (fun hHeld => ?_)
            clear hK K hst69
            try simp only [Act.put, List.setIfInBounds_toArray, List.set_cons_zero, List.set_cons_succ, List.getElem_toArray, List.getElem_cons_zero, List.getElem_cons_succ]
            generalize wv68.setCells pb60 0 (cells8 l1) = wv69 at *
            refine wpAnyH_ready (rs := [10]) (by kernel_rfl) (by simp) ?_
            refine (AllReadyH.cons rfl (fun K hK => ?_) AllReadyH.nil)
            have hst70 := ST2 wv69 pb67 zq69
            go_simp
            have hS70 : Below w6.heap.size w6 (wv69.setCells pb67 0 (cells8 l2)) := below_cells leq67 _ _ _ hS69
            have zp70 := blkB_put (show pb60 ≠ pb67 by omega) (cells8 l2) 0 _ zp69
            have zq70 := OV2 _ _ zq69
            refine hK.out _ _ hS70 (fun hHeld => ?_)
            clear hK K hst70
            try simp only [Act.put, List.setIfInBounds_toArray, List.set_cons_zero, List.set_cons_succ, List.getElem_toArray, List.getElem_cons_zero, List.getElem_cons_succ]
            generalize wv69.setCells pb67 0 (cells8 l2) = wv70 at *
            refine wpAnyH_done (by kernel_rfl) ?_ _
            go_wp2_with fail
            go_meet
            exact ⟨_, _, rfl, rfl, zp70, zq70, hS70⟩
        · have hb71 := (Below.refl wv61.heap.size wv61).alloc (Nat.le_refl _) (.cells zz 70)
          have hS71 : Below w6.heap.size w6 (wv61.alloc (.cells zz 70)) := bchain hS61 hb71
          have leq71 := hS61.size
          have ltp71 := (zp61).size
          have zp71 := blkB_up zp61 hb71
          have zq71 : BlkB (wv61.alloc (.cells zz 70)) (wv61.heap.size) 70 (List.replicate 96 0) := ZN wv61 
          go_simp
          refine hK.out _ _ hS71 (fun hHeld => ?_)
          clear hK K
          try simp only [Act.put, List.setIfInBounds_toArray, List.set_cons_zero, List.set_cons_succ, List.getElem_toArray, List.getElem_cons_zero, List.getElem_cons_succ]
          generalize hv71 : wv61.alloc (.cells zz 70) = wv71 at *
          generalize hbl71 : wv61.heap.size = pb71 at *
          clear hb71
          refine wpAnyH_ready (rs := [5]) (by kernel_rfl) (by simp) ?_
          refine (AllReadyH.cons rfl (fun K hK => ?_) AllReadyH.nil)
          go_simp
          go_at_call 49
          with_reducible refine (C2 _ (by with_reducible assumption)).mono ?_
          rintro e wv72 ⟨rfl, hb72⟩
          have hS72 : Below w6.heap.size w6 wv72 := bchain (by with_reducible assumption) hb72
          have zp72 := blkB_up zp71 hb72
          have zq72 := blkB_up zq71 hb72
          dsimp only
          refine hK.out _ _ hS72 (fun hHeld => ?_)
          clear hK K
          try simp only [Act.put, List.setIfInBounds_toArray, List.set_cons_zero, List.set_cons_succ, List.getElem_toArray, List.getElem_cons_zero, List.getElem_cons_succ]
          refine wpAnyH_ready (rs := [6]) (by kernel_rfl) (by simp) ?_
          refine (AllReadyH.cons rfl (fun K hK => ?_) AllReadyH.nil)
          go_simp
          go_at_call 48
          with_reducible refine (C3 _ (by with_reducible assumption)).mono ?_
          rintro e wv73 ⟨rfl, hb73⟩
          have hS73 : Below w6.heap.size w6 wv73 := bchain (by with_reducible assumption) hb73
          have zp73 := blkB_up zp72 hb73
          have zq73 := blkB_up zq72 hb73
          dsimp only
          refine hK.out _ _ hS73 (fun hHeld => ?_)
          clear hK K
          try simp only [Act.put, List.setIfInBounds_toArray, List.set_cons_zero, List.set_cons_succ, List.getElem_toArray, List.getElem_cons_zero, List.getElem_cons_succ]
          refine wpAnyH_ready (rs := [9]) (by kernel_rfl) (by simp) ?_
          refine (AllReadyH.cons rfl (fun K hK => ?_) AllReadyH.nil)
          have hst74 := ST1 wv73 pb60 zp73
          go_simp
          have hS74 : Below w6.heap.size w6 (wv73.setCells pb60 0 (cells8 l1)) := below_cells lep60 _ _ _ hS73
          have zq74 := blkB_put (show pb71 ≠ pb60 by omega) (cells8 l1) 0 _ zq73
          have zp74 := OV1 _ _ zp73
          refine hK.out _ _ hS74 (fun hHeld => ?_)
          clear hK K hst74
          try simp only [Act.put, List.setIfInBounds_toArray, List.set_cons_zero, List.set_cons_succ, List.getElem_toArray, List.getElem_cons_zero, List.getElem_cons_succ]
          generalize wv73.setCells pb60 0 (cells8 l1) = wv74 at *
          refine wpAnyH_ready (rs := [10]) (by kernel_rfl) (by simp) ?_
          refine (AllReadyH.cons rfl (fun K hK => ?_) AllReadyH.nil)
          have hst75 := ST2 wv74 pb71 zq74
          go_simp
          have hS75 : Below w6.heap.size w6 (wv74.setCells pb71 0 (cells8 l2)) := below_cells leq71 _ _ _ hS74
          have zp75 := blkB_put (show pb60 ≠ pb71 by omega) (cells8 l2) 0 _ zp74
          have zq75 := OV2 _ _ zq74
          refine hK.out _ _ hS75 (fun hHeld => ?_)
          clear hK K hst75
          try simp only [Act.put, List.setIfInBounds_toArray, List.set_cons_zero, List.set_cons_succ, List.getElem_toArray, List.getElem_cons_zero, List.getElem_cons_succ]
          generalize wv74.setCells pb71 0 (cells8 l2) = wv75 at *
          refine wpAnyH_done (by kernel_rfl) ?_ _
          go_wp2_with fail
          go_meet
          exact ⟨_, _, rfl, rfl, zp75, zq75, hS75⟩
      · have hb76 := (Below.refl wv60.heap.size wv60).alloc (Nat.le_refl _) (.cells zz 70)
        have hS76 : Below w6.heap.size w6 (wv60.alloc (.cells zz 70)) := bchain hS60 hb76
        have leq76 := hS60.size
        have ltp76 := (zp60).size
        have zp76 := blkB_up zp60 hb76
        have zq76 : BlkB (wv60.alloc (.cells zz 70)) (wv60.heap.size) 70 (List.replicate 96 0) := ZN wv60 
        go_simp
        refine hK.out _ _ hS76 (fun hHeld => ?_)
        clear hK K
        try simp only [Act.put, List.setIfInBounds_toArray, List.set_cons_zero, List.set_cons_succ, List.getElem_toArray, List.getElem_cons_zero, List.getElem_cons_succ]
        generalize hv76 : wv60.alloc (.cells zz 70) = wv76 at *
        generalize hbl76 : wv60.heap.size = pb76 at *
        clear hb76
        refine wpAnyH_ready (rs := [1]) (by kernel_rfl) (by simp) ?_
        refine (AllReadyH.cons rfl (fun K hK => ?_) AllReadyH.nil)
        go_simp
        go_at_call 48
        with_reducible refine (C1 _ (by with_reducible assumption)).mono ?_
        rintro e wv77 ⟨rfl, hb77⟩
        have hS77 : Below w6.heap.size w6 wv77 := bchain (by with_reducible assumption) hb77
        have zp77 := blkB_up zp76 hb77
        have zq77 := blkB_up zq76 hb77
        dsimp only
        refine hK.out _ _ hS77 (fun hHeld => ?_)
        clear hK K
        try simp only [Act.put, List.setIfInBounds_toArray, List.set_cons_zero, List.set_cons_succ, List.getElem_toArray, List.getElem_cons_zero, List.getElem_cons_succ]
        refine wpAnyH_ready (rs := [5]) (by kernel_rfl) (by simp) ?_
        refine (AllReadyH.cons rfl (fun K hK => ?_) AllReadyH.nil)
        go_simp
        go_at_call 49
        with_reducible refine (C2 _ (by with_reducible assumption)).mono ?_
        rintro e wv78 ⟨rfl, hb78⟩
        have hS78 : Below w6.heap.size w6 wv78 := bchain (by with_reducible assumption) hb78
        have zp78 := blkB_up zp77 hb78
        have zq78 := blkB_up zq77 hb78
        dsimp only
        refine hK.out _ _ hS78 (fun hHeld => ?_)
        clear hK K
        try simp only [Act.put, List.setIfInBounds_toArray, List.set_cons_zero, List.set_cons_succ, List.getElem_toArray, List.getElem_cons_zero, List.getElem_cons_succ]
        refine wpAnyH_ready (rs := [6]) (by kernel_rfl) (by simp) ?_
        refine (AllReadyH.cons rfl (fun K hK => ?_) AllReadyH.nil)
        go_simp
        go_at_call 48
        with_reducible refine (C3 _ (by with_reducible assumption)).mono ?_
        rintro e wv79 ⟨rfl, hb79⟩
        have hS79 : Below w6.heap.size w6 wv79 := bchain (by with_reducible assumption) hb79
        have zp79 := blkB_up zp78 hb79
        have zq79 := blkB_up zq78 hb79
        dsimp only
        refine hK.out _ _ hS79 (fun hHeld => ?_)
        clear hK K
        try simp only [Act.put, List.setIfInBounds_toArray, List.set_cons_zero, List.set_cons_succ, List.getElem_toArray, List.getElem_cons_zero, List.getElem_cons_succ]
        refine wpAnyH_ready (rs := [9]) (by kernel_rfl) (by simp) ?_
        refine (AllReadyH.cons rfl (fun K hK => ?_) AllReadyH.nil)
        have hst80 := ST1 wv79 pb60 zp79
        go_simp
        have hS80 : Below w6.heap.size w6 (wv79.setCells pb60 0 (cells8 l1)) := below_cells lep60 _ _ _ hS79
        have zq80 := blkB_put (show pb76 ≠ pb60 by omega) (cells8 l1) 0 _ zq79
        have zp80 := OV1 _ _ zp79
        refine hK.out _ _ hS80 (fun hHeld => ?_)
        clear hK K hst80
        try simp only [Act.put, List.setIfInBounds_toArray, List.set_cons_zero, List.set_cons_succ, List.getElem_toArray, List.getElem_cons_zero, List.getElem_cons_succ]
        generalize wv79.setCells pb60 0 (cells8 l1) = wv80 at *
        refine wpAnyH_ready (rs := [10]) (by kernel_rfl) (by simp) ?_
        refine (AllReadyH.cons rfl (fun K hK => ?_) AllReadyH.nil)
        have hst81 := ST2 wv80 pb76 zq80
        go_simp
        have hS81 : Below w6.heap.size w6 (wv80.setCells pb76 0 (cells8 l2)) := below_cells leq76 _ _ _ hS80
        have zp81 := blkB_put (show pb60 ≠ pb76 by omega) (cells8 l2) 0 _ zp80
        have zq81 := OV2 _ _ zq80
        refine hK.out _ _ hS81 (fun hHeld => ?_)
        clear hK K hst81
        try simp only [Act.put, List.setIfInBounds_toArray, List.set_cons_zero, List.set_cons_succ, List.getElem_toArray, List.getElem_cons_zero, List.getElem_cons_succ]
        generalize wv80.setCells pb76 0 (cells8 l2) = wv81 at *
        refine wpAnyH_done (by kernel_rfl) ?_ _
        go_wp2_with fail
        go_meet
        exact ⟨_, _, rfl, rfl, zp81, zq81, hS81⟩
    · have hb82 := (Below.refl v0.heap.size v0).alloc (Nat.le_refl _) (.cells zz 70)
      have hS82 : Below w6.heap.size w6 (v0.alloc (.cells zz 70)) := bchain hS0 hb82
      have leq82 := hS0.size
      have zq82 : BlkB (v0.alloc (.cells zz 70)) (v0.heap.size) 70 (List.replicate 96 0) := ZN v0 
      go_simp
      refine hK.out _ _ hS82 (fun hHeld => ?_)
      clear hK K
      try simp only [Act.put, List.setIfInBounds_toArray, List.set_cons_zero, List.set_cons_succ, List.getElem_toArray, List.getElem_cons_zero, List.getElem_cons_succ]
      generalize hv82 : v0.alloc (.cells zz 70) = wv82 at *
      generalize hbl82 : v0.heap.size = pb82 at *
      clear hb82
      refine wpAnyH_ready (rs := [1, 7]) (by kernel_rfl) (by simp) ?_
      refine (AllReadyH.cons rfl (fun K hK => ?_) (AllReadyH.cons rfl (fun K hK => ?_) AllReadyH.nil))
      · go_simp
        go_at_call 48
        with_reducible refine (C1 _ (by with_reducible assumption)).mono ?_
        rintro e wv83 ⟨rfl, hb83⟩
        have hS83 : Below w6.heap.size w6 wv83 := bchain (by with_reducible assumption) hb83
        have zq83 := blkB_up zq82 hb83
        dsimp only
        refine hK.out _ _ hS83 (fun hHeld => ?_)
        clear hK K
        try simp only [Act.put, List.setIfInBounds_toArray, List.set_cons_zero, List.set_cons_succ, List.getElem_toArray, List.getElem_cons_zero, List.getElem_cons_succ]
        refine wpAnyH_ready (rs := [5, 7]) (by kernel_rfl) (by simp) ?_
        refine (AllReadyH.cons rfl (fun K hK => ?_) (AllReadyH.cons rfl (fun K hK => ?_) AllReadyH.nil))
        · go_simp
          go_at_call 49
          with_reducible refine (C2 _ (by with_reducible assumption)).mono ?_
          rintro e wv84 ⟨rfl, hb84⟩
          have hS84 : Below w6.heap.size w6 wv84 := bchain (by with_reducible assumption) hb84
          have zq84 := blkB_up zq83 hb84
          dsimp only
          refine hK.out _ _ hS84 (fun hHeld => ?_)
          clear hK K
          try simp only [Act.put, List.setIfInBounds_toArray, List.set_cons_zero, List.set_cons_succ, List.getElem_toArray, List.getElem_cons_zero, List.getElem_cons_succ]
          refine wpAnyH_ready (rs := [6, 7]) (by kernel_rfl) (by simp) ?_
          refine (AllReadyH.cons rfl (fun K hK => ?_) (AllReadyH.cons rfl (fun K hK => ?_) AllReadyH.nil))
          · go_simp
            go_at_call 48
            with_reducible refine (C3 _ (by with_reducible assumption)).mono ?_
            rintro e wv85 ⟨rfl, hb85⟩
            have hS85 : Below w6.heap.size w6 wv85 := bchain (by with_reducible assumption) hb85
            have zq85 := blkB_up zq84 hb85
            dsimp only
            refine hK.out _ _ hS85 (fun hHeld => ?_)
            clear hK K
            try simp only [Act.put, List.setIfInBounds_toArray, List.set_cons_zero, List.set_cons_succ, List.getElem_toArray, List.getElem_cons_zero, List.getElem_cons_succ]
            refine wpAnyH_ready (rs := [7]) (by kernel_rfl) (by simp) ?_
            refine (AllReadyH.cons rfl (fun K hK => ?_) AllReadyH.nil)
            have hb86 := (Below.refl wv85.heap.size wv85).alloc (Nat.le_refl _) (.cells zz 70)
            have hS86 : Below w6.heap.size w6 (wv85.alloc (.cells zz 70)) := bchain hS85 hb86
            have lep86 := hS85.size
            have ltq86 := (zq85).size
            have zq86 := blkB_up zq85 hb86
            have zp86 : BlkB (wv85.alloc (.cells zz 70)) (wv85.heap.size) 70 (List.replicate 96 0) := ZN wv85 
            go_simp
            refine hK.out _ _ hS86 (fun hHeld => ?_)
            clear hK K
            try simp only [Act.put, List.setIfInBounds_toArray, List.set_cons_zero, List.set_cons_succ, List.getElem_toArray, List.getElem_cons_zero, List.getElem_cons_succ]
            generalize hv86 : wv85.alloc (.cells zz 70) = wv86 at *
            generalize hbl86 : wv85.heap.size = pb86 at *
            clear hb86
            refine wpAnyH_ready (rs := [9]) (by kernel_rfl) (by simp) ?_
            refine (AllReadyH.cons rfl (fun K hK => ?_) AllReadyH.nil)
            have hst87 := ST1 wv86 pb86 zp86
            go_simp
            have hS87 : Below w6.heap.size w6 (wv86.setCells pb86 0 (cells8 l1)) := below_cells lep86 _ _ _ hS86
            have zq87 := blkB_put (show pb82 ≠ pb86 by omega) (cells8 l1) 0 _ zq86
            have zp87 := OV1 _ _ zp86
            refine hK.out _ _ hS87 (fun hHeld => ?_)
            clear hK K hst87
            try simp only [Act.put, List.setIfInBounds_toArray, List.set_cons_zero, List.set_cons_succ, List.getElem_toArray, List.getElem_cons_zero, List.getElem_cons_succ]
            generalize wv86.setCells pb86 0 (cells8 l1) = wv87 at *
            refine wpAnyH_ready (rs := [10]) (by kernel_rfl) (by simp) ?_
            refine (AllReadyH.cons rfl (fun K hK => ?_) AllReadyH.nil)
            have hst88 := ST2 wv87 pb82 zq87
            go_simp
            have hS88 : Below w6.heap.size w6 (wv87.setCells pb82 0 (cells8 l2)) := below_cells leq82 _ _ _ hS87
            have zp88 := blkB_put (show pb86 ≠ pb82 by omega) (cells8 l2) 0 _ zp87
            have zq88 := OV2 _ _ zq87
            refine hK.out _ _ hS88 (fun hHeld => ?_)
            clear hK K hst88
            try simp only [Act.put, List.setIfInBounds_toArray, List.set_cons_zero, List.set_cons_succ, List.getElem_toArray, List.getElem_cons_zero, List.getElem_cons_succ]
            generalize wv87.setCells pb82 0 (cells8 l2) = wv88 at *
            refine wpAnyH_done (by kernel_rfl) ?_ _
            go_wp2_with fail
            go_meet
            exact ⟨_, _, rfl, rfl, zp88, zq88, hS88⟩
          · have hb89 := (Below.refl wv84.heap.size wv84).alloc (Nat.le_refl _) (.cells zz 70)
            have hS89 : Below w6.heap.size w6 (wv84.alloc (.cells zz 70)) := bchain hS84 hb89
            have lep89 := hS84.size
            have ltq89 := (zq84).size
            have zq89 := blkB_up zq84 hb89
            have zp89 : BlkB (wv84.alloc (.cells zz 70)) (wv84.heap.size) 70 (List.replicate 96 0) := ZN wv84 
            go_simp
            refine hK.out _ _ hS89 (fun hHeld => ?_)
            clear hK K
            try simp only [Act.put, List.setIfInBounds_toArray, List.set_cons_zero, List.set_cons_succ, List.getElem_toArray, List.getElem_cons_zero, List.getElem_cons_succ]
            generalize hv89 : wv84.alloc (.cells zz 70) = wv89 at *
            generalize hbl89 : wv84.heap.size = pb89 at *
            clear hb89
            refine wpAnyH_ready (rs := [6]) (by kernel_rfl) (by simp) ?_
            refine (AllReadyH.cons rfl (fun K hK => ?_) AllReadyH.nil)
            go_simp
            go_at_call 48
            with_reducible refine (C3 _ (by with_reducible assumption)).mono ?_
            rintro e wv90 ⟨rfl, hb90⟩
            have hS90 : Below w6.heap.size w6 wv90 := bchain (by with_reducible assumption) hb90
            have zq90 := blkB_up zq89 hb90
            have zp90 := blkB_up zp89 hb90
            dsimp only
            refine hK.out _ _ hS90 (fun hHeld => ?_)
            clear hK K
            try simp only [Act.put, List.setIfInBounds_toArray, List.set_cons_zero, List.set_cons_succ, List.getElem_toArray, List.getElem_cons_zero, List.getElem_cons_succ]
            refine wpAnyH_ready (rs := [9]) (by kernel_rfl) (by simp) ?_
            refine (AllReadyH.cons rfl (fun K hK => ?_) AllReadyH.nil)
            have hst91 := ST1 wv90 pb89 zp90
            go_simp
            have hS91 : Below w6.heap.size w6 (wv90.setCells pb89 0 (cells8 l1)) := below_cells lep89 _ _ _ hS90
            have zq91 := blkB_put (show pb82 ≠ pb89 by omega) (cells8 l1) 0 _ zq90
            have zp91 := OV1 _ _ zp90
            refine hK.out _ _ hS91 (fun hHeld => ?_)
            clear hK K hst91
            try simp only [Act.put, List.setIfInBounds_toArray, List.set_cons_zero, List.set_cons_succ, List.getElem_toArray, List.getElem_cons_zero, List.getElem_cons_succ]
            generalize wv90.setCells pb89 0 (cells8 l1) = wv91 at *
            refine wpAnyH_ready (rs := [10]) (by kernel_rfl) (by simp) ?_
            refine (AllReadyH.cons rfl (fun K hK => ?_) AllReadyH.nil)
            have hst92 := ST2 wv91 pb82 zq91
            go_simp
            have hS92 : Below w6.heap.size w6 (wv91.setCells pb82 0 (cells8 l2)) := below_cells leq82 _ _ _ hS91
            have zp92 := blkB_put (show pb89 ≠ pb82 by omega) (cells8 l2) 0 _ zp91
            have zq92 := OV2 _ _ zq91
            refine hK.out _ _ hS92 (fun hHeld => ?_)
            clear hK K hst92
            try simp only [Act.put, List.setIfInBounds_toArray, List.set_cons_zero, List.set_cons_succ, List.getElem_toArray, List.getElem_cons_zero, List.getElem_cons_succ]
            generalize wv91.setCells pb82 0 (cells8 l2) = wv92 at *
            refine wpAnyH_done (by kernel_rfl) ?_ _
            go_wp2_with fail
            go_meet
            exact ⟨_, _, rfl, rfl, zp92, zq92, hS92⟩
        · have hb93 := (Below.refl wv83.heap.size wv83).alloc (Nat.le_refl _) (.cells zz 70)
          have hS93 : Below w6.heap.size w6 (wv83.alloc (.cells zz 70)) := bchain hS83 hb93
          have lep93 := hS83.size
          have ltq93 := (zq83).size
          have zq93 := blkB_up zq83 hb93
          have zp93 : BlkB (wv83.alloc (.cells zz 70)) (wv83.heap.size) 70 (List.replicate 96 0) := ZN wv83 
          go_simp
          refine hK.out _ _ hS93 (fun hHeld => ?_)
          clear hK K
          try simp only [Act.put, List.setIfInBounds_toArray, List.set_cons_zero, List.set_cons_succ, List.getElem_toArray, List.getElem_cons_zero, List.getElem_cons_succ]
          generalize hv93 : wv83.alloc (.cells zz 70) = wv93 at *
          generalize hbl93 : wv83.heap.size = pb93 at *
          clear hb93
          refine wpAnyH_ready (rs := [5]) (by kernel_rfl) (by simp) ?_
          refine (AllReadyH.cons rfl (fun K hK => ?_) AllReadyH.nil)
          go_simp
          go_at_call 49
          with_reducible refine (C2 _ (by with_reducible assumption)).mono ?_
          rintro e wv94 ⟨rfl, hb94⟩
          have hS94 : Below w6.heap.size w6 wv94 := bchain (by with_reducible assumption) hb94
          have zq94 := blkB_up zq93 hb94
          have zp94 := blkB_up zp93 hb94
          dsimp only
          refine hK.out _ _ hS94 (fun hHeld => ?_)
          clear hK K
          try simp only [Act.put, List.setIfInBounds_toArray, List.set_cons_zero, List.set_cons_succ, List.getElem_toArray, List.getElem_cons_zero, List.getElem_cons_succ]
          refine wpAnyH_ready (rs := [6]) (by kernel_rfl) (by simp) ?_
          refine (AllReadyH.cons rfl (fun K hK => ?_) AllReadyH.nil)
          go_simp
          go_at_call 48
          with_reducible refine (C3 _ (by with_reducible assumption)).mono ?_
          rintro e wv95 ⟨rfl, hb95⟩
          have hS95 : Below w6.heap.size w6 wv95 := bchain (by with_reducible assumption) hb95
          have zq95 := blkB_up zq94 hb95
          have zp95 := blkB_up zp94 hb95
          dsimp only
          refine hK.out _ _ hS95 (fun hHeld => ?_)
          clear hK K
          try simp only [Act.put, List.setIfInBounds_toArray, List.set_cons_zero, List.set_cons_succ, List.getElem_toArray, List.getElem_cons_zero, List.getElem_cons_succ]
          refine wpAnyH_ready (rs := [9]) (by kernel_rfl) (by simp) ?_
          refine (AllReadyH.cons rfl (fun K hK => ?_) AllReadyH.nil)
          have hst96 := ST1 wv95 pb93 zp95
          go_simp
          have hS96 : Below w6.heap.size w6 (wv95.setCells pb93 0 (cells8 l1)) := below_cells lep93 _ _ _ hS95
          have zq96 := blkB_put (show pb82 ≠ pb93 by omega) (cells8 l1) 0 _ zq95
          have zp96 := OV1 _ _ zp95
          refine hK.out _ _ hS96 (fun hHeld => ?_)
          clear hK K hst96
          try simp only [Act.put, List.setIfInBounds_toArray, List.set_cons_zero, List.set_cons_succ, List.getElem_toArray, List.getElem_cons_zero, List.getElem_cons_succ]
          generalize wv95.setCells pb93 0 (cells8 l1) = wv96 at *
          refine wpAnyH_ready (rs := [10]) (by kernel_rfl) (by simp) ?_
          refine (AllReadyH.cons rfl (fun K hK => ?_) AllReadyH.nil)
          have hst97 := ST2 wv96 pb82 zq96
          go_simp
          have hS97 : Below w6.heap.size w6 (wv96.setCells pb82 0 (cells8 l2)) := below_cells leq82 _ _ _ hS96
          have zp97 := blkB_put (show pb93 ≠ pb82 by omega) (cells8 l2) 0 _ zp96
          have zq97 := OV2 _ _ zq96
          refine hK.out _ _ hS97 (fun hHeld => ?_)
          clear hK K hst97
          try simp only [Act.put, List.setIfInBounds_toArray, List.set_cons_zero, List.set_cons_succ, List.getElem_toArray, List.getElem_cons_zero, List.getElem_cons_succ]
          generalize wv96.setCells pb82 0 (cells8 l2) = wv97 at *
          refine wpAnyH_done (by kernel_rfl) ?_ _
          go_wp2_with fail
          go_meet
          exact ⟨_, _, rfl, rfl, zp97, zq97, hS97⟩
      · have hb98 := (Below.refl wv82.heap.size wv82).alloc (Nat.le_refl _) (.cells zz 70)
        have hS98 : Below w6.heap.size w6 (wv82.alloc (.cells zz 70)) := bchain hS82 hb98
        have lep98 := hS82.size
        have ltq98 := (zq82).size
        have zq98 := blkB_up zq82 hb98
        have zp98 : BlkB (wv82.alloc (.cells zz 70)) (wv82.heap.size) 70 (List.replicate 96 0) := ZN wv82 
        go_simp
        refine hK.out _ _ hS98 (fun hHeld => ?_)
        clear hK K
        try simp only [Act.put, List.setIfInBounds_toArray, List.set_cons_zero, List.set_cons_succ, List.getElem_toArray, List.getElem_cons_zero, List.getElem_cons_succ]
        generalize hv98 : wv82.alloc (.cells zz 70) = wv98 at *
        generalize hbl98 : wv82.heap.size = pb98 at *
        clear hb98
        refine wpAnyH_ready (rs := [1]) (by kernel_rfl) (by simp) ?_
        refine (AllReadyH.cons rfl (fun K hK => ?_) AllReadyH.nil)
        go_simp
        go_at_call 48
        with_reducible refine (C1 _ (by with_reducible assumption)).mono ?_
        rintro e wv99 ⟨rfl, hb99⟩
        have hS99 : Below w6.heap.size w6 wv99 := bchain (by with_reducible assumption) hb99
        have zq99 := blkB_up zq98 hb99
        have zp99 := blkB_up zp98 hb99
        dsimp only
        refine hK.out _ _ hS99 (fun hHeld => ?_)
        clear hK K
        try simp only [Act.put, List.setIfInBounds_toArray, List.set_cons_zero, List.set_cons_succ, List.getElem_toArray, List.getElem_cons_zero, List.getElem_cons_succ]
        refine wpAnyH_ready (rs := [5]) (by kernel_rfl) (by simp) ?_
        refine (AllReadyH.cons rfl (fun K hK => ?_) AllReadyH.nil)
        go_simp
        go_at_call 49
        with_reducible refine (C2 _ (by with_reducible assumption)).mono ?_
        rintro e wv100 ⟨rfl, hb100⟩
        have hS100 : Below w6.heap.size w6 wv100 := bchain (by with_reducible assumption) hb100
        have zq100 := blkB_up zq99 hb100
        have zp100 := blkB_up zp99 hb100
        dsimp only
        refine hK.out _ _ hS100 (fun hHeld => ?_)
        clear hK K
        try simp only [Act.put, List.setIfInBounds_toArray, List.set_cons_zero, List.set_cons_succ, List.getElem_toArray, List.getElem_cons_zero, List.getElem_cons_succ]
        refine wpAnyH_ready (rs := [6]) (by kernel_rfl) (by simp) ?_
        refine (AllReadyH.cons rfl (fun K hK => ?_) AllReadyH.nil)
        go_simp
        go_at_call 48
        with_reducible refine (C3 _ (by with_reducible assumption)).mono ?_
        rintro e wv101 ⟨rfl, hb101⟩
        have hS101 : Below w6.heap.size w6 wv101 := bchain (by with_reducible assumption) hb101
        have zq101 := blkB_up zq100 hb101
        have zp101 := blkB_up zp100 hb101
        dsimp only
        refine hK.out _ _ hS101 (fun hHeld => ?_)
        clear hK K
        try simp only [Act.put, List.setIfInBounds_toArray, List.set_cons_zero, List.set_cons_succ, List.getElem_toArray, List.getElem_cons_zero, List.getElem_cons_succ]
        refine wpAnyH_ready (rs := [9]) (by kernel_rfl) (by simp) ?_
        refine (AllReadyH.cons rfl (fun K hK => ?_) AllReadyH.nil)
        have hst102 := ST1 wv101 pb98 zp101
        go_simp
        have hS102 : Below w6.heap.size w6 (wv101.setCells pb98 0 (cells8 l1)) := below_cells lep98 _ _ _ hS101
        have zq102 := blkB_put (show pb82 ≠ pb98 by omega) (cells8 l1) 0 _ zq101
        have zp102 := OV1 _ _ zp101
        refine hK.out _ _ hS102 (fun hHeld => ?_)
        clear hK K hst102
        try simp only [Act.put, List.setIfInBounds_toArray, List.set_cons_zero, List.set_cons_succ, List.getElem_toArray, List.getElem_cons_zero, List.getElem_cons_succ]
        generalize wv101.setCells pb98 0 (cells8 l1) = wv102 at *
        refine wpAnyH_ready (rs := [10]) (by kernel_rfl) (by simp) ?_
        refine (AllReadyH.cons rfl (fun K hK => ?_) AllReadyH.nil)
        have hst103 := ST2 wv102 pb82 zq102
        go_simp
        have hS103 : Below w6.heap.size w6 (wv102.setCells pb82 0 (cells8 l2)) := below_cells leq82 _ _ _ hS102
        have zp103 := blkB_put (show pb98 ≠ pb82 by omega) (cells8 l2) 0 _ zp102
        have zq103 := OV2 _ _ zq102
        refine hK.out _ _ hS103 (fun hHeld => ?_)
        clear hK K hst103
        try simp only [Act.put, List.setIfInBounds_toArray, List.set_cons_zero, List.set_cons_succ, List.getElem_toArray, List.getElem_cons_zero, List.getElem_cons_succ]
        generalize wv102.setCells pb82 0 (cells8 l2) = wv103 at *
        refine wpAnyH_done (by kernel_rfl) ?_ _
        go_wp2_with fail
        go_meet
        exact ⟨_, _, rfl, rfl, zp103, zq103, hS103⟩
  case rest =>
    obtain ⟨p, q, rfl, rfl, hp, hq, hw⟩ := hcut
    obtain ⟨v0, hv0⟩ : ∃ v, v = wc := ⟨_, rfl⟩
    rw [← hv0] at hp hq hw ⊢
    clear hv0 hS0
    have ra := hp.rd hp.size
    rw [K1.out.1] at ra
    have HQ0 := hid hq
    have HS0 := hid (blk_up HS6.out hw)
    have HW0 := hid (bchain HW6.out hw)
    have HG0 := hid (HG6.out.up hw)
    have RA := hid ra
    clear ra hp hq hw HS6 HW6 HG6 HX6 HR6 IX
    go_wp2_with fail
    have CR := gRead_c _ 96 96 l1 v0 RA.out HG0.out
    rw [eE_of K1.out.1 K1.out.2.2 PX.out, eN_of K1.out.1 K1.out.2.2 PX.out, if_pos SQ.out, if_pos SQ.out] at CR
    refine CR.mono ?_
    rintro e v1 ⟨rfl, b1⟩
    obtain ⟨v2, s2, x2', b2⟩ := layT v1 35 x
    have hlx := dsc_len x
    have b02 := bchain b1 b2
    have HE2 := hid x2'
    have HQ2 := hid (blkB_up HQ0.out b02)
    have HS2 := hid (blk_up HS0.out b02)
    have HW2 := hid (bchain HW0.out b02)
    have HG2 := hid (HG0.out.up b02)
    clear CR b1 b2 b02 x2' HQ0 HS0 HW0 HG0 RA
    unfold num z12 at *
    have rq := HQ2.out.rd HQ2.out.size
    rw [K2.out.1] at rq
    have RQ := hid rq
    clear rq
    go_wp2_with fail
    have CR := gRead_c _ 96 96 l2 v2 RQ.out HG2.out
    rw [eE_of K2.out.1 K2.out.2.2 P2.out, eN_of K2.out.1 K2.out.2.2 P2.out, if_neg N2.out, if_neg N2.out, num_0] at CR
    refine CR.mono ?_
    rintro e v3 ⟨rfl, b3⟩
    have hb34 := (Below.refl v3.heap.size v3).alloc (Nat.le_refl _) (z12 35)
    have b24 := bchain b3 hb34
    have HE4 := hid (blk_up HE2.out b24)
    have HS4 := hid (blk_up HS2.out b24)
    have HW4 := hid (bchain HW2.out b24)
    have HG4 := hid (HG2.out.up b24)
    clear CR b3 hb34 b24 HE2 HQ2 HS2 HW2 HG2 RQ s2 hlx
    generalize v1.heap.size = b10 at *
    unfold z12 at *
    generalize hv4 : v3.alloc (.cells #[.int .u64 0, .int .u64 0, .int .u64 0, .int .u64 0, .int .u64 0, .int .u64 0, .int .u64 0, .int .u64 0, .int .u64 0, .int .u64 0, .int .u64 0, .int .u64 0] 35) = v4 at *
    have OE := hid HE4.out.range
    have OS := hid HS4.out.range
    have IE := hid (sizeEl.trans (congrArg some (dsc_len x).symm))
    have IS := hid (sizeSc.trans (congrArg some (dsc_len S).symm))
    subst hv4
    go_wp2_with (first
      | refine wpList_load_g (by rfl) 35 (.tmp 10) rfl b10 0 rfl (cellsOf64 (ds x)) _ (by with_reducible exact OE.out) Tryd.underlying35 rfl IE.out ?_
      | refine wpList_load_g (by rfl) 44 (.tmp 5) rfl b5 0 rfl (cellsOf64 (ds S)) _ (by with_reducible exact OS.out) Tryd.underlying44 rfl IS.out ?_)
    generalize v3.alloc (.cells #[.int .u64 0, .int .u64 0, .int .u64 0, .int .u64 0, .int .u64 0, .int .u64 0, .int .u64 0, .int .u64 0, .int .u64 0, .int .u64 0, .int .u64 0, .int .u64 0] 35) = v4 at *
    obtain ⟨y, hy⟩ : ∃ y, y = x ^ S % bigP := ⟨_, rfl⟩
    have CE := grExp_c x S v4 LX.out LS.out HG4.out
    rw [← hy] at CE
    have PY : Hid (y < bigP) := hid (by rw [hy]; exact Nat.mod_lt _ (by decide))
    have LY : Hid (y < W12) := hid (Nat.lt_trans PY.out bigP_lt)
    have HYY := hid hy
    refine CE.mono ?_
    rintro e v5 ⟨rfl, b5'⟩
    obtain ⟨v6, s6', x6', b6'⟩ := layT v5 35 y
    have hly := dsc_len y
    have b46 := bchain b5' b6'
    have HY6 := hid x6'
    have HE6 := hid (blk_up HE4.out b46)
    have HS6 := hid (blk_up HS4.out b46)
    have HW6 := hid (bchain HW4.out b46)
    have HG6 := hid (HG4.out.up b46)
    clear CE hy b5' b6' b46 x6' HE4 HS4 HW4 HG4 OE OS IE IS
    unfold num z12 at *
    go_wp2_with fail
    clear s6' hly
    generalize v5.heap.size = b14 at *
    obtain ⟨N, hN⟩ : ∃ N, N = (0 % bigQ + bigQ - S % bigQ) % bigQ := ⟨_, rfl⟩
    obtain ⟨bk, hbk⟩ : ∃ bk, bk = x ^ N % bigP := ⟨_, rfl⟩
    have HNN := hid hN
    have HBK := hid hbk
    have LN : Hid (N < W12) := hid (by rw [hN]; exact Nat.lt_trans (Nat.mod_lt _ (by decide)) bigQ_lt)
    have LB : Hid (bk < W12) := hid (by rw [hbk]; exact Nat.lt_trans (Nat.mod_lt _ (by decide)) bigP_lt)
    have IV : Hid (y * bk % bigP = 1) := hid (by rw [HYY.out, hbk, hN]; exact inv_el SQ.out S QS.out)
    clear hN hbk
    have hS0 : Below v6.heap.size v6 v6.drew := (Below.refl _ _).drew
    go_cut [15] (fun s wx => ∃ p, s = .pointer (some ⟨p, 0, none⟩) ∧ BlkW wx p 35 (ds bk) ∧ Below v6.heap.size v6 wx)
    case first =>
      obtain ⟨n12, hn12⟩ : ∃ n : Nat, n = 12 := ⟨_, rfl⟩
      have L1 : ∀ v, Below v6.heap.size v6 v → (loadCellsFrom ⟨b10, 0, none⟩ 0 n12 #[]).run Tryd.prog v = .ok (cellsOf64 (ds x)).toArray v := fun v h => by rw [hn12]; exact cells_numT (blk_up HE6.out h)
      have L2 : ∀ v, Below v6.heap.size v6 v → (loadCellsFrom ⟨b5, 0, none⟩ 0 n12 #[]).run Tryd.prog v = .ok (cellsOf64 (ds S)).toArray v := fun v h => by rw [hn12]; exact cells_numT (blk_up HS6.out h)
      have C1 : ∀ v, Below v6.heap.size v6 v → Calls Tryd.prog 37 #[.agg #[.int .u64 0, .int .u64 0, .int .u64 0, .int .u64 0, .int .u64 0, .int .u64 0, .int .u64 0, .int .u64 0, .int .u64 0, .int .u64 0, .int .u64 0, .int .u64 0], .agg (cellsOf64 (ds S)).toArray] v fun e w' => e = .returned (.agg (cellsOf64 (ds N)).toArray) ∧ Below v.heap.size v w' := fun v h => by have := scSub_c 0 S v (by decide) LS.out (HG6.out.up h); rw [← HNN.out, num_0] at this; exact this
      have C2 : ∀ v, Below v6.heap.size v6 v → Calls Tryd.prog 30 #[.agg (cellsOf64 (ds x)).toArray, .agg (cellsOf64 (ds N)).toArray] v fun e w' => e = .returned (.agg (cellsOf64 (ds bk)).toArray) ∧ Below v.heap.size v w' := fun v h => by have := grExp_c x N v LX.out LN.out (HG6.out.up h); rw [← HBK.out] at this; exact this
      have ST1 : ∀ v b, BlkW v b 35 (List.replicate 12 0) → (storeCells ⟨b, 0, none⟩ (cellsOf64 (ds bk))).run Tryd.prog v = .ok () (v.setCells b 0 (cellsOf64 (ds bk))) := fun v b h => (num_storedT h).1
      have hl1 : (cellsOf64 (ds bk)).length = n12 := by rw [hn12]; exact dsc_len bk
      have G1 := agg_el
      have G2 : ∀ v, (sizeOf 35).run Tryd.prog v = .ok n12 v := by rw [hn12]; exact size_el
      have G3 := agg_sc
      have G4 : ∀ v, (sizeOf 44).run Tryd.prog v = .ok n12 v := by rw [hn12]; exact size_sc
      have G5 : ∀ v, (zeroValue 35).run Tryd.prog v = .ok (.agg #[.int .u64 0, .int .u64 0, .int .u64 0, .int .u64 0, .int .u64 0, .int .u64 0, .int .u64 0, .int .u64 0, .int .u64 0, .int .u64 0, .int .u64 0, .int .u64 0]) v := fun v => by kernel_rfl
      have G6 : ∀ v, (zeroValue 44).run Tryd.prog v = .ok (.agg #[.int .u64 0, .int .u64 0, .int .u64 0, .int .u64 0, .int .u64 0, .int .u64 0, .int .u64 0, .int .u64 0, .int .u64 0, .int .u64 0, .int .u64 0, .int .u64 0]) v := fun v => by kernel_rfl
      have G7 := fun v => run_underlying Tryd.underlying44 v
      have G8 : ∀ v, (sizeOf 24).run Tryd.prog v = .ok n12 v := by rw [hn12]; exact size_num
      have HM : Tryd.prog.follows .mixedOrders = true := by kernel_rfl
      have N1 := Tryd.call37
      have N3 := Tryd.call30
      clear hn12 K1 K2 HE6 HS6 HW6 HG6 HY6 LX PX P2 N2 E2 SQ X0 QS LS LN LB IV HNN HBK HYY PY LY
      generalize Tryd.prog = P at C1 C2 ST1 L1 L2 G1 G2 G3 G4 G5 G6 G7 G8 HM N1 N3 ⊢
      refine wp_region_held_drew (S := fun w' => Below v6.heap.size v6 w') HM hS0 (fun hHeld => ?_)
      generalize v6.drew = vv at *
      refine wpAnyH_take (i := 0) (v := ?_) rfl (by kernel_rfl) (by kernel_rfl) (by kernel_rfl) (fun _ _ _ h => h) (Or.inl ⟨by rfl, fun v hv => ?_⟩) (by with_reducible assumption) ?_
      rotate_left
      · go_simp
        try with_reducible rfl
      simp only [Act.put, List.setIfInBounds_toArray, List.set_cons_zero, List.set_cons_succ, List.getElem_toArray, List.getElem_cons_zero, List.getElem_cons_succ]
      refine wpAnyH_take (i := 1) (v := ?_) rfl (by kernel_rfl) (by kernel_rfl) (by kernel_rfl) (fun _ _ _ h => h) (Or.inl ⟨by rfl, fun v hv => ?_⟩) (by with_reducible assumption) ?_
      rotate_left
      · go_simp
        try with_reducible rfl
      simp only [Act.put, List.setIfInBounds_toArray, List.set_cons_zero, List.set_cons_succ, List.getElem_toArray, List.getElem_cons_zero, List.getElem_cons_succ]
      refine wpAnyH_take (i := 2) (v := ?_) rfl (by kernel_rfl) (by kernel_rfl) (by kernel_rfl) (fun _ _ _ h => h) (Or.inl ⟨by rfl, fun v hv => ?_⟩) (by with_reducible assumption) ?_
      rotate_left
      · go_simp
        try with_reducible rfl
      simp only [Act.put, List.setIfInBounds_toArray, List.set_cons_zero, List.set_cons_succ, List.getElem_toArray, List.getElem_cons_zero, List.getElem_cons_succ]
      refine wpAnyH_ready (rs := [3, 5]) (by kernel_rfl) (by simp) ?_
      refine (AllReadyH.cons rfl (fun K hK => ?_) (AllReadyH.cons rfl (fun K hK => ?_) AllReadyH.nil))
      · go_simp
        go_at_call 37
        with_reducible refine (C1 _ (by with_reducible assumption)).mono ?_
        rintro e wv1 ⟨rfl, hb1⟩
        have hS1 : Below v6.heap.size v6 wv1 := bchain (by with_reducible assumption) hb1
        dsimp only
        refine hK.out _ _ hS1 (fun hHeld => ?_)
        clear hK K
        try simp only [Act.put, List.setIfInBounds_toArray, List.set_cons_zero, List.set_cons_succ, List.getElem_toArray, List.getElem_cons_zero, List.getElem_cons_succ]
        refine wpAnyH_ready (rs := [4, 5]) (by kernel_rfl) (by simp) ?_
        refine (AllReadyH.cons rfl (fun K hK => ?_) (AllReadyH.cons rfl (fun K hK => ?_) AllReadyH.nil))
        · go_simp
          go_at_call 30
          with_reducible refine (C2 _ (by with_reducible assumption)).mono ?_
          rintro e wv2 ⟨rfl, hb2⟩
          have hS2 : Below v6.heap.size v6 wv2 := bchain (by with_reducible assumption) hb2
          dsimp only
          refine hK.out _ _ hS2 (fun hHeld => ?_)
          clear hK K
          try simp only [Act.put, List.setIfInBounds_toArray, List.set_cons_zero, List.set_cons_succ, List.getElem_toArray, List.getElem_cons_zero, List.getElem_cons_succ]
          refine wpAnyH_ready (rs := [5]) (by kernel_rfl) (by simp) ?_
          refine (AllReadyH.cons rfl (fun K hK => ?_) AllReadyH.nil)
          have hb3 := (Below.refl wv2.heap.size wv2).alloc (Nat.le_refl _) (.cells #[.int .u64 0, .int .u64 0, .int .u64 0, .int .u64 0, .int .u64 0, .int .u64 0, .int .u64 0, .int .u64 0, .int .u64 0, .int .u64 0, .int .u64 0, .int .u64 0] 35)
          have hS3 : Below v6.heap.size v6 (wv2.alloc (.cells #[.int .u64 0, .int .u64 0, .int .u64 0, .int .u64 0, .int .u64 0, .int .u64 0, .int .u64 0, .int .u64 0, .int .u64 0, .int .u64 0, .int .u64 0, .int .u64 0] 35)) := bchain hS2 hb3
          have lep3 := hS2.size
          have zp3 : BlkW (wv2.alloc (.cells #[.int .u64 0, .int .u64 0, .int .u64 0, .int .u64 0, .int .u64 0, .int .u64 0, .int .u64 0, .int .u64 0, .int .u64 0, .int .u64 0, .int .u64 0, .int .u64 0] 35)) (wv2.heap.size) 35 (List.replicate 12 0) := z12_new wv2 35
          go_simp
          refine hK.out _ _ hS3 (fun hHeld => ?_)
          clear hK K
          try simp only [Act.put, List.setIfInBounds_toArray, List.set_cons_zero, List.set_cons_succ, List.getElem_toArray, List.getElem_cons_zero, List.getElem_cons_succ]
          generalize hv3 : wv2.alloc (.cells #[.int .u64 0, .int .u64 0, .int .u64 0, .int .u64 0, .int .u64 0, .int .u64 0, .int .u64 0, .int .u64 0, .int .u64 0, .int .u64 0, .int .u64 0, .int .u64 0] 35) = wv3 at *
          generalize hbl3 : wv2.heap.size = pb3 at *
          clear hb3
          refine wpAnyH_ready (rs := [6]) (by kernel_rfl) (by simp) ?_
          refine (AllReadyH.cons rfl (fun K hK => ?_) AllReadyH.nil)
          have hst4 := ST1 wv3 pb3 zp3
          go_simp
          have hS4 : Below v6.heap.size v6 (wv3.setCells pb3 0 (cellsOf64 (ds bk))) := below_cells lep3 _ _ _ hS3
          have zp4 := zero_over (Y := bk) zp3
          refine hK.out _ _ hS4 (fun hHeld => ?_)
          clear hK K hst4
          try simp only [Act.put, List.setIfInBounds_toArray, List.set_cons_zero, List.set_cons_succ, List.getElem_toArray, List.getElem_cons_zero, List.getElem_cons_succ]
          generalize wv3.setCells pb3 0 (cellsOf64 (ds bk)) = wv4 at *
          refine wpAnyH_done (by kernel_rfl) ?_ _
          go_wp2_with fail
          go_meet
          exact ⟨_, rfl, zp4, hS4⟩
        · have hb5 := (Below.refl wv1.heap.size wv1).alloc (Nat.le_refl _) (.cells #[.int .u64 0, .int .u64 0, .int .u64 0, .int .u64 0, .int .u64 0, .int .u64 0, .int .u64 0, .int .u64 0, .int .u64 0, .int .u64 0, .int .u64 0, .int .u64 0] 35)
          have hS5 : Below v6.heap.size v6 (wv1.alloc (.cells #[.int .u64 0, .int .u64 0, .int .u64 0, .int .u64 0, .int .u64 0, .int .u64 0, .int .u64 0, .int .u64 0, .int .u64 0, .int .u64 0, .int .u64 0, .int .u64 0] 35)) := bchain hS1 hb5
          have lep5 := hS1.size
          have zp5 : BlkW (wv1.alloc (.cells #[.int .u64 0, .int .u64 0, .int .u64 0, .int .u64 0, .int .u64 0, .int .u64 0, .int .u64 0, .int .u64 0, .int .u64 0, .int .u64 0, .int .u64 0, .int .u64 0] 35)) (wv1.heap.size) 35 (List.replicate 12 0) := z12_new wv1 35
          go_simp
          refine hK.out _ _ hS5 (fun hHeld => ?_)
          clear hK K
          try simp only [Act.put, List.setIfInBounds_toArray, List.set_cons_zero, List.set_cons_succ, List.getElem_toArray, List.getElem_cons_zero, List.getElem_cons_succ]
          generalize hv5 : wv1.alloc (.cells #[.int .u64 0, .int .u64 0, .int .u64 0, .int .u64 0, .int .u64 0, .int .u64 0, .int .u64 0, .int .u64 0, .int .u64 0, .int .u64 0, .int .u64 0, .int .u64 0] 35) = wv5 at *
          generalize hbl5 : wv1.heap.size = pb5 at *
          clear hb5
          refine wpAnyH_ready (rs := [4]) (by kernel_rfl) (by simp) ?_
          refine (AllReadyH.cons rfl (fun K hK => ?_) AllReadyH.nil)
          go_simp
          go_at_call 30
          with_reducible refine (C2 _ (by with_reducible assumption)).mono ?_
          rintro e wv6 ⟨rfl, hb6⟩
          have hS6 : Below v6.heap.size v6 wv6 := bchain (by with_reducible assumption) hb6
          have zp6 := blk_up zp5 hb6
          dsimp only
          refine hK.out _ _ hS6 (fun hHeld => ?_)
          clear hK K
          try simp only [Act.put, List.setIfInBounds_toArray, List.set_cons_zero, List.set_cons_succ, List.getElem_toArray, List.getElem_cons_zero, List.getElem_cons_succ]
          refine wpAnyH_ready (rs := [6]) (by kernel_rfl) (by simp) ?_
          refine (AllReadyH.cons rfl (fun K hK => ?_) AllReadyH.nil)
          have hst7 := ST1 wv6 pb5 zp6
          go_simp
          have hS7 : Below v6.heap.size v6 (wv6.setCells pb5 0 (cellsOf64 (ds bk))) := below_cells lep5 _ _ _ hS6
          have zp7 := zero_over (Y := bk) zp6
          refine hK.out _ _ hS7 (fun hHeld => ?_)
          clear hK K hst7
          try simp only [Act.put, List.setIfInBounds_toArray, List.set_cons_zero, List.set_cons_succ, List.getElem_toArray, List.getElem_cons_zero, List.getElem_cons_succ]
          generalize wv6.setCells pb5 0 (cellsOf64 (ds bk)) = wv7 at *
          refine wpAnyH_done (by kernel_rfl) ?_ _
          go_wp2_with fail
          go_meet
          exact ⟨_, rfl, zp7, hS7⟩
      · have hb8 := (Below.refl vv.heap.size vv).alloc (Nat.le_refl _) (.cells #[.int .u64 0, .int .u64 0, .int .u64 0, .int .u64 0, .int .u64 0, .int .u64 0, .int .u64 0, .int .u64 0, .int .u64 0, .int .u64 0, .int .u64 0, .int .u64 0] 35)
        have hS8 : Below v6.heap.size v6 (vv.alloc (.cells #[.int .u64 0, .int .u64 0, .int .u64 0, .int .u64 0, .int .u64 0, .int .u64 0, .int .u64 0, .int .u64 0, .int .u64 0, .int .u64 0, .int .u64 0, .int .u64 0] 35)) := bchain hS0 hb8
        have lep8 := hS0.size
        have zp8 : BlkW (vv.alloc (.cells #[.int .u64 0, .int .u64 0, .int .u64 0, .int .u64 0, .int .u64 0, .int .u64 0, .int .u64 0, .int .u64 0, .int .u64 0, .int .u64 0, .int .u64 0, .int .u64 0] 35)) (vv.heap.size) 35 (List.replicate 12 0) := z12_new vv 35
        go_simp
        refine hK.out _ _ hS8 (fun hHeld => ?_)
        clear hK K
        try simp only [Act.put, List.setIfInBounds_toArray, List.set_cons_zero, List.set_cons_succ, List.getElem_toArray, List.getElem_cons_zero, List.getElem_cons_succ]
        generalize hv8 : vv.alloc (.cells #[.int .u64 0, .int .u64 0, .int .u64 0, .int .u64 0, .int .u64 0, .int .u64 0, .int .u64 0, .int .u64 0, .int .u64 0, .int .u64 0, .int .u64 0, .int .u64 0] 35) = wv8 at *
        generalize hbl8 : vv.heap.size = pb8 at *
        clear hb8
        refine wpAnyH_ready (rs := [3]) (by kernel_rfl) (by simp) ?_
        refine (AllReadyH.cons rfl (fun K hK => ?_) AllReadyH.nil)
        go_simp
        go_at_call 37
        with_reducible refine (C1 _ (by with_reducible assumption)).mono ?_
        rintro e wv9 ⟨rfl, hb9⟩
        have hS9 : Below v6.heap.size v6 wv9 := bchain (by with_reducible assumption) hb9
        have zp9 := blk_up zp8 hb9
        dsimp only
        refine hK.out _ _ hS9 (fun hHeld => ?_)
        clear hK K
        try simp only [Act.put, List.setIfInBounds_toArray, List.set_cons_zero, List.set_cons_succ, List.getElem_toArray, List.getElem_cons_zero, List.getElem_cons_succ]
        refine wpAnyH_ready (rs := [4]) (by kernel_rfl) (by simp) ?_
        refine (AllReadyH.cons rfl (fun K hK => ?_) AllReadyH.nil)
        go_simp
        go_at_call 30
        with_reducible refine (C2 _ (by with_reducible assumption)).mono ?_
        rintro e wv10 ⟨rfl, hb10⟩
        have hS10 : Below v6.heap.size v6 wv10 := bchain (by with_reducible assumption) hb10
        have zp10 := blk_up zp9 hb10
        dsimp only
        refine hK.out _ _ hS10 (fun hHeld => ?_)
        clear hK K
        try simp only [Act.put, List.setIfInBounds_toArray, List.set_cons_zero, List.set_cons_succ, List.getElem_toArray, List.getElem_cons_zero, List.getElem_cons_succ]
        refine wpAnyH_ready (rs := [6]) (by kernel_rfl) (by simp) ?_
        refine (AllReadyH.cons rfl (fun K hK => ?_) AllReadyH.nil)
        have hst11 := ST1 wv10 pb8 zp10
        go_simp
        have hS11 : Below v6.heap.size v6 (wv10.setCells pb8 0 (cellsOf64 (ds bk))) := below_cells lep8 _ _ _ hS10
        have zp11 := zero_over (Y := bk) zp10
        refine hK.out _ _ hS11 (fun hHeld => ?_)
        clear hK K hst11
        try simp only [Act.put, List.setIfInBounds_toArray, List.set_cons_zero, List.set_cons_succ, List.getElem_toArray, List.getElem_cons_zero, List.getElem_cons_succ]
        generalize wv10.setCells pb8 0 (cellsOf64 (ds bk)) = wv11 at *
        refine wpAnyH_done (by kernel_rfl) ?_ _
        go_wp2_with fail
        go_meet
        exact ⟨_, rfl, zp11, hS11⟩
    case rest =>
      obtain ⟨b15, rfl, hp, hw⟩ := hcut
      obtain ⟨v7, hv7⟩ : ∃ v, v = wc := ⟨_, rfl⟩
      rw [← hv7] at hp hw ⊢
      clear hv7 hS0
      have HK7 := hid hp
      have HY7 := hid (blk_up HY6.out hw)
      have HE7 := hid (blk_up HE6.out hw)
      have HW7 := hid (bchain HW6.out hw)
      have HG7 := hid (HG6.out.up hw)
      have OE := hid HE7.out.range
      have OY := hid HY7.out.range
      have IE := hid (sizeEl.trans (congrArg some (dsc_len x).symm))
      have IY := hid (sizeEl.trans (congrArg some (dsc_len y).symm))
      clear hp hw HY6 HE6 HS6 HW6 HG6
      go_wp2_with (first
        | refine wpList_load_g (by rfl) 35 (.tmp 14) rfl b14 0 rfl (cellsOf64 (ds y)) _ (by with_reducible exact OY.out) Tryd.underlying35 rfl IY.out ?_
        | refine wpList_load_g (by rfl) 35 (.tmp 10) rfl b10 0 rfl (cellsOf64 (ds x)) _ (by with_reducible exact OE.out) Tryd.underlying35 rfl IE.out ?_)
      obtain ⟨m, hm⟩ : ∃ m, m = y * x % bigP := ⟨_, rfl⟩
      have CM := grMul_c y x v7 LY.out LX.out HG7.out
      rw [← hm] at CM
      have PM : Hid (m < bigP) := hid (by rw [hm]; exact Nat.mod_lt _ (by decide))
      have LM : Hid (m < W12) := hid (Nat.lt_trans PM.out bigP_lt)
      have SM : Hid (m ^ bigQ % bigP = 1) := hid (by rw [hm, HYY.out]; exact pow_el SQ.out S)
      refine CM.mono ?_
      rintro e v8 ⟨rfl, b8⟩
      have HK8 := hid (blk_up HK7.out b8)
      have HY8 := hid (blk_up HY7.out b8)
      have HE8 := hid (blk_up HE7.out b8)
      have HW8 := hid (bchain HW7.out b8)
      have HG8 := hid (HG7.out.up b8)
      clear CM hm b8 HK7 HY7 HE7 HW7 HG7 OE OY IE IY
      go_wp2_with fail
      refine (elBytes_c m v8 LM).mono ?_
      rintro e v9 ⟨r, rfl, hr, b9⟩
      obtain ⟨l, rfl, hl, hlt, hv⟩ := hr
      obtain ⟨v10, hst, hBx, b10'⟩ := new96 v9 l hl hlt
      have hlen : (cells8 l).length = 96 := by simp [cells8, hl]
      have b810 := bchain b9 b10'
      have HK10 := hid (blk_up HK8.out b810)
      have HY10 := hid (blk_up HY8.out b810)
      have HE10 := hid (blk_up HE8.out b810)
      have HW10 := hid (bchain HW8.out b810)
      have HG10 := hid (HG8.out.up b810)
      have ra := hBx.rd hBx.size
      rw [hl] at ra
      have RA := hid ra
      have HL := hid hl
      have HV := hid hv
      clear ra b9 b10' b810 hBx hv HK8 HY8 HE8 HW8 HG8
      go_wp2_with fail
      have CR := gRead_c _ 96 96 l v10 RA.out HG10.out
      rw [eE_of HL.out HV.out PM.out, eN_of HL.out HV.out PM.out, if_pos SM.out, if_pos SM.out] at CR
      refine CR.mono ?_
      rintro e v11 ⟨rfl, b11⟩
      obtain ⟨v12, s12, x12, b12⟩ := layT v11 35 m
      have hlm := dsc_len m
      have b1012 := bchain b11 b12
      have HK12 := hid (blk_up HK10.out b1012)
      have HY12 := hid (blk_up HY10.out b1012)
      have HE12 := hid (blk_up HE10.out b1012)
      have HW12 := hid (bchain HW10.out b1012)
      have HG12 := hid (HG10.out.up b1012)
      clear CR b11 b12 b1012 x12 RA HL HV hst hlen hl hlt HK10 HY10 HE10 HW10 HG10
      unfold num z12 at *
      go_wp2_with fail
      clear s12 hlm
      have hS0 : Below v12.heap.size v12 v12.drew := (Below.refl _ _).drew
      go_cut [4] (fun s wx => s = .bool true ∧ Below v12.heap.size v12 wx)
      case first =>
        obtain ⟨n12, hn12⟩ : ∃ n : Nat, n = 12 := ⟨_, rfl⟩
        obtain ⟨x4, hx4⟩ : ∃ x4, x4 = x * 4 % bigP := ⟨_, rfl⟩
        have l4 : x4 < W12 := by rw [hx4]; exact Nat.lt_trans (Nat.mod_lt _ (by decide)) bigP_lt
        have L1 : ∀ v, Below v12.heap.size v12 v → (loadCellsFrom ⟨b14, 0, none⟩ 0 n12 #[]).run Tryd.prog v = .ok (cellsOf64 (ds y)).toArray v := fun v h => by rw [hn12]; exact cells_numT (blk_up HY12.out h)
        have L2 : ∀ v, Below v12.heap.size v12 v → (loadCellsFrom ⟨b15, 0, none⟩ 0 n12 #[]).run Tryd.prog v = .ok (cellsOf64 (ds bk)).toArray v := fun v h => by rw [hn12]; exact cells_numT (blk_up HK12.out h)
        have L3 : ∀ v, Below v12.heap.size v12 v → (loadCellsFrom ⟨b10, 0, none⟩ 0 n12 #[]).run Tryd.prog v = .ok (cellsOf64 (ds x)).toArray v := fun v h => by rw [hn12]; exact cells_numT (blk_up HE12.out h)
        have C1 : ∀ v, Below v12.heap.size v12 v → Calls Tryd.prog 29 #[.agg (cellsOf64 (ds y)).toArray, .agg (cellsOf64 (ds bk)).toArray] v fun e w' => e = .returned (.agg (cellsOf64 (ds 1)).toArray) ∧ Below v.heap.size v w' := fun v h => by have := grMul_c y bk v LY.out LB.out (HG12.out.up h); rw [IV.out] at this; exact this
        have C2 : ∀ v, Below v12.heap.size v12 v → Calls Tryd.prog 33 #[] v fun e w' => e = .returned (.agg (cellsOf64 (ds 1)).toArray) ∧ Below v.heap.size v w' := fun v h => one_c v
        have C3 : ∀ v, Below v12.heap.size v12 v → Calls Tryd.prog 26 #[.agg (cellsOf64 (ds 1)).toArray, .agg (cellsOf64 (ds 1)).toArray] v fun e w' => e = .returned (.bool true) ∧ Below v.heap.size v w' := fun v h => grEq_c 1 1 v (by decide) (by decide)
        have C4 : ∀ v, Below v12.heap.size v12 v → Calls Tryd.prog 29 #[.agg (cellsOf64 (ds x)).toArray, .agg (cellsOf64 (ds 1)).toArray] v fun e w' => e = .returned (.agg (cellsOf64 (ds x)).toArray) ∧ Below v.heap.size v w' := fun v h => by have := grMul_c x 1 v LX.out (by decide) (HG12.out.up h); rw [Nat.mul_one, Nat.mod_eq_of_lt PX.out] at this; exact this
        have C5 : ∀ v, Below v12.heap.size v12 v → Calls Tryd.prog 26 #[.agg (cellsOf64 (ds x)).toArray, .agg (cellsOf64 (ds x)).toArray] v fun e w' => e = .returned (.bool true) ∧ Below v.heap.size v w' := fun v h => by have := grEq_c x x v LX.out LX.out; rw [decide_eq_true rfl] at this; exact this
        have C6 : ∀ v, Below v12.heap.size v12 v → Calls Tryd.prog 34 #[] v fun e w' => e = .returned (.agg (cellsOf64 (ds 4)).toArray) ∧ Below v.heap.size v w' := fun v h => generator_c v
        have C7 : ∀ v, Below v12.heap.size v12 v → Calls Tryd.prog 29 #[.agg (cellsOf64 (ds x)).toArray, .agg (cellsOf64 (ds 4)).toArray] v fun e w' => e = .returned (.agg (cellsOf64 (ds x4)).toArray) ∧ Below v.heap.size v w' := fun v h => by have := grMul_c x 4 v LX.out (by decide) (HG12.out.up h); rw [← hx4] at this; exact this
        have C8 : ∀ v, Below v12.heap.size v12 v → Calls Tryd.prog 26 #[.agg (cellsOf64 (ds x4)).toArray, .agg (cellsOf64 (ds x)).toArray] v fun e w' => e = .returned (.bool false) ∧ Below v.heap.size v w' := fun v h => by have := grEq_c x4 x v l4 LX.out; rw [decide_eq_false (by rw [hx4]; exact four_times X0.out PX.out)] at this; exact this
        have G1 := agg_el
        have G2 : ∀ v, (sizeOf 35).run Tryd.prog v = .ok n12 v := by rw [hn12]; exact size_el
        have HM : Tryd.prog.follows .mixedOrders = true := by kernel_rfl
        have N1 := Tryd.call29
        have N3 := Tryd.call26
        have N4 := Tryd.call33
        have N5 := Tryd.call34
        clear hn12 hx4 l4 K1 K2 HE12 HW12 HG12 HY12 HK12 LX PX P2 N2 E2 SQ X0 QS LS LN LB IV HNN HBK HYY PY LY PM LM SM
        generalize cellsOf64 (ds 4) = c4 at *
        generalize cellsOf64 (ds 1) = c1 at *
        generalize Tryd.prog = P at C1 C2 C3 C4 C5 C6 C7 C8 L1 L2 L3 G1 G2 HM N1 N3 N4 N5 ⊢
        refine wp_region_held_drew (S := fun w' => Below v12.heap.size v12 w') HM hS0 (fun hHeld => ?_)
        generalize v12.drew = vv at *
        refine wpAnyH_take (i := 0) (v := ?_) rfl (by kernel_rfl) (by kernel_rfl) (by kernel_rfl) (fun _ _ _ h => h) (Or.inl ⟨by rfl, fun v hv => ?_⟩) (by with_reducible assumption) ?_
        rotate_left
        · go_simp
          try with_reducible rfl
        simp only [Act.put, List.setIfInBounds_toArray, List.set_cons_zero, List.set_cons_succ, List.getElem_toArray, List.getElem_cons_zero, List.getElem_cons_succ]
        refine wpAnyH_take (i := 1) (v := ?_) rfl (by kernel_rfl) (by kernel_rfl) (by kernel_rfl) (fun _ _ _ h => h) (Or.inl ⟨by rfl, fun v hv => ?_⟩) (by with_reducible assumption) ?_
        rotate_left
        · go_simp
          try with_reducible rfl
        simp only [Act.put, List.setIfInBounds_toArray, List.set_cons_zero, List.set_cons_succ, List.getElem_toArray, List.getElem_cons_zero, List.getElem_cons_succ]
        refine wpAnyH_take (i := 2) (v := ?_) rfl (by kernel_rfl) (by kernel_rfl) (by kernel_rfl) (fun _ _ _ h => h) (Or.inl ⟨by rfl, fun v hv => ?_⟩) (by with_reducible assumption) ?_
        rotate_left
        · go_simp
          try with_reducible rfl
        simp only [Act.put, List.setIfInBounds_toArray, List.set_cons_zero, List.set_cons_succ, List.getElem_toArray, List.getElem_cons_zero, List.getElem_cons_succ]
        refine wpAnyH_take (i := 3) (v := ?_) rfl (by kernel_rfl) (by kernel_rfl) (by kernel_rfl) (fun _ _ _ h => h) (Or.inl ⟨by rfl, fun v hv => ?_⟩) (by with_reducible assumption) ?_
        rotate_left
        · go_simp
          try with_reducible rfl
        simp only [Act.put, List.setIfInBounds_toArray, List.set_cons_zero, List.set_cons_succ, List.getElem_toArray, List.getElem_cons_zero, List.getElem_cons_succ]
        refine wpAnyH_take (i := 4) (v := ?_) rfl (by kernel_rfl) (by kernel_rfl) (by kernel_rfl) (fun _ _ _ h => h) (Or.inl ⟨by rfl, fun v hv => ?_⟩) (by with_reducible assumption) ?_
        rotate_left
        · go_simp
          try with_reducible rfl
        simp only [Act.put, List.setIfInBounds_toArray, List.set_cons_zero, List.set_cons_succ, List.getElem_toArray, List.getElem_cons_zero, List.getElem_cons_succ]
        refine wpAnyH_ready (rs := [5]) (by kernel_rfl) (by simp) ?_
        refine (AllReadyH.cons rfl (fun K hK => ?_) AllReadyH.nil)
        go_simp
        go_at_call 29
        with_reducible refine (C1 _ (by with_reducible assumption)).mono ?_
        rintro e wv1 ⟨rfl, hb1⟩
        have hS1 : Below v12.heap.size v12 wv1 := bchain (by with_reducible assumption) hb1
        dsimp only
        refine hK.out _ _ hS1 (fun hHeld => ?_)
        clear hK K
        try simp only [Act.put, List.setIfInBounds_toArray, List.set_cons_zero, List.set_cons_succ, List.getElem_toArray, List.getElem_cons_zero, List.getElem_cons_succ]
        refine wpAnyH_ready (rs := [6]) (by kernel_rfl) (by simp) ?_
        refine (AllReadyH.cons rfl (fun K hK => ?_) AllReadyH.nil)
        go_simp
        go_at_call 33
        with_reducible refine (C2 _ (by with_reducible assumption)).mono ?_
        rintro e wv2 ⟨rfl, hb2⟩
        have hS2 : Below v12.heap.size v12 wv2 := bchain (by with_reducible assumption) hb2
        dsimp only
        refine hK.out _ _ hS2 (fun hHeld => ?_)
        clear hK K
        try simp only [Act.put, List.setIfInBounds_toArray, List.set_cons_zero, List.set_cons_succ, List.getElem_toArray, List.getElem_cons_zero, List.getElem_cons_succ]
        refine wpAnyH_ready (rs := [7]) (by kernel_rfl) (by simp) ?_
        refine (AllReadyH.cons rfl (fun K hK => ?_) AllReadyH.nil)
        go_simp
        go_at_call 26
        with_reducible refine (C3 _ (by with_reducible assumption)).mono ?_
        rintro e wv3 ⟨rfl, hb3⟩
        have hS3 : Below v12.heap.size v12 wv3 := bchain (by with_reducible assumption) hb3
        dsimp only
        refine hK.out _ _ hS3 (fun hHeld => ?_)
        clear hK K
        try simp only [Act.put, List.setIfInBounds_toArray, List.set_cons_zero, List.set_cons_succ, List.getElem_toArray, List.getElem_cons_zero, List.getElem_cons_succ]
        refine wpAnyH_take (i := 8) (v := ?_) rfl (by kernel_rfl) (by kernel_rfl) (by kernel_rfl) (fun _ _ _ h => h) (Or.inl ⟨by rfl, fun v hv => ?_⟩) (by with_reducible assumption) ?_
        rotate_left
        · go_simp
          try with_reducible rfl
        simp only [Act.put, List.setIfInBounds_toArray, List.set_cons_zero, List.set_cons_succ, List.getElem_toArray, List.getElem_cons_zero, List.getElem_cons_succ]
        refine wpAnyH_take (i := 9) (v := ?_) rfl (by kernel_rfl) (by kernel_rfl) (by kernel_rfl) (fun _ _ _ h => h) (Or.inl ⟨by rfl, fun v hv => ?_⟩) (by with_reducible assumption) ?_
        rotate_left
        · go_simp
          try with_reducible rfl
        simp only [Act.put, List.setIfInBounds_toArray, List.set_cons_zero, List.set_cons_succ, List.getElem_toArray, List.getElem_cons_zero, List.getElem_cons_succ]
        refine wpAnyH_take (i := 10) (v := ?_) rfl (by kernel_rfl) (by kernel_rfl) (by kernel_rfl) (fun _ _ _ h => h) (Or.inl ⟨by rfl, fun v hv => ?_⟩) (by with_reducible assumption) ?_
        rotate_left
        · go_simp
          try with_reducible rfl
        simp only [Act.put, List.setIfInBounds_toArray, List.set_cons_zero, List.set_cons_succ, List.getElem_toArray, List.getElem_cons_zero, List.getElem_cons_succ]
        refine wpAnyH_take (i := 13) (v := ?_) rfl (by kernel_rfl) (by kernel_rfl) (by kernel_rfl) (fun _ _ _ h => h) (Or.inl ⟨by rfl, fun v hv => ?_⟩) (by with_reducible assumption) ?_
        rotate_left
        · go_simp
          try with_reducible rfl
        simp only [Act.put, List.setIfInBounds_toArray, List.set_cons_zero, List.set_cons_succ, List.getElem_toArray, List.getElem_cons_zero, List.getElem_cons_succ]
        refine wpAnyH_ready (rs := [11]) (by kernel_rfl) (by simp) ?_
        refine (AllReadyH.cons rfl (fun K hK => ?_) AllReadyH.nil)
        go_simp
        go_at_call 33
        with_reducible refine (C2 _ (by with_reducible assumption)).mono ?_
        rintro e wv4 ⟨rfl, hb4⟩
        have hS4 : Below v12.heap.size v12 wv4 := bchain (by with_reducible assumption) hb4
        dsimp only
        refine hK.out _ _ hS4 (fun hHeld => ?_)
        clear hK K
        try simp only [Act.put, List.setIfInBounds_toArray, List.set_cons_zero, List.set_cons_succ, List.getElem_toArray, List.getElem_cons_zero, List.getElem_cons_succ]
        refine wpAnyH_ready (rs := [12]) (by kernel_rfl) (by simp) ?_
        refine (AllReadyH.cons rfl (fun K hK => ?_) AllReadyH.nil)
        go_simp
        go_at_call 29
        with_reducible refine (C4 _ (by with_reducible assumption)).mono ?_
        rintro e wv5 ⟨rfl, hb5⟩
        have hS5 : Below v12.heap.size v12 wv5 := bchain (by with_reducible assumption) hb5
        dsimp only
        refine hK.out _ _ hS5 (fun hHeld => ?_)
        clear hK K
        try simp only [Act.put, List.setIfInBounds_toArray, List.set_cons_zero, List.set_cons_succ, List.getElem_toArray, List.getElem_cons_zero, List.getElem_cons_succ]
        refine wpAnyH_ready (rs := [14]) (by kernel_rfl) (by simp) ?_
        refine (AllReadyH.cons rfl (fun K hK => ?_) AllReadyH.nil)
        go_simp
        go_at_call 26
        with_reducible refine (C5 _ (by with_reducible assumption)).mono ?_
        rintro e wv6 ⟨rfl, hb6⟩
        have hS6 : Below v12.heap.size v12 wv6 := bchain (by with_reducible assumption) hb6
        dsimp only
        refine hK.out _ _ hS6 (fun hHeld => ?_)
        clear hK K
        try simp only [Act.put, List.setIfInBounds_toArray, List.set_cons_zero, List.set_cons_succ, List.getElem_toArray, List.getElem_cons_zero, List.getElem_cons_succ]
        refine wpAnyH_take (i := 15) (v := ?_) rfl (by kernel_rfl) (by kernel_rfl) (by kernel_rfl) (fun _ _ _ h => h) (Or.inl ⟨by rfl, fun v hv => ?_⟩) (by with_reducible assumption) ?_
        rotate_left
        · go_simp
          try with_reducible rfl
        simp only [Act.put, List.setIfInBounds_toArray, List.set_cons_zero, List.set_cons_succ, List.getElem_toArray, List.getElem_cons_zero, List.getElem_cons_succ]
        refine wpAnyH_take (i := 16) (v := ?_) rfl (by kernel_rfl) (by kernel_rfl) (by kernel_rfl) (fun _ _ _ h => h) (Or.inl ⟨by rfl, fun v hv => ?_⟩) (by with_reducible assumption) ?_
        rotate_left
        · go_simp
          try with_reducible rfl
        simp only [Act.put, List.setIfInBounds_toArray, List.set_cons_zero, List.set_cons_succ, List.getElem_toArray, List.getElem_cons_zero, List.getElem_cons_succ]
        refine wpAnyH_take (i := 17) (v := ?_) rfl (by kernel_rfl) (by kernel_rfl) (by kernel_rfl) (fun _ _ _ h => h) (Or.inl ⟨by rfl, fun v hv => ?_⟩) (by with_reducible assumption) ?_
        rotate_left
        · go_simp
          try with_reducible rfl
        simp only [Act.put, List.setIfInBounds_toArray, List.set_cons_zero, List.set_cons_succ, List.getElem_toArray, List.getElem_cons_zero, List.getElem_cons_succ]
        refine wpAnyH_take (i := 20) (v := ?_) rfl (by kernel_rfl) (by kernel_rfl) (by kernel_rfl) (fun _ _ _ h => h) (Or.inl ⟨by rfl, fun v hv => ?_⟩) (by with_reducible assumption) ?_
        rotate_left
        · go_simp
          try with_reducible rfl
        simp only [Act.put, List.setIfInBounds_toArray, List.set_cons_zero, List.set_cons_succ, List.getElem_toArray, List.getElem_cons_zero, List.getElem_cons_succ]
        refine wpAnyH_ready (rs := [18]) (by kernel_rfl) (by simp) ?_
        refine (AllReadyH.cons rfl (fun K hK => ?_) AllReadyH.nil)
        go_simp
        go_at_call 34
        with_reducible refine (C6 _ (by with_reducible assumption)).mono ?_
        rintro e wv7 ⟨rfl, hb7⟩
        have hS7 : Below v12.heap.size v12 wv7 := bchain (by with_reducible assumption) hb7
        dsimp only
        refine hK.out _ _ hS7 (fun hHeld => ?_)
        clear hK K
        try simp only [Act.put, List.setIfInBounds_toArray, List.set_cons_zero, List.set_cons_succ, List.getElem_toArray, List.getElem_cons_zero, List.getElem_cons_succ]
        refine wpAnyH_ready (rs := [19]) (by kernel_rfl) (by simp) ?_
        refine (AllReadyH.cons rfl (fun K hK => ?_) AllReadyH.nil)
        go_simp
        go_at_call 29
        with_reducible refine (C7 _ (by with_reducible assumption)).mono ?_
        rintro e wv8 ⟨rfl, hb8⟩
        have hS8 : Below v12.heap.size v12 wv8 := bchain (by with_reducible assumption) hb8
        dsimp only
        refine hK.out _ _ hS8 (fun hHeld => ?_)
        clear hK K
        try simp only [Act.put, List.setIfInBounds_toArray, List.set_cons_zero, List.set_cons_succ, List.getElem_toArray, List.getElem_cons_zero, List.getElem_cons_succ]
        refine wpAnyH_ready (rs := [21]) (by kernel_rfl) (by simp) ?_
        refine (AllReadyH.cons rfl (fun K hK => ?_) AllReadyH.nil)
        go_simp
        go_at_call 26
        with_reducible refine (C8 _ (by with_reducible assumption)).mono ?_
        rintro e wv9 ⟨rfl, hb9⟩
        have hS9 : Below v12.heap.size v12 wv9 := bchain (by with_reducible assumption) hb9
        dsimp only
        refine hK.out _ _ hS9 (fun hHeld => ?_)
        clear hK K
        try simp only [Act.put, List.setIfInBounds_toArray, List.set_cons_zero, List.set_cons_succ, List.getElem_toArray, List.getElem_cons_zero, List.getElem_cons_succ]
        refine wpAnyH_take (i := 22) (v := ?_) rfl (by kernel_rfl) (by kernel_rfl) (by kernel_rfl) (fun _ _ _ h => h) (Or.inl ⟨by rfl, fun v hv => ?_⟩) (by with_reducible assumption) ?_
        rotate_left
        · go_simp
          try with_reducible rfl
        simp only [Act.put, List.setIfInBounds_toArray, List.set_cons_zero, List.set_cons_succ, List.getElem_toArray, List.getElem_cons_zero, List.getElem_cons_succ]
        refine wpAnyH_take (i := 23) (v := ?_) rfl (by kernel_rfl) (by kernel_rfl) (by kernel_rfl) (fun _ _ _ h => h) (Or.inl ⟨by rfl, fun v hv => ?_⟩) (by with_reducible assumption) ?_
        rotate_left
        · go_simp
          try with_reducible rfl
        simp only [Act.put, List.setIfInBounds_toArray, List.set_cons_zero, List.set_cons_succ, List.getElem_toArray, List.getElem_cons_zero, List.getElem_cons_succ]
        refine wpAnyH_take (i := 24) (v := ?_) rfl (by kernel_rfl) (by kernel_rfl) (by kernel_rfl) (fun _ _ _ h => h) (Or.inl ⟨by rfl, fun v hv => ?_⟩) (by with_reducible assumption) ?_
        rotate_left
        · go_simp
          try with_reducible rfl
        simp only [Act.put, List.setIfInBounds_toArray, List.set_cons_zero, List.set_cons_succ, List.getElem_toArray, List.getElem_cons_zero, List.getElem_cons_succ]
        refine wpAnyH_done (by kernel_rfl) ?_ _
        go_wp2_with fail
        go_meet
        exact ⟨rfl, hS9⟩
      case rest =>
        obtain ⟨rfl, hw⟩ := hcut
        have R := hid (bchain HW12.out hw)
        clear hw hS0
        go_wp2
        go_ret
        exact ⟨rfl, R.out⟩
end Go.Proofs.YtfonpmahcdmajaaDoor
