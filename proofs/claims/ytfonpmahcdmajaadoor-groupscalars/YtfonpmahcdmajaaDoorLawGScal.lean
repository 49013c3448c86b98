/-
  avouchlaw05.GroupScalars, by what the field's calls do: the walk.
-/
import Derived.Test.YtfonpmahcdmajaaDoorGrpY
import Derived.Test.YtfonpmahcdmajaaDoorWidX
namespace Go.Proofs.YtfonpmahcdmajaaDoor
open Go.RowKit
set_option linter.unusedVariables false
set_option linter.unusedSimpArgs false

theorem boxes2T (w : World) (X Y : Nat) :
    BlkW ((w.alloc (o12 24 X)).alloc (o12 24 Y)) w.heap.size 24 (ds X) ∧
    BlkW ((w.alloc (o12 24 X)).alloc (o12 24 Y)) (w.heap.size + 1) 24 (ds Y) ∧
    Below w.heap.size w ((w.alloc (o12 24 X)).alloc (o12 24 Y)) := by
  have e1 : (w.alloc (o12 24 X)).heap.size = w.heap.size + 1 := by simp
  have h2 := o12_new (w.alloc (o12 24 X)) 24 Y
  rw [e1] at h2
  exact ⟨(o12_new w 24 X).alloc _, h2, ((Below.refl _ _).alloc (Nat.le_refl _) _).alloc (by omega) _⟩

theorem setCells_blkW {b : Nat} {t : TypeId} : ∀ (l old done : List Nat) {w : World}, w.heap[b]? = some (.cells (cellsOf64 (done ++ old)).toArray t (0, 0)) → l.length = old.length →
    (w.setCells b done.length (cellsOf64 l)).heap[b]? = some (.cells (cellsOf64 (done ++ l)).toArray t (0, 0))
  | [], [], done, w, h, _ => h
  | [], _ :: _, _, _, _, hl => by simp at hl
  | _ :: _, [], _, _, _, hl => by simp at hl
  | x :: l, y :: old, done, w, h, hl => by
    have h' : (w.setCell ⟨b, done.length, none⟩ (.int .u64 (x : Int))).heap[b]? = some (.cells (cellsOf64 ((done ++ [x]) ++ old)).toArray t (0, 0)) := by
      simp [World.setCell, Array.getElem?_modify, h, cellsOf64]
    have ih := setCells_blkW l old (done ++ [x]) h' (by simpa using hl)
    rw [List.length_append, List.length_singleton, List.append_assoc] at ih
    exact ih
theorem zero_over {b : Nat} {t : TypeId} {w : World} {Y : Nat} (h : BlkW w b t (List.replicate 12 0)) : BlkW (w.setCells b 0 (cellsOf64 (ds Y))) b t (ds Y) := by
  have h2 := setCells_blkW (w := w) (b := b) (t := t) (ds Y) (List.replicate 12 0) [] h.heap (by rw [ds_len, List.length_replicate])
  simp only [List.nil_append, List.length_nil] at h2
  exact ⟨h2, ds_lt Y⟩

/-- What is kept: two numbers in memory. -/
structure EnvD (w : World) (ba bb X Y : Nat) (v : World) : Prop where
  x : BlkW v ba 24 (ds X)
  y : BlkW v bb 24 (ds Y)
  g : GlobW v
  b : Below w.heap.size w v
theorem EnvD.up {w : World} {ba bb X Y : Nat} {v v' : World} (h : EnvD w ba bb X Y v) (hb : Below v.heap.size v v') : EnvD w ba bb X Y v' :=
  ⟨blk_up h.x hb, blk_up h.y hb, h.g.up hb, bchain h.b hb⟩
theorem big_of {X : Nat} (h : X < W12 * 2) : X < 4294967296 ^ bigE := by
  have h2 : W12 * 2 < 4294967296 ^ 26 := by decide
  have h3 : 4294967296 ^ 26 ≤ 4294967296 ^ bigE := Nat.pow_le_pow_right (by decide) (by decide)
  omega
/-- What the field's calls do, as far as it is asked. -/
structure FieldC (w : World) (A : Option Addr) (n c : Nat) (cb : List Nat) (pn : Nat) : Prop where
  pos : pn < bigQ
  nz : 0 < pn
  wide : ∀ v, Below w.heap.size w v → Calls Tryd.prog 43 #[.slice A n c] v fun e w' => ∃ a0 a1 a2 a3 : Int, e = .returned (.agg #[.int .u64 a0, .int .u64 a1, .int .u64 a2, .int .u64 a3]) ∧ Below v.heap.size v w' ∧
    ∀ v', Below w'.heap.size w' v' → Calls Tryd.prog 77 #[.agg #[.int .u64 a0, .int .u64 a1, .int .u64 a2, .int .u64 a3]] v' fun e w'' => ∃ r, e = .returned r ∧ By32 r (val 256 cb % pn) ∧ Below v'.heap.size v' w''
  rest : ∀ v u, Dg v u (val 256 cb) → Calls Tryd.prog 44 #[u] v fun e w' => ∃ r, e = .returned r ∧ Dg w' r (val 256 cb % pn) ∧ Below v.heap.size v w'

set_option maxRecDepth 100000 in
set_option maxHeartbeats 8000000 in
theorem groupScalars_gen (X Y : Nat) (A : Option Addr) (n c : Nat) (cb : List Nat) (pn : Nat) (w : World) (hX : X < W12) (hY : Y < W12) (ha : Rd8 w w.heap.size A n cb) (hG : GlobW w) (hF : n ≤ 40 → FieldC w A n c cb pn) :
    Calls Tryd.prog 6 #[num X, num Y, .slice A n c] w fun e w' => e = .returned (.bool true) ∧ Below w.heap.size w w' := by
  have hlX := dsc_len X
  have hlY := dsc_len Y
  obtain ⟨a1, a2, a3⟩ := boxes2T w X Y
  have A0 : Hid (EnvD w w.heap.size (w.heap.size + 1) X Y ((w.alloc (o12 24 X)).alloc (o12 24 Y))) := ⟨a1, a2, hG.up a3, a3⟩
  have HX := hid hX
  have HY := hid hY
  have HA := hid ha
  have HF := hid hF
  clear hX hY hG a1 a2 a3 ha hF
  unfold num
  go_enter Tryd.func6, Tryd.ntmps6
  go_wp2_with fail
  change Calls _ _ _ ((w.alloc (o12 24 X)).alloc (o12 24 Y)) _
  generalize (w.alloc (o12 24 X)).alloc (o12 24 Y) = w0 at *
  clear hlX hlY
  refine (speaks5_c w0 A0.out.g).mono ?_
  rintro e w1 ⟨rfl, b1⟩
  have A1 := hid (A0.out.up b1)
  clear A0 b1
  by_cases hn : 40 < n
  · have i0 : (40 : Int) < (n : Int) := by omega
    go_wp2_with fail
    refine (speaks5_c w1 A1.out.g).mono ?_
    rintro e w2 ⟨rfl, b2⟩
    have HB := hid (bchain A1.out.b b2)
    clear i0
    go_wp2
    go_ret
    exact ⟨rfl, HB.out⟩
  have i0 : decide ((40 : Int) < (n : Int)) = false := by simp; omega
  have HN : Hid (n ≤ 40) := hid (by omega)
  have HF := hid (HF.out HN.out)
  clear hn
  go_wp2_with fail
  clear i0
  generalize w.heap.size + 1 = bb at *
  generalize hba : w.heap.size = ba at *
  have E1 := A1.out.up (Below.refl _ _).drew
  clear A1
  go_cut [7, 8] (fun s t wx => Dg wx s (X % bigQ) ∧ Dg wx t (Y % bigQ) ∧ EnvD w ba bb X Y wx)
  case first =>
    obtain ⟨n12, hn12⟩ : ∃ n : Nat, n = 12 := ⟨_, rfl⟩
    have L1 : ∀ v, EnvD w ba bb X Y v → (loadCellsFrom ⟨ba, 0, none⟩ 0 n12 #[]).run Tryd.prog v = .ok (cellsOf64 (ds X)).toArray v := fun v h => by rw [hn12]; exact cells_num h.x
    have L2 : ∀ v, EnvD w ba bb X Y v → (loadCellsFrom ⟨bb, 0, none⟩ 0 n12 #[]).run Tryd.prog v = .ok (cellsOf64 (ds Y)).toArray v := fun v h => by rw [hn12]; exact cells_num h.y
    have CX : ∀ (v : World), Calls Tryd.prog 24 #[.agg (cellsOf64 (ds X)).toArray] v fun e w' => ∃ r, e = .returned r ∧ Dg w' r X ∧ Below v.heap.size v w' := fun v => digitsW_c X v HX.out
    have CY : ∀ (v : World), Calls Tryd.prog 24 #[.agg (cellsOf64 (ds Y)).toArray] v fun e w' => ∃ r, e = .returned r ∧ Dg w' r Y ∧ Below v.heap.size v w' := fun v => digitsW_c Y v HY.out
    have CM : ∀ (Z : Nat) (u : Value) (v : World), Dg v u Z → Calls Tryd.prog 28 #[u] v fun e w' => ∃ r, e = .returned r ∧ Dg w' r (Z % bigQ) ∧ Below v.heap.size v w' := fun Z u v h => modQ_c u Z v h
    have G1 := agg_num
    have G2 : ∀ v, (sizeOf 24).run Tryd.prog v = .ok n12 v := by rw [hn12]; exact size_num
    clear hn12
    have N1 := Tryd.call24
    have N2 := Tryd.call28
    generalize Tryd.prog = P at CX CY CM L1 L2 G1 G2 N1 N2 ⊢
    go_region_held3 (fun w' => EnvD w ba bb X Y w') (with_reducible assumption) (first
      | (go_at_call 24; with_reducible refine (CX _).mono ?_; rintro e v ⟨r, rfl, hr, hb⟩; have hE := EnvD.up (by with_reducible assumption) hb; dsimp only)
      | (go_at_call 24; with_reducible refine (CY _).mono ?_; rintro e v ⟨r, rfl, hr, hb⟩; have hE := EnvD.up (by with_reducible assumption) hb; have hD := Dg.up (X := X % bigQ) (by with_reducible assumption) hb; dsimp only)
      | (go_at_call 28; with_reducible refine (CM X _ _ (by with_reducible assumption)).mono ?_; rintro e v ⟨r, rfl, hr, hb⟩; have hE := EnvD.up (by with_reducible assumption) hb; dsimp only)
      | (go_at_call 28; with_reducible refine (CM Y _ _ (by with_reducible assumption)).mono ?_; rintro e v ⟨r, rfl, hr, hb⟩; have hE := EnvD.up (by with_reducible assumption) hb; have hD := Dg.up (X := X % bigQ) (by with_reducible assumption) hb; dsimp only))
    go_wp2_with fail
    go_meet
    exact ⟨hD, hr, hE⟩
  case rest =>
    obtain ⟨hdx, hdy, hE1⟩ := hcut
    obtain ⟨S, hS⟩ : ∃ S, S = X % bigQ := ⟨_, rfl⟩
    obtain ⟨T, hT⟩ : ∃ T, T = Y % bigQ := ⟨_, rfl⟩
    rw [← hS] at hdx
    rw [← hT] at hdy
    have HS := hid hS
    have HT := hid hT
    have DX := hid hdx
    have DY := hid hdy
    have EE := hid hE1
    clear hS hT hdx hdy hE1 E1
    obtain ⟨w1, hw1⟩ : ∃ v, v = wc := ⟨_, rfl⟩
    rw [← hw1] at DX DY EE ⊢
    clear hw1
    go_wp2_with fail
    have hS0 : Below w1.heap.size w1 w1.drew := (Below.refl _ _).drew
    go_cut [9, 10] (fun s t wx => ∃ p q, s = .pointer (some ⟨p, 0, none⟩) ∧ t = .pointer (some ⟨q, 0, none⟩) ∧ BlkW wx p 44 (ds S) ∧ BlkW wx q 44 (ds T) ∧ Below w1.heap.size w1 wx)
    case first =>
      obtain ⟨n12, hn12⟩ : ∃ n : Nat, n = 12 := ⟨_, rfl⟩
      have L1 : ∀ v, Below w1.heap.size w1 v → (loadCellsFrom ⟨ba, 0, none⟩ 0 n12 #[]).run Tryd.prog v = .ok (cellsOf64 (ds X)).toArray v := fun v h => by rw [hn12]; exact cells_numT (blk_up EE.out.x h)
      have L2 : ∀ v, Below w1.heap.size w1 v → (loadCellsFrom ⟨bb, 0, none⟩ 0 n12 #[]).run Tryd.prog v = .ok (cellsOf64 (ds Y)).toArray v := fun v h => by rw [hn12]; exact cells_numT (blk_up EE.out.y h)
      have C1 : ∀ v, Below w1.heap.size w1 v → Calls Tryd.prog 31 #[.agg (cellsOf64 (ds X)).toArray] v fun e w' => e = .returned (.agg (cellsOf64 (ds S)).toArray) ∧ Below v.heap.size v w' := fun v h => by
        have := ofNumber_c X v HX (EE.out.g.up h)
        rw [← HS.out] at this
        exact this
      have C2 : ∀ v, Below w1.heap.size w1 v → Calls Tryd.prog 31 #[.agg (cellsOf64 (ds Y)).toArray] v fun e w' => e = .returned (.agg (cellsOf64 (ds T)).toArray) ∧ Below v.heap.size v w' := fun v h => by
        have := ofNumber_c Y v HY (EE.out.g.up h)
        rw [← HT.out] at this
        exact this
      have ST1 : ∀ v b, BlkW v b 44 (List.replicate 12 0) → (storeCells ⟨b, 0, none⟩ (cellsOf64 (ds S))).run Tryd.prog v = .ok () (v.setCells b 0 (cellsOf64 (ds S))) := fun v b h => (num_storedT h).1
      have ST2 : ∀ v b, BlkW v b 44 (List.replicate 12 0) → (storeCells ⟨b, 0, none⟩ (cellsOf64 (ds T))).run Tryd.prog v = .ok () (v.setCells b 0 (cellsOf64 (ds T))) := fun v b h => (num_storedT h).1
      have hl1 : (cellsOf64 (ds S)).length = n12 := by rw [hn12]; exact dsc_len S
      have hl2 : (cellsOf64 (ds T)).length = n12 := by rw [hn12]; exact dsc_len T
      have G1 := agg_num
      have G2 : ∀ v, (sizeOf 24).run Tryd.prog v = .ok n12 v := by rw [hn12]; exact size_num
      have G3 := agg_sc
      have G4 : ∀ v, (sizeOf 44).run Tryd.prog v = .ok n12 v := by rw [hn12]; exact size_sc
      have G5 : ∀ v, (zeroValue 44).run Tryd.prog v = .ok (.agg #[.int .u64 0, .int .u64 0, .int .u64 0, .int .u64 0, .int .u64 0, .int .u64 0, .int .u64 0, .int .u64 0, .int .u64 0, .int .u64 0, .int .u64 0, .int .u64 0]) v := fun v => by kernel_rfl
      have HM : Tryd.prog.follows .mixedOrders = true := by kernel_rfl
      have N1 := Tryd.call31
      clear hn12 HX HY HS HT hba DX DY EE HN HA HF
      generalize Tryd.prog = P at C1 C2 ST1 ST2 L1 L2 G1 G2 G3 G4 G5 HM N1 ⊢
      refine wp_region_held_drew (S := fun w' => Below w1.heap.size w1 w') HM hS0 (fun hHeld => ?_)
      generalize w1.drew = v0 at *
      refine wpAnyH_take (i := 0) (v := ?_) rfl (by kernel_rfl) (by kernel_rfl) (by kernel_rfl) (fun _ _ _ h => h) (Or.inl ⟨by rfl, fun v hv => ?_⟩) (by with_reducible assumption) ?_
      rotate_left
      · go_simp
        try with_reducible rfl
      simp only [Act.put, List.setIfInBounds_toArray, List.set_cons_zero, List.set_cons_succ, List.getElem_toArray, List.getElem_cons_zero, List.getElem_cons_succ]
      refine wpAnyH_take (i := 2) (v := ?_) rfl (by kernel_rfl) (by kernel_rfl) (by kernel_rfl) (fun _ _ _ h => h) (Or.inl ⟨by rfl, fun v hv => ?_⟩) (by with_reducible assumption) ?_
      rotate_left
      · go_simp
        try with_reducible rfl
      simp only [Act.put, List.setIfInBounds_toArray, List.set_cons_zero, List.set_cons_succ, List.getElem_toArray, List.getElem_cons_zero, List.getElem_cons_succ]
      refine wpAnyH_ready (rs := [1, 4, 5]) (by kernel_rfl) (by simp) ?_
      refine (AllReadyH.cons rfl (fun K hK => ?_) (AllReadyH.cons rfl (fun K hK => ?_) (AllReadyH.cons rfl (fun K hK => ?_) AllReadyH.nil)))
      · go_simp
        go_at_call 31
        with_reducible refine (C1 _ (by with_reducible assumption)).mono ?_
        rintro e wv1 ⟨rfl, hb1⟩
        have hS1 : Below w1.heap.size w1 wv1 := bchain (by with_reducible assumption) hb1
        dsimp only
        refine hK.out _ _ hS1 (fun hHeld => ?_)
        clear hK K
        try simp only [Act.put, List.setIfInBounds_toArray, List.set_cons_zero, List.set_cons_succ, List.getElem_toArray, List.getElem_cons_zero, List.getElem_cons_succ]
        refine wpAnyH_ready (rs := [3, 4, 5]) (by kernel_rfl) (by simp) ?_
        refine (AllReadyH.cons rfl (fun K hK => ?_) (AllReadyH.cons rfl (fun K hK => ?_) (AllReadyH.cons rfl (fun K hK => ?_) AllReadyH.nil)))
        · go_simp
          go_at_call 31
          with_reducible refine (C2 _ (by with_reducible assumption)).mono ?_
          rintro e wv2 ⟨rfl, hb2⟩
          have hS2 : Below w1.heap.size w1 wv2 := bchain (by with_reducible assumption) hb2
          dsimp only
          refine hK.out _ _ hS2 (fun hHeld => ?_)
          clear hK K
          try simp only [Act.put, List.setIfInBounds_toArray, List.set_cons_zero, List.set_cons_succ, List.getElem_toArray, List.getElem_cons_zero, List.getElem_cons_succ]
          refine wpAnyH_ready (rs := [4, 5]) (by kernel_rfl) (by simp) ?_
          refine (AllReadyH.cons rfl (fun K hK => ?_) (AllReadyH.cons rfl (fun K hK => ?_) AllReadyH.nil))
          · have hb3 := (Below.refl wv2.heap.size wv2).alloc (Nat.le_refl _) (.cells #[.int .u64 0, .int .u64 0, .int .u64 0, .int .u64 0, .int .u64 0, .int .u64 0, .int .u64 0, .int .u64 0, .int .u64 0, .int .u64 0, .int .u64 0, .int .u64 0] 44)
            have hS3 : Below w1.heap.size w1 (wv2.alloc (.cells #[.int .u64 0, .int .u64 0, .int .u64 0, .int .u64 0, .int .u64 0, .int .u64 0, .int .u64 0, .int .u64 0, .int .u64 0, .int .u64 0, .int .u64 0, .int .u64 0] 44)) := bchain hS2 hb3
            have lep3 := hS2.size
            have zp3 : BlkW (wv2.alloc (.cells #[.int .u64 0, .int .u64 0, .int .u64 0, .int .u64 0, .int .u64 0, .int .u64 0, .int .u64 0, .int .u64 0, .int .u64 0, .int .u64 0, .int .u64 0, .int .u64 0] 44)) (wv2.heap.size) 44 (List.replicate 12 0) := z12_new wv2 44
            go_simp
            refine hK.out _ _ hS3 (fun hHeld => ?_)
            clear hK K
            try simp only [Act.put, List.setIfInBounds_toArray, List.set_cons_zero, List.set_cons_succ, List.getElem_toArray, List.getElem_cons_zero, List.getElem_cons_succ]
            generalize hv3 : wv2.alloc (.cells #[.int .u64 0, .int .u64 0, .int .u64 0, .int .u64 0, .int .u64 0, .int .u64 0, .int .u64 0, .int .u64 0, .int .u64 0, .int .u64 0, .int .u64 0, .int .u64 0] 44) = wv3 at *
            generalize hbl3 : wv2.heap.size = pb3 at *
            clear hb3
            refine wpAnyH_ready (rs := [5]) (by kernel_rfl) (by simp) ?_
            refine (AllReadyH.cons rfl (fun K hK => ?_) AllReadyH.nil)
            have hb4 := (Below.refl wv3.heap.size wv3).alloc (Nat.le_refl _) (.cells #[.int .u64 0, .int .u64 0, .int .u64 0, .int .u64 0, .int .u64 0, .int .u64 0, .int .u64 0, .int .u64 0, .int .u64 0, .int .u64 0, .int .u64 0, .int .u64 0] 44)
            have hS4 : Below w1.heap.size w1 (wv3.alloc (.cells #[.int .u64 0, .int .u64 0, .int .u64 0, .int .u64 0, .int .u64 0, .int .u64 0, .int .u64 0, .int .u64 0, .int .u64 0, .int .u64 0, .int .u64 0, .int .u64 0] 44)) := bchain hS3 hb4
            have leq4 := hS3.size
            have ltp4 := (zp3).size
            have zp4 := blk_up zp3 hb4
            have zq4 : BlkW (wv3.alloc (.cells #[.int .u64 0, .int .u64 0, .int .u64 0, .int .u64 0, .int .u64 0, .int .u64 0, .int .u64 0, .int .u64 0, .int .u64 0, .int .u64 0, .int .u64 0, .int .u64 0] 44)) (wv3.heap.size) 44 (List.replicate 12 0) := z12_new wv3 44
            go_simp
            refine hK.out _ _ hS4 (fun hHeld => ?_)
            clear hK K
            try simp only [Act.put, List.setIfInBounds_toArray, List.set_cons_zero, List.set_cons_succ, List.getElem_toArray, List.getElem_cons_zero, List.getElem_cons_succ]
            generalize hv4 : wv3.alloc (.cells #[.int .u64 0, .int .u64 0, .int .u64 0, .int .u64 0, .int .u64 0, .int .u64 0, .int .u64 0, .int .u64 0, .int .u64 0, .int .u64 0, .int .u64 0, .int .u64 0] 44) = wv4 at *
            generalize hbl4 : wv3.heap.size = pb4 at *
            clear hb4
            refine wpAnyH_ready (rs := [6]) (by kernel_rfl) (by simp) ?_
            refine (AllReadyH.cons rfl (fun K hK => ?_) AllReadyH.nil)
            have hst5 := ST1 wv4 pb3 zp4
            go_simp
            have hS5 : Below w1.heap.size w1 (wv4.setCells pb3 0 (cellsOf64 (ds S))) := below_cells lep3 _ _ _ hS4
            have zq5 := blk_put (show pb4 ≠ pb3 by omega) (cellsOf64 (ds S)) 0 _ zq4
            have zp5 := zero_over (Y := S) zp4
            refine hK.out _ _ hS5 (fun hHeld => ?_)
            clear hK K hst5
            try simp only [Act.put, List.setIfInBounds_toArray, List.set_cons_zero, List.set_cons_succ, List.getElem_toArray, List.getElem_cons_zero, List.getElem_cons_succ]
            generalize wv4.setCells pb3 0 (cellsOf64 (ds S)) = wv5 at *
            refine wpAnyH_ready (rs := [7]) (by kernel_rfl) (by simp) ?_
            refine (AllReadyH.cons rfl (fun K hK => ?_) AllReadyH.nil)
            have hst6 := ST2 wv5 pb4 zq5
            go_simp
            have hS6 : Below w1.heap.size w1 (wv5.setCells pb4 0 (cellsOf64 (ds T))) := below_cells leq4 _ _ _ hS5
            have zp6 := blk_put (show pb3 ≠ pb4 by omega) (cellsOf64 (ds T)) 0 _ zp5
            have zq6 := zero_over (Y := T) zq5
            refine hK.out _ _ hS6 (fun hHeld => ?_)
            clear hK K hst6
            try simp only [Act.put, List.setIfInBounds_toArray, List.set_cons_zero, List.set_cons_succ, List.getElem_toArray, List.getElem_cons_zero, List.getElem_cons_succ]
            generalize wv5.setCells pb4 0 (cellsOf64 (ds T)) = wv6 at *
            refine wpAnyH_done (by kernel_rfl) ?_ _
            go_wp2_with fail
            go_meet
            exact ⟨_, _, rfl, rfl, zp6, zq6, hS6⟩
          · have hb7 := (Below.refl wv2.heap.size wv2).alloc (Nat.le_refl _) (.cells #[.int .u64 0, .int .u64 0, .int .u64 0, .int .u64 0, .int .u64 0, .int .u64 0, .int .u64 0, .int .u64 0, .int .u64 0, .int .u64 0, .int .u64 0, .int .u64 0] 44)
            have hS7 : Below w1.heap.size w1 (wv2.alloc (.cells #[.int .u64 0, .int .u64 0, .int .u64 0, .int .u64 0, .int .u64 0, .int .u64 0, .int .u64 0, .int .u64 0, .int .u64 0, .int .u64 0, .int .u64 0, .int .u64 0] 44)) := bchain hS2 hb7
            have leq7 := hS2.size
            have zq7 : BlkW (wv2.alloc (.cells #[.int .u64 0, .int .u64 0, .int .u64 0, .int .u64 0, .int .u64 0, .int .u64 0, .int .u64 0, .int .u64 0, .int .u64 0, .int .u64 0, .int .u64 0, .int .u64 0] 44)) (wv2.heap.size) 44 (List.replicate 12 0) := z12_new wv2 44
            go_simp
            refine hK.out _ _ hS7 (fun hHeld => ?_)
            clear hK K
            try simp only [Act.put, List.setIfInBounds_toArray, List.set_cons_zero, List.set_cons_succ, List.getElem_toArray, List.getElem_cons_zero, List.getElem_cons_succ]
            generalize hv7 : wv2.alloc (.cells #[.int .u64 0, .int .u64 0, .int .u64 0, .int .u64 0, .int .u64 0, .int .u64 0, .int .u64 0, .int .u64 0, .int .u64 0, .int .u64 0, .int .u64 0, .int .u64 0] 44) = wv7 at *
            generalize hbl7 : wv2.heap.size = pb7 at *
            clear hb7
            refine wpAnyH_ready (rs := [4]) (by kernel_rfl) (by simp) ?_
            refine (AllReadyH.cons rfl (fun K hK => ?_) AllReadyH.nil)
            have hb8 := (Below.refl wv7.heap.size wv7).alloc (Nat.le_refl _) (.cells #[.int .u64 0, .int .u64 0, .int .u64 0, .int .u64 0, .int .u64 0, .int .u64 0, .int .u64 0, .int .u64 0, .int .u64 0, .int .u64 0, .int .u64 0, .int .u64 0] 44)
            have hS8 : Below w1.heap.size w1 (wv7.alloc (.cells #[.int .u64 0, .int .u64 0, .int .u64 0, .int .u64 0, .int .u64 0, .int .u64 0, .int .u64 0, .int .u64 0, .int .u64 0, .int .u64 0, .int .u64 0, .int .u64 0] 44)) := bchain hS7 hb8
            have lep8 := hS7.size
            have ltq8 := (zq7).size
            have zq8 := blk_up zq7 hb8
            have zp8 : BlkW (wv7.alloc (.cells #[.int .u64 0, .int .u64 0, .int .u64 0, .int .u64 0, .int .u64 0, .int .u64 0, .int .u64 0, .int .u64 0, .int .u64 0, .int .u64 0, .int .u64 0, .int .u64 0] 44)) (wv7.heap.size) 44 (List.replicate 12 0) := z12_new wv7 44
            go_simp
            refine hK.out _ _ hS8 (fun hHeld => ?_)
            clear hK K
            try simp only [Act.put, List.setIfInBounds_toArray, List.set_cons_zero, List.set_cons_succ, List.getElem_toArray, List.getElem_cons_zero, List.getElem_cons_succ]
            generalize hv8 : wv7.alloc (.cells #[.int .u64 0, .int .u64 0, .int .u64 0, .int .u64 0, .int .u64 0, .int .u64 0, .int .u64 0, .int .u64 0, .int .u64 0, .int .u64 0, .int .u64 0, .int .u64 0] 44) = wv8 at *
            generalize hbl8 : wv7.heap.size = pb8 at *
            clear hb8
            refine wpAnyH_ready (rs := [6]) (by kernel_rfl) (by simp) ?_
            refine (AllReadyH.cons rfl (fun K hK => ?_) AllReadyH.nil)
            have hst9 := ST1 wv8 pb8 zp8
            go_simp
            have hS9 : Below w1.heap.size w1 (wv8.setCells pb8 0 (cellsOf64 (ds S))) := below_cells lep8 _ _ _ hS8
            have zq9 := blk_put (show pb7 ≠ pb8 by omega) (cellsOf64 (ds S)) 0 _ zq8
            have zp9 := zero_over (Y := S) zp8
            refine hK.out _ _ hS9 (fun hHeld => ?_)
            clear hK K hst9
            try simp only [Act.put, List.setIfInBounds_toArray, List.set_cons_zero, List.set_cons_succ, List.getElem_toArray, List.getElem_cons_zero, List.getElem_cons_succ]
            generalize wv8.setCells pb8 0 (cellsOf64 (ds S)) = wv9 at *
            refine wpAnyH_ready (rs := [7]) (by kernel_rfl) (by simp) ?_
            refine (AllReadyH.cons rfl (fun K hK => ?_) AllReadyH.nil)
            have hst10 := ST2 wv9 pb7 zq9
            go_simp
            have hS10 : Below w1.heap.size w1 (wv9.setCells pb7 0 (cellsOf64 (ds T))) := below_cells leq7 _ _ _ hS9
            have zp10 := blk_put (show pb8 ≠ pb7 by omega) (cellsOf64 (ds T)) 0 _ zp9
            have zq10 := zero_over (Y := T) zq9
            refine hK.out _ _ hS10 (fun hHeld => ?_)
            clear hK K hst10
            try simp only [Act.put, List.setIfInBounds_toArray, List.set_cons_zero, List.set_cons_succ, List.getElem_toArray, List.getElem_cons_zero, List.getElem_cons_succ]
            generalize wv9.setCells pb7 0 (cellsOf64 (ds T)) = wv10 at *
            refine wpAnyH_done (by kernel_rfl) ?_ _
            go_wp2_with fail
            go_meet
            exact ⟨_, _, rfl, rfl, zp10, zq10, hS10⟩
        · have hb11 := (Below.refl wv1.heap.size wv1).alloc (Nat.le_refl _) (.cells #[.int .u64 0, .int .u64 0, .int .u64 0, .int .u64 0, .int .u64 0, .int .u64 0, .int .u64 0, .int .u64 0, .int .u64 0, .int .u64 0, .int .u64 0, .int .u64 0] 44)
          have hS11 : Below w1.heap.size w1 (wv1.alloc (.cells #[.int .u64 0, .int .u64 0, .int .u64 0, .int .u64 0, .int .u64 0, .int .u64 0, .int .u64 0, .int .u64 0, .int .u64 0, .int .u64 0, .int .u64 0, .int .u64 0] 44)) := bchain hS1 hb11
          have lep11 := hS1.size
          have zp11 : BlkW (wv1.alloc (.cells #[.int .u64 0, .int .u64 0, .int .u64 0, .int .u64 0, .int .u64 0, .int .u64 0, .int .u64 0, .int .u64 0, .int .u64 0, .int .u64 0, .int .u64 0, .int .u64 0] 44)) (wv1.heap.size) 44 (List.replicate 12 0) := z12_new wv1 44
          go_simp
          refine hK.out _ _ hS11 (fun hHeld => ?_)
          clear hK K
          try simp only [Act.put, List.setIfInBounds_toArray, List.set_cons_zero, List.set_cons_succ, List.getElem_toArray, List.getElem_cons_zero, List.getElem_cons_succ]
          generalize hv11 : wv1.alloc (.cells #[.int .u64 0, .int .u64 0, .int .u64 0, .int .u64 0, .int .u64 0, .int .u64 0, .int .u64 0, .int .u64 0, .int .u64 0, .int .u64 0, .int .u64 0, .int .u64 0] 44) = wv11 at *
          generalize hbl11 : wv1.heap.size = pb11 at *
          clear hb11
          refine wpAnyH_ready (rs := [3, 5]) (by kernel_rfl) (by simp) ?_
          refine (AllReadyH.cons rfl (fun K hK => ?_) (AllReadyH.cons rfl (fun K hK => ?_) AllReadyH.nil))
          · go_simp
            go_at_call 31
            with_reducible refine (C2 _ (by with_reducible assumption)).mono ?_
            rintro e wv12 ⟨rfl, hb12⟩
            have hS12 : Below w1.heap.size w1 wv12 := bchain (by with_reducible assumption) hb12
            have zp12 := blk_up zp11 hb12
            dsimp only
            refine hK.out _ _ hS12 (fun hHeld => ?_)
            clear hK K
            try simp only [Act.put, List.setIfInBounds_toArray, List.set_cons_zero, List.set_cons_succ, List.getElem_toArray, List.getElem_cons_zero, List.getElem_cons_succ]
            refine wpAnyH_ready (rs := [5]) (by kernel_rfl) (by simp) ?_
            refine (AllReadyH.cons rfl (fun K hK => ?_) AllReadyH.nil)
            have hb13 := (Below.refl wv12.heap.size wv12).alloc (Nat.le_refl _) (.cells #[.int .u64 0, .int .u64 0, .int .u64 0, .int .u64 0, .int .u64 0, .int .u64 0, .int .u64 0, .int .u64 0, .int .u64 0, .int .u64 0, .int .u64 0, .int .u64 0] 44)
            have hS13 : Below w1.heap.size w1 (wv12.alloc (.cells #[.int .u64 0, .int .u64 0, .int .u64 0, .int .u64 0, .int .u64 0, .int .u64 0, .int .u64 0, .int .u64 0, .int .u64 0, .int .u64 0, .int .u64 0, .int .u64 0] 44)) := bchain hS12 hb13
            have leq13 := hS12.size
            have ltp13 := (zp12).size
            have zp13 := blk_up zp12 hb13
            have zq13 : BlkW (wv12.alloc (.cells #[.int .u64 0, .int .u64 0, .int .u64 0, .int .u64 0, .int .u64 0, .int .u64 0, .int .u64 0, .int .u64 0, .int .u64 0, .int .u64 0, .int .u64 0, .int .u64 0] 44)) (wv12.heap.size) 44 (List.replicate 12 0) := z12_new wv12 44
            go_simp
            refine hK.out _ _ hS13 (fun hHeld => ?_)
            clear hK K
            try simp only [Act.put, List.setIfInBounds_toArray, List.set_cons_zero, List.set_cons_succ, List.getElem_toArray, List.getElem_cons_zero, List.getElem_cons_succ]
            generalize hv13 : wv12.alloc (.cells #[.int .u64 0, .int .u64 0, .int .u64 0, .int .u64 0, .int .u64 0, .int .u64 0, .int .u64 0, .int .u64 0, .int .u64 0, .int .u64 0, .int .u64 0, .int .u64 0] 44) = wv13 at *
            generalize hbl13 : wv12.heap.size = pb13 at *
            clear hb13
            refine wpAnyH_ready (rs := [6]) (by kernel_rfl) (by simp) ?_
            refine (AllReadyH.cons rfl (fun K hK => ?_) AllReadyH.nil)
            have hst14 := ST1 wv13 pb11 zp13
            go_simp
            have hS14 : Below w1.heap.size w1 (wv13.setCells pb11 0 (cellsOf64 (ds S))) := below_cells lep11 _ _ _ hS13
            have zq14 := blk_put (show pb13 ≠ pb11 by omega) (cellsOf64 (ds S)) 0 _ zq13
            have zp14 := zero_over (Y := S) zp13
            refine hK.out _ _ hS14 (fun hHeld => ?_)
            clear hK K hst14
            try simp only [Act.put, List.setIfInBounds_toArray, List.set_cons_zero, List.set_cons_succ, List.getElem_toArray, List.getElem_cons_zero, List.getElem_cons_succ]
            generalize wv13.setCells pb11 0 (cellsOf64 (ds S)) = wv14 at *
            refine wpAnyH_ready (rs := [7]) (by kernel_rfl) (by simp) ?_
            refine (AllReadyH.cons rfl (fun K hK => ?_) AllReadyH.nil)
            have hst15 := ST2 wv14 pb13 zq14
            go_simp
            have hS15 : Below w1.heap.size w1 (wv14.setCells pb13 0 (cellsOf64 (ds T))) := below_cells leq13 _ _ _ hS14
            have zp15 := blk_put (show pb11 ≠ pb13 by omega) (cellsOf64 (ds T)) 0 _ zp14
            have zq15 := zero_over (Y := T) zq14
            refine hK.out _ _ hS15 (fun hHeld => ?_)
            clear hK K hst15
            try simp only [Act.put, List.setIfInBounds_toArray, List.set_cons_zero, List.set_cons_succ, List.getElem_toArray, List.getElem_cons_zero, List.getElem_cons_succ]
            generalize wv14.setCells pb13 0 (cellsOf64 (ds T)) = wv15 at *
            refine wpAnyH_done (by kernel_rfl) ?_ _
            go_wp2_with fail
            go_meet
            exact ⟨_, _, rfl, rfl, zp15, zq15, hS15⟩
          · have hb16 := (Below.refl wv11.heap.size wv11).alloc (Nat.le_refl _) (.cells #[.int .u64 0, .int .u64 0, .int .u64 0, .int .u64 0, .int .u64 0, .int .u64 0, .int .u64 0, .int .u64 0, .int .u64 0, .int .u64 0, .int .u64 0, .int .u64 0] 44)
            have hS16 : Below w1.heap.size w1 (wv11.alloc (.cells #[.int .u64 0, .int .u64 0, .int .u64 0, .int .u64 0, .int .u64 0, .int .u64 0, .int .u64 0, .int .u64 0, .int .u64 0, .int .u64 0, .int .u64 0, .int .u64 0] 44)) := bchain hS11 hb16
            have leq16 := hS11.size
            have ltp16 := (zp11).size
            have zp16 := blk_up zp11 hb16
            have zq16 : BlkW (wv11.alloc (.cells #[.int .u64 0, .int .u64 0, .int .u64 0, .int .u64 0, .int .u64 0, .int .u64 0, .int .u64 0, .int .u64 0, .int .u64 0, .int .u64 0, .int .u64 0, .int .u64 0] 44)) (wv11.heap.size) 44 (List.replicate 12 0) := z12_new wv11 44
            go_simp
            refine hK.out _ _ hS16 (fun hHeld => ?_)
            clear hK K
            try simp only [Act.put, List.setIfInBounds_toArray, List.set_cons_zero, List.set_cons_succ, List.getElem_toArray, List.getElem_cons_zero, List.getElem_cons_succ]
            generalize hv16 : wv11.alloc (.cells #[.int .u64 0, .int .u64 0, .int .u64 0, .int .u64 0, .int .u64 0, .int .u64 0, .int .u64 0, .int .u64 0, .int .u64 0, .int .u64 0, .int .u64 0, .int .u64 0] 44) = wv16 at *
            generalize hbl16 : wv11.heap.size = pb16 at *
            clear hb16
            refine wpAnyH_ready (rs := [3]) (by kernel_rfl) (by simp) ?_
            refine (AllReadyH.cons rfl (fun K hK => ?_) AllReadyH.nil)
            go_simp
            go_at_call 31
            with_reducible refine (C2 _ (by with_reducible assumption)).mono ?_
            rintro e wv17 ⟨rfl, hb17⟩
            have hS17 : Below w1.heap.size w1 wv17 := bchain (by with_reducible assumption) hb17
            have zp17 := blk_up zp16 hb17
            have zq17 := blk_up zq16 hb17
            dsimp only
            refine hK.out _ _ hS17 (fun hHeld => ?_)
            clear hK K
            try simp only [Act.put, List.setIfInBounds_toArray, List.set_cons_zero, List.set_cons_succ, List.getElem_toArray, List.getElem_cons_zero, List.getElem_cons_succ]
            refine wpAnyH_ready (rs := [6]) (by kernel_rfl) (by simp) ?_
            refine (AllReadyH.cons rfl (fun K hK => ?_) AllReadyH.nil)
            have hst18 := ST1 wv17 pb11 zp17
            go_simp
            have hS18 : Below w1.heap.size w1 (wv17.setCells pb11 0 (cellsOf64 (ds S))) := below_cells lep11 _ _ _ hS17
            have zq18 := blk_put (show pb16 ≠ pb11 by omega) (cellsOf64 (ds S)) 0 _ zq17
            have zp18 := zero_over (Y := S) zp17
            refine hK.out _ _ hS18 (fun hHeld => ?_)
            clear hK K hst18
            try simp only [Act.put, List.setIfInBounds_toArray, List.set_cons_zero, List.set_cons_succ, List.getElem_toArray, List.getElem_cons_zero, List.getElem_cons_succ]
            generalize wv17.setCells pb11 0 (cellsOf64 (ds S)) = wv18 at *
            refine wpAnyH_ready (rs := [7]) (by kernel_rfl) (by simp) ?_
            refine (AllReadyH.cons rfl (fun K hK => ?_) AllReadyH.nil)
            have hst19 := ST2 wv18 pb16 zq18
            go_simp
            have hS19 : Below w1.heap.size w1 (wv18.setCells pb16 0 (cellsOf64 (ds T))) := below_cells leq16 _ _ _ hS18
            have zp19 := blk_put (show pb11 ≠ pb16 by omega) (cellsOf64 (ds T)) 0 _ zp18
            have zq19 := zero_over (Y := T) zq18
            refine hK.out _ _ hS19 (fun hHeld => ?_)
            clear hK K hst19
            try simp only [Act.put, List.setIfInBounds_toArray, List.set_cons_zero, List.set_cons_succ, List.getElem_toArray, List.getElem_cons_zero, List.getElem_cons_succ]
            generalize wv18.setCells pb16 0 (cellsOf64 (ds T)) = wv19 at *
            refine wpAnyH_done (by kernel_rfl) ?_ _
            go_wp2_with fail
            go_meet
            exact ⟨_, _, rfl, rfl, zp19, zq19, hS19⟩
        · have hb20 := (Below.refl wv1.heap.size wv1).alloc (Nat.le_refl _) (.cells #[.int .u64 0, .int .u64 0, .int .u64 0, .int .u64 0, .int .u64 0, .int .u64 0, .int .u64 0, .int .u64 0, .int .u64 0, .int .u64 0, .int .u64 0, .int .u64 0] 44)
          have hS20 : Below w1.heap.size w1 (wv1.alloc (.cells #[.int .u64 0, .int .u64 0, .int .u64 0, .int .u64 0, .int .u64 0, .int .u64 0, .int .u64 0, .int .u64 0, .int .u64 0, .int .u64 0, .int .u64 0, .int .u64 0] 44)) := bchain hS1 hb20
          have leq20 := hS1.size
          have zq20 : BlkW (wv1.alloc (.cells #[.int .u64 0, .int .u64 0, .int .u64 0, .int .u64 0, .int .u64 0, .int .u64 0, .int .u64 0, .int .u64 0, .int .u64 0, .int .u64 0, .int .u64 0, .int .u64 0] 44)) (wv1.heap.size) 44 (List.replicate 12 0) := z12_new wv1 44
          go_simp
          refine hK.out _ _ hS20 (fun hHeld => ?_)
          clear hK K
          try simp only [Act.put, List.setIfInBounds_toArray, List.set_cons_zero, List.set_cons_succ, List.getElem_toArray, List.getElem_cons_zero, List.getElem_cons_succ]
          generalize hv20 : wv1.alloc (.cells #[.int .u64 0, .int .u64 0, .int .u64 0, .int .u64 0, .int .u64 0, .int .u64 0, .int .u64 0, .int .u64 0, .int .u64 0, .int .u64 0, .int .u64 0, .int .u64 0] 44) = wv20 at *
          generalize hbl20 : wv1.heap.size = pb20 at *
          clear hb20
          refine wpAnyH_ready (rs := [3, 4]) (by kernel_rfl) (by simp) ?_
          refine (AllReadyH.cons rfl (fun K hK => ?_) (AllReadyH.cons rfl (fun K hK => ?_) AllReadyH.nil))
          · go_simp
            go_at_call 31
            with_reducible refine (C2 _ (by with_reducible assumption)).mono ?_
            rintro e wv21 ⟨rfl, hb21⟩
            have hS21 : Below w1.heap.size w1 wv21 := bchain (by with_reducible assumption) hb21
            have zq21 := blk_up zq20 hb21
            dsimp only
            refine hK.out _ _ hS21 (fun hHeld => ?_)
            clear hK K
            try simp only [Act.put, List.setIfInBounds_toArray, List.set_cons_zero, List.set_cons_succ, List.getElem_toArray, List.getElem_cons_zero, List.getElem_cons_succ]
            refine wpAnyH_ready (rs := [4]) (by kernel_rfl) (by simp) ?_
            refine (AllReadyH.cons rfl (fun K hK => ?_) AllReadyH.nil)
            have hb22 := (Below.refl wv21.heap.size wv21).alloc (Nat.le_refl _) (.cells #[.int .u64 0, .int .u64 0, .int .u64 0, .int .u64 0, .int .u64 0, .int .u64 0, .int .u64 0, .int .u64 0, .int .u64 0, .int .u64 0, .int .u64 0, .int .u64 0] 44)
            have hS22 : Below w1.heap.size w1 (wv21.alloc (.cells #[.int .u64 0, .int .u64 0, .int .u64 0, .int .u64 0, .int .u64 0, .int .u64 0, .int .u64 0, .int .u64 0, .int .u64 0, .int .u64 0, .int .u64 0, .int .u64 0] 44)) := bchain hS21 hb22
            have lep22 := hS21.size
            have ltq22 := (zq21).size
            have zq22 := blk_up zq21 hb22
            have zp22 : BlkW (wv21.alloc (.cells #[.int .u64 0, .int .u64 0, .int .u64 0, .int .u64 0, .int .u64 0, .int .u64 0, .int .u64 0, .int .u64 0, .int .u64 0, .int .u64 0, .int .u64 0, .int .u64 0] 44)) (wv21.heap.size) 44 (List.replicate 12 0) := z12_new wv21 44
            go_simp
            refine hK.out _ _ hS22 (fun hHeld => ?_)
            clear hK K
            try simp only [Act.put, List.setIfInBounds_toArray, List.set_cons_zero, List.set_cons_succ, List.getElem_toArray, List.getElem_cons_zero, List.getElem_cons_succ]
            generalize hv22 : wv21.alloc (.cells #[.int .u64 0, .int .u64 0, .int .u64 0, .int .u64 0, .int .u64 0, .int .u64 0, .int .u64 0, .int .u64 0, .int .u64 0, .int .u64 0, .int .u64 0, .int .u64 0] 44) = wv22 at *
            generalize hbl22 : wv21.heap.size = pb22 at *
            clear hb22
            refine wpAnyH_ready (rs := [6]) (by kernel_rfl) (by simp) ?_
            refine (AllReadyH.cons rfl (fun K hK => ?_) AllReadyH.nil)
            have hst23 := ST1 wv22 pb22 zp22
            go_simp
            have hS23 : Below w1.heap.size w1 (wv22.setCells pb22 0 (cellsOf64 (ds S))) := below_cells lep22 _ _ _ hS22
            have zq23 := blk_put (show pb20 ≠ pb22 by omega) (cellsOf64 (ds S)) 0 _ zq22
            have zp23 := zero_over (Y := S) zp22
            refine hK.out _ _ hS23 (fun hHeld => ?_)
            clear hK K hst23
            try simp only [Act.put, List.setIfInBounds_toArray, List.set_cons_zero, List.set_cons_succ, List.getElem_toArray, List.getElem_cons_zero, List.getElem_cons_succ]
            generalize wv22.setCells pb22 0 (cellsOf64 (ds S)) = wv23 at *
            refine wpAnyH_ready (rs := [7]) (by kernel_rfl) (by simp) ?_
            refine (AllReadyH.cons rfl (fun K hK => ?_) AllReadyH.nil)
            have hst24 := ST2 wv23 pb20 zq23
            go_simp
            have hS24 : Below w1.heap.size w1 (wv23.setCells pb20 0 (cellsOf64 (ds T))) := below_cells leq20 _ _ _ hS23
            have zp24 := blk_put (show pb22 ≠ pb20 by omega) (cellsOf64 (ds T)) 0 _ zp23
            have zq24 := zero_over (Y := T) zq23
            refine hK.out _ _ hS24 (fun hHeld => ?_)
            clear hK K hst24
            try simp only [Act.put, List.setIfInBounds_toArray, List.set_cons_zero, List.set_cons_succ, List.getElem_toArray, List.getElem_cons_zero, List.getElem_cons_succ]
            generalize wv23.setCells pb20 0 (cellsOf64 (ds T)) = wv24 at *
            refine wpAnyH_done (by kernel_rfl) ?_ _
            go_wp2_with fail
            go_meet
            exact ⟨_, _, rfl, rfl, zp24, zq24, hS24⟩
          · have hb25 := (Below.refl wv20.heap.size wv20).alloc (Nat.le_refl _) (.cells #[.int .u64 0, .int .u64 0, .int .u64 0, .int .u64 0, .int .u64 0, .int .u64 0, .int .u64 0, .int .u64 0, .int .u64 0, .int .u64 0, .int .u64 0, .int .u64 0] 44)
            have hS25 : Below w1.heap.size w1 (wv20.alloc (.cells #[.int .u64 0, .int .u64 0, .int .u64 0, .int .u64 0, .int .u64 0, .int .u64 0, .int .u64 0, .int .u64 0, .int .u64 0, .int .u64 0, .int .u64 0, .int .u64 0] 44)) := bchain hS20 hb25
            have lep25 := hS20.size
            have ltq25 := (zq20).size
            have zq25 := blk_up zq20 hb25
            have zp25 : BlkW (wv20.alloc (.cells #[.int .u64 0, .int .u64 0, .int .u64 0, .int .u64 0, .int .u64 0, .int .u64 0, .int .u64 0, .int .u64 0, .int .u64 0, .int .u64 0, .int .u64 0, .int .u64 0] 44)) (wv20.heap.size) 44 (List.replicate 12 0) := z12_new wv20 44
            go_simp
            refine hK.out _ _ hS25 (fun hHeld => ?_)
            clear hK K
            try simp only [Act.put, List.setIfInBounds_toArray, List.set_cons_zero, List.set_cons_succ, List.getElem_toArray, List.getElem_cons_zero, List.getElem_cons_succ]
            generalize hv25 : wv20.alloc (.cells #[.int .u64 0, .int .u64 0, .int .u64 0, .int .u64 0, .int .u64 0, .int .u64 0, .int .u64 0, .int .u64 0, .int .u64 0, .int .u64 0, .int .u64 0, .int .u64 0] 44) = wv25 at *
            generalize hbl25 : wv20.heap.size = pb25 at *
            clear hb25
            refine wpAnyH_ready (rs := [3]) (by kernel_rfl) (by simp) ?_
            refine (AllReadyH.cons rfl (fun K hK => ?_) AllReadyH.nil)
            go_simp
            go_at_call 31
            with_reducible refine (C2 _ (by with_reducible assumption)).mono ?_
            rintro e wv26 ⟨rfl, hb26⟩
            have hS26 : Below w1.heap.size w1 wv26 := bchain (by with_reducible assumption) hb26
            have zq26 := blk_up zq25 hb26
            have zp26 := blk_up zp25 hb26
            dsimp only
            refine hK.out _ _ hS26 (fun hHeld => ?_)
            clear hK K
            try simp only [Act.put, List.setIfInBounds_toArray, List.set_cons_zero, List.set_cons_succ, List.getElem_toArray, List.getElem_cons_zero, List.getElem_cons_succ]
            refine wpAnyH_ready (rs := [6]) (by kernel_rfl) (by simp) ?_
            refine (AllReadyH.cons rfl (fun K hK => ?_) AllReadyH.nil)
            have hst27 := ST1 wv26 pb25 zp26
            go_simp
            have hS27 : Below w1.heap.size w1 (wv26.setCells pb25 0 (cellsOf64 (ds S))) := below_cells lep25 _ _ _ hS26
            have zq27 := blk_put (show pb20 ≠ pb25 by omega) (cellsOf64 (ds S)) 0 _ zq26
            have zp27 := zero_over (Y := S) zp26
            refine hK.out _ _ hS27 (fun hHeld => ?_)
            clear hK K hst27
            try simp only [Act.put, List.setIfInBounds_toArray, List.set_cons_zero, List.set_cons_succ, List.getElem_toArray, List.getElem_cons_zero, List.getElem_cons_succ]
            generalize wv26.setCells pb25 0 (cellsOf64 (ds S)) = wv27 at *
            refine wpAnyH_ready (rs := [7]) (by kernel_rfl) (by simp) ?_
            refine (AllReadyH.cons rfl (fun K hK => ?_) AllReadyH.nil)
            have hst28 := ST2 wv27 pb20 zq27
            go_simp
            have hS28 : Below w1.heap.size w1 (wv27.setCells pb20 0 (cellsOf64 (ds T))) := below_cells leq20 _ _ _ hS27
            have zp28 := blk_put (show pb25 ≠ pb20 by omega) (cellsOf64 (ds T)) 0 _ zp27
            have zq28 := zero_over (Y := T) zq27
            refine hK.out _ _ hS28 (fun hHeld => ?_)
            clear hK K hst28
            try simp only [Act.put, List.setIfInBounds_toArray, List.set_cons_zero, List.set_cons_succ, List.getElem_toArray, List.getElem_cons_zero, List.getElem_cons_succ]
            generalize wv27.setCells pb20 0 (cellsOf64 (ds T)) = wv28 at *
            refine wpAnyH_done (by kernel_rfl) ?_ _
            go_wp2_with fail
            go_meet
            exact ⟨_, _, rfl, rfl, zp28, zq28, hS28⟩
      · have hb29 := (Below.refl v0.heap.size v0).alloc (Nat.le_refl _) (.cells #[.int .u64 0, .int .u64 0, .int .u64 0, .int .u64 0, .int .u64 0, .int .u64 0, .int .u64 0, .int .u64 0, .int .u64 0, .int .u64 0, .int .u64 0, .int .u64 0] 44)
        have hS29 : Below w1.heap.size w1 (v0.alloc (.cells #[.int .u64 0, .int .u64 0, .int .u64 0, .int .u64 0, .int .u64 0, .int .u64 0, .int .u64 0, .int .u64 0, .int .u64 0, .int .u64 0, .int .u64 0, .int .u64 0] 44)) := bchain hS0 hb29
        have lep29 := hS0.size
        have zp29 : BlkW (v0.alloc (.cells #[.int .u64 0, .int .u64 0, .int .u64 0, .int .u64 0, .int .u64 0, .int .u64 0, .int .u64 0, .int .u64 0, .int .u64 0, .int .u64 0, .int .u64 0, .int .u64 0] 44)) (v0.heap.size) 44 (List.replicate 12 0) := z12_new v0 44
        go_simp
        refine hK.out _ _ hS29 (fun hHeld => ?_)
        clear hK K
        try simp only [Act.put, List.setIfInBounds_toArray, List.set_cons_zero, List.set_cons_succ, List.getElem_toArray, List.getElem_cons_zero, List.getElem_cons_succ]
        generalize hv29 : v0.alloc (.cells #[.int .u64 0, .int .u64 0, .int .u64 0, .int .u64 0, .int .u64 0, .int .u64 0, .int .u64 0, .int .u64 0, .int .u64 0, .int .u64 0, .int .u64 0, .int .u64 0] 44) = wv29 at *
        generalize hbl29 : v0.heap.size = pb29 at *
        clear hb29
        refine wpAnyH_ready (rs := [1, 5]) (by kernel_rfl) (by simp) ?_
        refine (AllReadyH.cons rfl (fun K hK => ?_) (AllReadyH.cons rfl (fun K hK => ?_) AllReadyH.nil))
        · go_simp
          go_at_call 31
          with_reducible refine (C1 _ (by with_reducible assumption)).mono ?_
          rintro e wv30 ⟨rfl, hb30⟩
          have hS30 : Below w1.heap.size w1 wv30 := bchain (by with_reducible assumption) hb30
          have zp30 := blk_up zp29 hb30
          dsimp only
          refine hK.out _ _ hS30 (fun hHeld => ?_)
          clear hK K
          try simp only [Act.put, List.setIfInBounds_toArray, List.set_cons_zero, List.set_cons_succ, List.getElem_toArray, List.getElem_cons_zero, List.getElem_cons_succ]
          refine wpAnyH_ready (rs := [3, 5]) (by kernel_rfl) (by simp) ?_
          refine (AllReadyH.cons rfl (fun K hK => ?_) (AllReadyH.cons rfl (fun K hK => ?_) AllReadyH.nil))
          · go_simp
            go_at_call 31
            with_reducible refine (C2 _ (by with_reducible assumption)).mono ?_
            rintro e wv31 ⟨rfl, hb31⟩
            have hS31 : Below w1.heap.size w1 wv31 := bchain (by with_reducible assumption) hb31
            have zp31 := blk_up zp30 hb31
            dsimp only
            refine hK.out _ _ hS31 (fun hHeld => ?_)
            clear hK K
            try simp only [Act.put, List.setIfInBounds_toArray, List.set_cons_zero, List.set_cons_succ, List.getElem_toArray, List.getElem_cons_zero, List.getElem_cons_succ]
            refine wpAnyH_ready (rs := [5]) (by kernel_rfl) (by simp) ?_
            refine (AllReadyH.cons rfl (fun K hK => ?_) AllReadyH.nil)
            have hb32 := (Below.refl wv31.heap.size wv31).alloc (Nat.le_refl _) (.cells #[.int .u64 0, .int .u64 0, .int .u64 0, .int .u64 0, .int .u64 0, .int .u64 0, .int .u64 0, .int .u64 0, .int .u64 0, .int .u64 0, .int .u64 0, .int .u64 0] 44)
            have hS32 : Below w1.heap.size w1 (wv31.alloc (.cells #[.int .u64 0, .int .u64 0, .int .u64 0, .int .u64 0, .int .u64 0, .int .u64 0, .int .u64 0, .int .u64 0, .int .u64 0, .int .u64 0, .int .u64 0, .int .u64 0] 44)) := bchain hS31 hb32
            have leq32 := hS31.size
            have ltp32 := (zp31).size
            have zp32 := blk_up zp31 hb32
            have zq32 : BlkW (wv31.alloc (.cells #[.int .u64 0, .int .u64 0, .int .u64 0, .int .u64 0, .int .u64 0, .int .u64 0, .int .u64 0, .int .u64 0, .int .u64 0, .int .u64 0, .int .u64 0, .int .u64 0] 44)) (wv31.heap.size) 44 (List.replicate 12 0) := z12_new wv31 44
            go_simp
            refine hK.out _ _ hS32 (fun hHeld => ?_)
            clear hK K
            try simp only [Act.put, List.setIfInBounds_toArray, List.set_cons_zero, List.set_cons_succ, List.getElem_toArray, List.getElem_cons_zero, List.getElem_cons_succ]
            generalize hv32 : wv31.alloc (.cells #[.int .u64 0, .int .u64 0, .int .u64 0, .int .u64 0, .int .u64 0, .int .u64 0, .int .u64 0, .int .u64 0, .int .u64 0, .int .u64 0, .int .u64 0, .int .u64 0] 44) = wv32 at *
            generalize hbl32 : wv31.heap.size = pb32 at *
            clear hb32
            refine wpAnyH_ready (rs := [6]) (by kernel_rfl) (by simp) ?_
            refine (AllReadyH.cons rfl (fun K hK => ?_) AllReadyH.nil)
            have hst33 := ST1 wv32 pb29 zp32
            go_simp
            have hS33 : Below w1.heap.size w1 (wv32.setCells pb29 0 (cellsOf64 (ds S))) := below_cells lep29 _ _ _ hS32
            have zq33 := blk_put (show pb32 ≠ pb29 by omega) (cellsOf64 (ds S)) 0 _ zq32
            have zp33 := zero_over (Y := S) zp32
            refine hK.out _ _ hS33 (fun hHeld => ?_)
            clear hK K hst33
            try simp only [Act.put, List.setIfInBounds_toArray, List.set_cons_zero, List.set_cons_succ, List.getElem_toArray, List.getElem_cons_zero, List.getElem_cons_succ]
            generalize wv32.setCells pb29 0 (cellsOf64 (ds S)) = wv33 at *
            refine wpAnyH_ready (rs := [7]) (by kernel_rfl) (by simp) ?_
            refine (AllReadyH.cons rfl (fun K hK => ?_) AllReadyH.nil)
            have hst34 := ST2 wv33 pb32 zq33
            go_simp
            have hS34 : Below w1.heap.size w1 (wv33.setCells pb32 0 (cellsOf64 (ds T))) := below_cells leq32 _ _ _ hS33
            have zp34 := blk_put (show pb29 ≠ pb32 by omega) (cellsOf64 (ds T)) 0 _ zp33
            have zq34 := zero_over (Y := T) zq33
            refine hK.out _ _ hS34 (fun hHeld => ?_)
            clear hK K hst34
            try simp only [Act.put, List.setIfInBounds_toArray, List.set_cons_zero, List.set_cons_succ, List.getElem_toArray, List.getElem_cons_zero, List.getElem_cons_succ]
            generalize wv33.setCells pb32 0 (cellsOf64 (ds T)) = wv34 at *
            refine wpAnyH_done (by kernel_rfl) ?_ _
            go_wp2_with fail
            go_meet
            exact ⟨_, _, rfl, rfl, zp34, zq34, hS34⟩
          · have hb35 := (Below.refl wv30.heap.size wv30).alloc (Nat.le_refl _) (.cells #[.int .u64 0, .int .u64 0, .int .u64 0, .int .u64 0, .int .u64 0, .int .u64 0, .int .u64 0, .int .u64 0, .int .u64 0, .int .u64 0, .int .u64 0, .int .u64 0] 44)
            have hS35 : Below w1.heap.size w1 (wv30.alloc (.cells #[.int .u64 0, .int .u64 0, .int .u64 0, .int .u64 0, .int .u64 0, .int .u64 0, .int .u64 0, .int .u64 0, .int .u64 0, .int .u64 0, .int .u64 0, .int .u64 0] 44)) := bchain hS30 hb35
            have leq35 := hS30.size
            have ltp35 := (zp30).size
            have zp35 := blk_up zp30 hb35
            have zq35 : BlkW (wv30.alloc (.cells #[.int .u64 0, .int .u64 0, .int .u64 0, .int .u64 0, .int .u64 0, .int .u64 0, .int .u64 0, .int .u64 0, .int .u64 0, .int .u64 0, .int .u64 0, .int .u64 0] 44)) (wv30.heap.size) 44 (List.replicate 12 0) := z12_new wv30 44
            go_simp
            refine hK.out _ _ hS35 (fun hHeld => ?_)
            clear hK K
            try simp only [Act.put, List.setIfInBounds_toArray, List.set_cons_zero, List.set_cons_succ, List.getElem_toArray, List.getElem_cons_zero, List.getElem_cons_succ]
            generalize hv35 : wv30.alloc (.cells #[.int .u64 0, .int .u64 0, .int .u64 0, .int .u64 0, .int .u64 0, .int .u64 0, .int .u64 0, .int .u64 0, .int .u64 0, .int .u64 0, .int .u64 0, .int .u64 0] 44) = wv35 at *
            generalize hbl35 : wv30.heap.size = pb35 at *
            clear hb35
            refine wpAnyH_ready (rs := [3]) (by kernel_rfl) (by simp) ?_
            refine (AllReadyH.cons rfl (fun K hK => ?_) AllReadyH.nil)
            go_simp
            go_at_call 31
            with_reducible refine (C2 _ (by with_reducible assumption)).mono ?_
            rintro e wv36 ⟨rfl, hb36⟩
            have hS36 : Below w1.heap.size w1 wv36 := bchain (by with_reducible assumption) hb36
            have zp36 := blk_up zp35 hb36
            have zq36 := blk_up zq35 hb36
            dsimp only
            refine hK.out _ _ hS36 (fun hHeld => ?_)
            clear hK K
            try simp only [Act.put, List.setIfInBounds_toArray, List.set_cons_zero, List.set_cons_succ, List.getElem_toArray, List.getElem_cons_zero, List.getElem_cons_succ]
            refine wpAnyH_ready (rs := [6]) (by kernel_rfl) (by simp) ?_
            refine (AllReadyH.cons rfl (fun K hK => ?_) AllReadyH.nil)
            have hst37 := ST1 wv36 pb29 zp36
            go_simp
            have hS37 : Below w1.heap.size w1 (wv36.setCells pb29 0 (cellsOf64 (ds S))) := below_cells lep29 _ _ _ hS36
            have zq37 := blk_put (show pb35 ≠ pb29 by omega) (cellsOf64 (ds S)) 0 _ zq36
            have zp37 := zero_over (Y := S) zp36
            refine hK.out _ _ hS37 (fun hHeld => ?_)
            clear hK K hst37
            try simp only [Act.put, List.setIfInBounds_toArray, List.set_cons_zero, List.set_cons_succ, List.getElem_toArray, List.getElem_cons_zero, List.getElem_cons_succ]
            generalize wv36.setCells pb29 0 (cellsOf64 (ds S)) = wv37 at *
            refine wpAnyH_ready (rs := [7]) (by kernel_rfl) (by simp) ?_
            refine (AllReadyH.cons rfl (fun K hK => ?_) AllReadyH.nil)
            have hst38 := ST2 wv37 pb35 zq37
            go_simp
            have hS38 : Below w1.heap.size w1 (wv37.setCells pb35 0 (cellsOf64 (ds T))) := below_cells leq35 _ _ _ hS37
            have zp38 := blk_put (show pb29 ≠ pb35 by omega) (cellsOf64 (ds T)) 0 _ zp37
            have zq38 := zero_over (Y := T) zq37
            refine hK.out _ _ hS38 (fun hHeld => ?_)
            clear hK K hst38
            try simp only [Act.put, List.setIfInBounds_toArray, List.set_cons_zero, List.set_cons_succ, List.getElem_toArray, List.getElem_cons_zero, List.getElem_cons_succ]
            generalize wv37.setCells pb35 0 (cellsOf64 (ds T)) = wv38 at *
            refine wpAnyH_done (by kernel_rfl) ?_ _
            go_wp2_with fail
            go_meet
            exact ⟨_, _, rfl, rfl, zp38, zq38, hS38⟩
        · have hb39 := (Below.refl wv29.heap.size wv29).alloc (Nat.le_refl _) (.cells #[.int .u64 0, .int .u64 0, .int .u64 0, .int .u64 0, .int .u64 0, .int .u64 0, .int .u64 0, .int .u64 0, .int .u64 0, .int .u64 0, .int .u64 0, .int .u64 0] 44)
          have hS39 : Below w1.heap.size w1 (wv29.alloc (.cells #[.int .u64 0, .int .u64 0, .int .u64 0, .int .u64 0, .int .u64 0, .int .u64 0, .int .u64 0, .int .u64 0, .int .u64 0, .int .u64 0, .int .u64 0, .int .u64 0] 44)) := bchain hS29 hb39
          have leq39 := hS29.size
          have ltp39 := (zp29).size
          have zp39 := blk_up zp29 hb39
          have zq39 : BlkW (wv29.alloc (.cells #[.int .u64 0, .int .u64 0, .int .u64 0, .int .u64 0, .int .u64 0, .int .u64 0, .int .u64 0, .int .u64 0, .int .u64 0, .int .u64 0, .int .u64 0, .int .u64 0] 44)) (wv29.heap.size) 44 (List.replicate 12 0) := z12_new wv29 44
          go_simp
          refine hK.out _ _ hS39 (fun hHeld => ?_)
          clear hK K
          try simp only [Act.put, List.setIfInBounds_toArray, List.set_cons_zero, List.set_cons_succ, List.getElem_toArray, List.getElem_cons_zero, List.getElem_cons_succ]
          generalize hv39 : wv29.alloc (.cells #[.int .u64 0, .int .u64 0, .int .u64 0, .int .u64 0, .int .u64 0, .int .u64 0, .int .u64 0, .int .u64 0, .int .u64 0, .int .u64 0, .int .u64 0, .int .u64 0] 44) = wv39 at *
          generalize hbl39 : wv29.heap.size = pb39 at *
          clear hb39
          refine wpAnyH_ready (rs := [1]) (by kernel_rfl) (by simp) ?_
          refine (AllReadyH.cons rfl (fun K hK => ?_) AllReadyH.nil)
          go_simp
          go_at_call 31
          with_reducible refine (C1 _ (by with_reducible assumption)).mono ?_
          rintro e wv40 ⟨rfl, hb40⟩
          have hS40 : Below w1.heap.size w1 wv40 := bchain (by with_reducible assumption) hb40
          have zp40 := blk_up zp39 hb40
          have zq40 := blk_up zq39 hb40
          dsimp only
          refine hK.out _ _ hS40 (fun hHeld => ?_)
          clear hK K
          try simp only [Act.put, List.setIfInBounds_toArray, List.set_cons_zero, List.set_cons_succ, List.getElem_toArray, List.getElem_cons_zero, List.getElem_cons_succ]
          refine wpAnyH_ready (rs := [3]) (by kernel_rfl) (by simp) ?_
          refine (AllReadyH.cons rfl (fun K hK => ?_) AllReadyH.nil)
          go_simp
          go_at_call 31
          with_reducible refine (C2 _ (by with_reducible assumption)).mono ?_
          rintro e wv41 ⟨rfl, hb41⟩
          have hS41 : Below w1.heap.size w1 wv41 := bchain (by with_reducible assumption) hb41
          have zp41 := blk_up zp40 hb41
          have zq41 := blk_up zq40 hb41
          dsimp only
          refine hK.out _ _ hS41 (fun hHeld => ?_)
          clear hK K
          try simp only [Act.put, List.setIfInBounds_toArray, List.set_cons_zero, List.set_cons_succ, List.getElem_toArray, List.getElem_cons_zero, List.getElem_cons_succ]
          refine wpAnyH_ready (rs := [6]) (by kernel_rfl) (by simp) ?_
          refine (AllReadyH.cons rfl (fun K hK => ?_) AllReadyH.nil)
          have hst42 := ST1 wv41 pb29 zp41
          go_simp
          have hS42 : Below w1.heap.size w1 (wv41.setCells pb29 0 (cellsOf64 (ds S))) := below_cells lep29 _ _ _ hS41
          have zq42 := blk_put (show pb39 ≠ pb29 by omega) (cellsOf64 (ds S)) 0 _ zq41
          have zp42 := zero_over (Y := S) zp41
          refine hK.out _ _ hS42 (fun hHeld => ?_)
          clear hK K hst42
          try simp only [Act.put, List.setIfInBounds_toArray, List.set_cons_zero, List.set_cons_succ, List.getElem_toArray, List.getElem_cons_zero, List.getElem_cons_succ]
          generalize wv41.setCells pb29 0 (cellsOf64 (ds S)) = wv42 at *
          refine wpAnyH_ready (rs := [7]) (by kernel_rfl) (by simp) ?_
          refine (AllReadyH.cons rfl (fun K hK => ?_) AllReadyH.nil)
          have hst43 := ST2 wv42 pb39 zq42
          go_simp
          have hS43 : Below w1.heap.size w1 (wv42.setCells pb39 0 (cellsOf64 (ds T))) := below_cells leq39 _ _ _ hS42
          have zp43 := blk_put (show pb29 ≠ pb39 by omega) (cellsOf64 (ds T)) 0 _ zp42
          have zq43 := zero_over (Y := T) zq42
          refine hK.out _ _ hS43 (fun hHeld => ?_)
          clear hK K hst43
          try simp only [Act.put, List.setIfInBounds_toArray, List.set_cons_zero, List.set_cons_succ, List.getElem_toArray, List.getElem_cons_zero, List.getElem_cons_succ]
          generalize wv42.setCells pb39 0 (cellsOf64 (ds T)) = wv43 at *
          refine wpAnyH_done (by kernel_rfl) ?_ _
          go_wp2_with fail
          go_meet
          exact ⟨_, _, rfl, rfl, zp43, zq43, hS43⟩
      · have hb44 := (Below.refl v0.heap.size v0).alloc (Nat.le_refl _) (.cells #[.int .u64 0, .int .u64 0, .int .u64 0, .int .u64 0, .int .u64 0, .int .u64 0, .int .u64 0, .int .u64 0, .int .u64 0, .int .u64 0, .int .u64 0, .int .u64 0] 44)
        have hS44 : Below w1.heap.size w1 (v0.alloc (.cells #[.int .u64 0, .int .u64 0, .int .u64 0, .int .u64 0, .int .u64 0, .int .u64 0, .int .u64 0, .int .u64 0, .int .u64 0, .int .u64 0, .int .u64 0, .int .u64 0] 44)) := bchain hS0 hb44
        have leq44 := hS0.size
        have zq44 : BlkW (v0.alloc (.cells #[.int .u64 0, .int .u64 0, .int .u64 0, .int .u64 0, .int .u64 0, .int .u64 0, .int .u64 0, .int .u64 0, .int .u64 0, .int .u64 0, .int .u64 0, .int .u64 0] 44)) (v0.heap.size) 44 (List.replicate 12 0) := z12_new v0 44
        go_simp
        refine hK.out _ _ hS44 (fun hHeld => ?_)
        clear hK K
        try simp only [Act.put, List.setIfInBounds_toArray, List.set_cons_zero, List.set_cons_succ, List.getElem_toArray, List.getElem_cons_zero, List.getElem_cons_succ]
        generalize hv44 : v0.alloc (.cells #[.int .u64 0, .int .u64 0, .int .u64 0, .int .u64 0, .int .u64 0, .int .u64 0, .int .u64 0, .int .u64 0, .int .u64 0, .int .u64 0, .int .u64 0, .int .u64 0] 44) = wv44 at *
        generalize hbl44 : v0.heap.size = pb44 at *
        clear hb44
        refine wpAnyH_ready (rs := [1, 4]) (by kernel_rfl) (by simp) ?_
        refine (AllReadyH.cons rfl (fun K hK => ?_) (AllReadyH.cons rfl (fun K hK => ?_) AllReadyH.nil))
        · go_simp
          go_at_call 31
          with_reducible refine (C1 _ (by with_reducible assumption)).mono ?_
          rintro e wv45 ⟨rfl, hb45⟩
          have hS45 : Below w1.heap.size w1 wv45 := bchain (by with_reducible assumption) hb45
          have zq45 := blk_up zq44 hb45
          dsimp only
          refine hK.out _ _ hS45 (fun hHeld => ?_)
          clear hK K
          try simp only [Act.put, List.setIfInBounds_toArray, List.set_cons_zero, List.set_cons_succ, List.getElem_toArray, List.getElem_cons_zero, List.getElem_cons_succ]
          refine wpAnyH_ready (rs := [3, 4]) (by kernel_rfl) (by simp) ?_
          refine (AllReadyH.cons rfl (fun K hK => ?_) (AllReadyH.cons rfl (fun K hK => ?_) AllReadyH.nil))
          · go_simp
            go_at_call 31
            with_reducible refine (C2 _ (by with_reducible assumption)).mono ?_
            rintro e wv46 ⟨rfl, hb46⟩
            have hS46 : Below w1.heap.size w1 wv46 := bchain (by with_reducible assumption) hb46
            have zq46 := blk_up zq45 hb46
            dsimp only
            refine hK.out _ _ hS46 (fun hHeld => ?_)
            clear hK K
            try simp only [Act.put, List.setIfInBounds_toArray, List.set_cons_zero, List.set_cons_succ, List.getElem_toArray, List.getElem_cons_zero, List.getElem_cons_succ]
            refine wpAnyH_ready (rs := [4]) (by kernel_rfl) (by simp) ?_
            refine (AllReadyH.cons rfl (fun K hK => ?_) AllReadyH.nil)
            have hb47 := (Below.refl wv46.heap.size wv46).alloc (Nat.le_refl _) (.cells #[.int .u64 0, .int .u64 0, .int .u64 0, .int .u64 0, .int .u64 0, .int .u64 0, .int .u64 0, .int .u64 0, .int .u64 0, .int .u64 0, .int .u64 0, .int .u64 0] 44)
            have hS47 : Below w1.heap.size w1 (wv46.alloc (.cells #[.int .u64 0, .int .u64 0, .int .u64 0, .int .u64 0, .int .u64 0, .int .u64 0, .int .u64 0, .int .u64 0, .int .u64 0, .int .u64 0, .int .u64 0, .int .u64 0] 44)) := bchain hS46 hb47
            have lep47 := hS46.size
            have ltq47 := (zq46).size
            have zq47 := blk_up zq46 hb47
            have zp47 : BlkW (wv46.alloc (.cells #[.int .u64 0, .int .u64 0, .int .u64 0, .int .u64 0, .int .u64 0, .int .u64 0, .int .u64 0, .int .u64 0, .int .u64 0, .int .u64 0, .int .u64 0, .int .u64 0] 44)) (wv46.heap.size) 44 (List.replicate 12 0) := z12_new wv46 44
            go_simp
            refine hK.out _ _ hS47 (fun hHeld => ?_)
            clear hK K
            try simp only [Act.put, List.setIfInBounds_toArray, List.set_cons_zero, List.set_cons_succ, List.getElem_toArray, List.getElem_cons_zero, List.getElem_cons_succ]
            generalize hv47 : wv46.alloc (.cells #[.int .u64 0, .int .u64 0, .int .u64 0, .int .u64 0, .int .u64 0, .int .u64 0, .int .u64 0, .int .u64 0, .int .u64 0, .int .u64 0, .int .u64 0, .int .u64 0] 44) = wv47 at *
            generalize hbl47 : wv46.heap.size = pb47 at *
            clear hb47
            refine wpAnyH_ready (rs := [6]) (by kernel_rfl) (by simp) ?_
            refine (AllReadyH.cons rfl (fun K hK => ?_) AllReadyH.nil)
            have hst48 := ST1 wv47 pb47 zp47
            go_simp
            have hS48 : Below w1.heap.size w1 (wv47.setCells pb47 0 (cellsOf64 (ds S))) := below_cells lep47 _ _ _ hS47
            have zq48 := blk_put (show pb44 ≠ pb47 by omega) (cellsOf64 (ds S)) 0 _ zq47
            have zp48 := zero_over (Y := S) zp47
            refine hK.out _ _ hS48 (fun hHeld => ?_)
            clear hK K hst48
            try simp only [Act.put, List.setIfInBounds_toArray, List.set_cons_zero, List.set_cons_succ, List.getElem_toArray, List.getElem_cons_zero, List.getElem_cons_succ]
            generalize wv47.setCells pb47 0 (cellsOf64 (ds S)) = wv48 at *
            refine wpAnyH_ready (rs := [7]) (by kernel_rfl) (by simp) ?_
            refine (AllReadyH.cons rfl (fun K hK => ?_) AllReadyH.nil)
            have hst49 := ST2 wv48 pb44 zq48
            go_simp
            have hS49 : Below w1.heap.size w1 (wv48.setCells pb44 0 (cellsOf64 (ds T))) := below_cells leq44 _ _ _ hS48
            have zp49 := blk_put (show pb47 ≠ pb44 by omega) (cellsOf64 (ds T)) 0 _ zp48
            have zq49 := zero_over (Y := T) zq48
            refine hK.out _ _ hS49 (fun hHeld => ?_)
            clear hK K hst49
            try simp only [Act.put, List.setIfInBounds_toArray, List.set_cons_zero, List.set_cons_succ, List.getElem_toArray, List.getElem_cons_zero, List.getElem_cons_succ]
            generalize wv48.setCells pb44 0 (cellsOf64 (ds T)) = wv49 at *
            refine wpAnyH_done (by kernel_rfl) ?_ _
            go_wp2_with fail
            go_meet
            exact ⟨_, _, rfl, rfl, zp49, zq49, hS49⟩
          · have hb50 := (Below.refl wv45.heap.size wv45).alloc (Nat.le_refl _) (.cells #[.int .u64 0, .int .u64 0, .int .u64 0, .int .u64 0, .int .u64 0, .int .u64 0, .int .u64 0, .int .u64 0, .int .u64 0, .int .u64 0, .int .u64 0, .int .u64 0] 44)
            have hS50 : Below w1.heap.size w1 (wv45.alloc (.cells #[.int .u64 0, .int .u64 0, .int .u64 0, .int .u64 0, .int .u64 0, .int .u64 0, .int .u64 0, .int .u64 0, .int .u64 0, .int .u64 0, .int .u64 0, .int .u64 0] 44)) := bchain hS45 hb50
            have lep50 := hS45.size
            have ltq50 := (zq45).size
            have zq50 := blk_up zq45 hb50
            have zp50 : BlkW (wv45.alloc (.cells #[.int .u64 0, .int .u64 0, .int .u64 0, .int .u64 0, .int .u64 0, .int .u64 0, .int .u64 0, .int .u64 0, .int .u64 0, .int .u64 0, .int .u64 0, .int .u64 0] 44)) (wv45.heap.size) 44 (List.replicate 12 0) := z12_new wv45 44
            go_simp
            refine hK.out _ _ hS50 (fun hHeld => ?_)
            clear hK K
            try simp only [Act.put, List.setIfInBounds_toArray, List.set_cons_zero, List.set_cons_succ, List.getElem_toArray, List.getElem_cons_zero, List.getElem_cons_succ]
            generalize hv50 : wv45.alloc (.cells #[.int .u64 0, .int .u64 0, .int .u64 0, .int .u64 0, .int .u64 0, .int .u64 0, .int .u64 0, .int .u64 0, .int .u64 0, .int .u64 0, .int .u64 0, .int .u64 0] 44) = wv50 at *
            generalize hbl50 : wv45.heap.size = pb50 at *
            clear hb50
            refine wpAnyH_ready (rs := [3]) (by kernel_rfl) (by simp) ?_
            refine (AllReadyH.cons rfl (fun K hK => ?_) AllReadyH.nil)
            go_simp
            go_at_call 31
            with_reducible refine (C2 _ (by with_reducible assumption)).mono ?_
            rintro e wv51 ⟨rfl, hb51⟩
            have hS51 : Below w1.heap.size w1 wv51 := bchain (by with_reducible assumption) hb51
            have zq51 := blk_up zq50 hb51
            have zp51 := blk_up zp50 hb51
            dsimp only
            refine hK.out _ _ hS51 (fun hHeld => ?_)
            clear hK K
            try simp only [Act.put, List.setIfInBounds_toArray, List.set_cons_zero, List.set_cons_succ, List.getElem_toArray, List.getElem_cons_zero, List.getElem_cons_succ]
            refine wpAnyH_ready (rs := [6]) (by kernel_rfl) (by simp) ?_
            refine (AllReadyH.cons rfl (fun K hK => ?_) AllReadyH.nil)
            have hst52 := ST1 wv51 pb50 zp51
            go_simp
            have hS52 : Below w1.heap.size w1 (wv51.setCells pb50 0 (cellsOf64 (ds S))) := below_cells lep50 _ _ _ hS51
            have zq52 := blk_put (show pb44 ≠ pb50 by omega) (cellsOf64 (ds S)) 0 _ zq51
            have zp52 := zero_over (Y := S) zp51
            refine hK.out _ _ hS52 (fun hHeld => ?_)
            clear hK K hst52
            try simp only [Act.put, List.setIfInBounds_toArray, List.set_cons_zero, List.set_cons_succ, List.getElem_toArray, List.getElem_cons_zero, List.getElem_cons_succ]
            generalize wv51.setCells pb50 0 (cellsOf64 (ds S)) = wv52 at *
            refine wpAnyH_ready (rs := [7]) (by kernel_rfl) (by simp) ?_
            refine (AllReadyH.cons rfl (fun K hK => ?_) AllReadyH.nil)
            have hst53 := ST2 wv52 pb44 zq52
            go_simp
            have hS53 : Below w1.heap.size w1 (wv52.setCells pb44 0 (cellsOf64 (ds T))) := below_cells leq44 _ _ _ hS52
            have zp53 := blk_put (show pb50 ≠ pb44 by omega) (cellsOf64 (ds T)) 0 _ zp52
            have zq53 := zero_over (Y := T) zq52
            refine hK.out _ _ hS53 (fun hHeld => ?_)
            clear hK K hst53
            try simp only [Act.put, List.setIfInBounds_toArray, List.set_cons_zero, List.set_cons_succ, List.getElem_toArray, List.getElem_cons_zero, List.getElem_cons_succ]
            generalize wv52.setCells pb44 0 (cellsOf64 (ds T)) = wv53 at *
            refine wpAnyH_done (by kernel_rfl) ?_ _
            go_wp2_with fail
            go_meet
            exact ⟨_, _, rfl, rfl, zp53, zq53, hS53⟩
        · have hb54 := (Below.refl wv44.heap.size wv44).alloc (Nat.le_refl _) (.cells #[.int .u64 0, .int .u64 0, .int .u64 0, .int .u64 0, .int .u64 0, .int .u64 0, .int .u64 0, .int .u64 0, .int .u64 0, .int .u64 0, .int .u64 0, .int .u64 0] 44)
          have hS54 : Below w1.heap.size w1 (wv44.alloc (.cells #[.int .u64 0, .int .u64 0, .int .u64 0, .int .u64 0, .int .u64 0, .int .u64 0, .int .u64 0, .int .u64 0, .int .u64 0, .int .u64 0, .int .u64 0, .int .u64 0] 44)) := bchain hS44 hb54
          have lep54 := hS44.size
          have ltq54 := (zq44).size
          have zq54 := blk_up zq44 hb54
          have zp54 : BlkW (wv44.alloc (.cells #[.int .u64 0, .int .u64 0, .int .u64 0, .int .u64 0, .int .u64 0, .int .u64 0, .int .u64 0, .int .u64 0, .int .u64 0, .int .u64 0, .int .u64 0, .int .u64 0] 44)) (wv44.heap.size) 44 (List.replicate 12 0) := z12_new wv44 44
          go_simp
          refine hK.out _ _ hS54 (fun hHeld => ?_)
          clear hK K
          try simp only [Act.put, List.setIfInBounds_toArray, List.set_cons_zero, List.set_cons_succ, List.getElem_toArray, List.getElem_cons_zero, List.getElem_cons_succ]
          generalize hv54 : wv44.alloc (.cells #[.int .u64 0, .int .u64 0, .int .u64 0, .int .u64 0, .int .u64 0, .int .u64 0, .int .u64 0, .int .u64 0, .int .u64 0, .int .u64 0, .int .u64 0, .int .u64 0] 44) = wv54 at *
          generalize hbl54 : wv44.heap.size = pb54 at *
          clear hb54
          refine wpAnyH_ready (rs := [1]) (by kernel_rfl) (by simp) ?_
          refine (AllReadyH.cons rfl (fun K hK => ?_) AllReadyH.nil)
          go_simp
          go_at_call 31
          with_reducible refine (C1 _ (by with_reducible assumption)).mono ?_
          rintro e wv55 ⟨rfl, hb55⟩
          have hS55 : Below w1.heap.size w1 wv55 := bchain (by with_reducible assumption) hb55
          have zq55 := blk_up zq54 hb55
          have zp55 := blk_up zp54 hb55
          dsimp only
          refine hK.out _ _ hS55 (fun hHeld => ?_)
          clear hK K
          try simp only [Act.put, List.setIfInBounds_toArray, List.set_cons_zero, List.set_cons_succ, List.getElem_toArray, List.getElem_cons_zero, List.getElem_cons_succ]
          refine wpAnyH_ready (rs := [3]) (by kernel_rfl) (by simp) ?_
          refine (AllReadyH.cons rfl (fun K hK => ?_) AllReadyH.nil)
          go_simp
          go_at_call 31
          with_reducible refine (C2 _ (by with_reducible assumption)).mono ?_
          rintro e wv56 ⟨rfl, hb56⟩
          have hS56 : Below w1.heap.size w1 wv56 := bchain (by with_reducible assumption) hb56
          have zq56 := blk_up zq55 hb56
          have zp56 := blk_up zp55 hb56
          dsimp only
          refine hK.out _ _ hS56 (fun hHeld => ?_)
          clear hK K
          try simp only [Act.put, List.setIfInBounds_toArray, List.set_cons_zero, List.set_cons_succ, List.getElem_toArray, List.getElem_cons_zero, List.getElem_cons_succ]
          refine wpAnyH_ready (rs := [6]) (by kernel_rfl) (by simp) ?_
          refine (AllReadyH.cons rfl (fun K hK => ?_) AllReadyH.nil)
          have hst57 := ST1 wv56 pb54 zp56
          go_simp
          have hS57 : Below w1.heap.size w1 (wv56.setCells pb54 0 (cellsOf64 (ds S))) := below_cells lep54 _ _ _ hS56
          have zq57 := blk_put (show pb44 ≠ pb54 by omega) (cellsOf64 (ds S)) 0 _ zq56
          have zp57 := zero_over (Y := S) zp56
          refine hK.out _ _ hS57 (fun hHeld => ?_)
          clear hK K hst57
          try simp only [Act.put, List.setIfInBounds_toArray, List.set_cons_zero, List.set_cons_succ, List.getElem_toArray, List.getElem_cons_zero, List.getElem_cons_succ]
          generalize wv56.setCells pb54 0 (cellsOf64 (ds S)) = wv57 at *
          refine wpAnyH_ready (rs := [7]) (by kernel_rfl) (by simp) ?_
          refine (AllReadyH.cons rfl (fun K hK => ?_) AllReadyH.nil)
          have hst58 := ST2 wv57 pb44 zq57
          go_simp
          have hS58 : Below w1.heap.size w1 (wv57.setCells pb44 0 (cellsOf64 (ds T))) := below_cells leq44 _ _ _ hS57
          have zp58 := blk_put (show pb54 ≠ pb44 by omega) (cellsOf64 (ds T)) 0 _ zp57
          have zq58 := zero_over (Y := T) zq57
          refine hK.out _ _ hS58 (fun hHeld => ?_)
          clear hK K hst58
          try simp only [Act.put, List.setIfInBounds_toArray, List.set_cons_zero, List.set_cons_succ, List.getElem_toArray, List.getElem_cons_zero, List.getElem_cons_succ]
          generalize wv57.setCells pb44 0 (cellsOf64 (ds T)) = wv58 at *
          refine wpAnyH_done (by kernel_rfl) ?_ _
          go_wp2_with fail
          go_meet
          exact ⟨_, _, rfl, rfl, zp58, zq58, hS58⟩
    case rest =>
      obtain ⟨p, q, rfl, rfl, hp, hq, hw⟩ := hcut
      obtain ⟨v0, hv0⟩ : ∃ v, v = wc := ⟨_, rfl⟩
      rw [← hv0] at hp hq hw ⊢
      clear hv0 hS0
      have HP := hid hp
      have HQ := hid hq
      have HX0 := hid (DX.out.up hw)
      have HY0 := hid (DY.out.up hw)
      have HG0 := hid (EE.out.g.up hw)
      have HB0 := hid (bchain EE.out.b hw)
      have QS : Hid (S < bigQ) := hid (by rw [HS.out]; exact Nat.mod_lt _ (by decide))
      have QT : Hid (T < bigQ) := hid (by rw [HT.out]; exact Nat.mod_lt _ (by decide))
      have LS : Hid (S < W12) := hid (Nat.lt_trans QS.out bigQ_lt)
      have LT : Hid (T < W12) := hid (Nat.lt_trans QT.out bigQ_lt)
      have I1 := hid (sizeSc.trans (congrArg some (dsc_len S).symm))
      have I2 := hid (sizeSc.trans (congrArg some (dsc_len T).symm))
      have B0 := hid (Below.refl v0.heap.size v0)
      clear hp hq hw DX DY EE HS HT HX HY
      have O1 := hid (blk_up HP.out B0.out).range
      have O2 := hid (blk_up HQ.out B0.out).range
      go_wp2_with (first
        | refine wpList_load_g (by rfl) 44 (.tmp 9) rfl p 0 rfl (cellsOf64 (ds S)) _ (by with_reducible exact O1.out) Tryd.underlying44 rfl I1.out ?_
        | refine wpList_load_g (by rfl) 44 (.tmp 10) rfl q 0 rfl (cellsOf64 (ds T)) _ (by with_reducible exact O2.out) Tryd.underlying44 rfl I2.out ?_)
      clear O1 O2
      refine ((by have h := isSc_c u7 S S v0 LS (HX0.out.up B0.out) LS.out; rw [decide_eq_true rfl] at h; exact h : Calls Tryd.prog 22 #[num S, u7] v0 fun e w' => e = .returned (.bool true) ∧ Below (v0).heap.size v0 w')).mono ?_
      rintro e v1 ⟨rfl, b1⟩
      have B1 := hid (bchain B0.out b1)
      clear b1
      obtain ⟨a1, ha1⟩ : ∃ a1, a1 = (S + T) % bigQ := ⟨_, rfl⟩
      have H1 := hid ha1
      have L1 : Hid (a1 < W12) := hid (by rw [ha1]; exact Nat.lt_trans (Nat.mod_lt _ (by decide)) bigQ_lt)
      clear ha1
      have O1 := hid (blk_up HP.out B1.out).range
      have O2 := hid (blk_up HQ.out B1.out).range
      go_wp2_with (first
        | refine wpList_load_g (by rfl) 44 (.tmp 9) rfl p 0 rfl (cellsOf64 (ds S)) _ (by with_reducible exact O1.out) Tryd.underlying44 rfl I1.out ?_
        | refine wpList_load_g (by rfl) 44 (.tmp 10) rfl q 0 rfl (cellsOf64 (ds T)) _ (by with_reducible exact O2.out) Tryd.underlying44 rfl I2.out ?_)
      clear O1 O2
      refine ((by have h := scAdd_c S T v1 LS.out LT.out (HG0.out.up B1.out); rw [← H1.out] at h; exact h : Calls Tryd.prog 35 #[num S, num T] v1 fun e w' => e = .returned (num a1) ∧ Below (v1).heap.size v1 w')).mono ?_
      rintro e v2 ⟨rfl, b2⟩
      have B2 := hid (bchain B1.out b2)
      clear b2
      go_wp2_with fail
      refine (gAdd_c u7 u8 S T v2 (HX0.out.up B2.out) (HY0.out.up B2.out) (big_of (by have := LS.out; have := LT.out; omega))).mono ?_
      rintro e v3 ⟨r1, rfl, hr, b3⟩
      have B3 := hid (bchain B2.out b3)
      have D1 := hid hr
      clear hr
      clear b3
      go_wp2_with fail
      refine (modQ_c r1 (S + T) v3 D1.out).mono ?_
      rintro e v4 ⟨r2, rfl, hr, b4⟩
      have B4 := hid (bchain B3.out b4)
      rw [← H1.out] at hr
      have D2 := hid hr
      clear hr D1
      clear b4
      go_wp2_with fail
      refine ((by have h := isSc_c r2 a1 a1 v4 L1 D2.out L1.out; rw [decide_eq_true rfl] at h; exact h : Calls Tryd.prog 22 #[num a1, r2] v4 fun e w' => e = .returned (.bool true) ∧ Below (v4).heap.size v4 w')).mono ?_
      rintro e v5 ⟨rfl, b5⟩
      have B5 := hid (bchain B4.out b5)
      clear D2
      clear b5
      obtain ⟨a3, ha3⟩ : ∃ a3, a3 = (S % bigQ + bigQ - T % bigQ) % bigQ := ⟨_, rfl⟩
      have H3 := hid ha3
      have L3 : Hid (a3 < W12) := hid (by rw [ha3]; exact Nat.lt_trans (Nat.mod_lt _ (by decide)) bigQ_lt)
      have H3' : Hid ((S + bigQ - T) % bigQ = a3) := hid (by rw [ha3, Nat.mod_eq_of_lt QS.out, Nat.mod_eq_of_lt QT.out])
      clear ha3
      have O1 := hid (blk_up HP.out B5.out).range
      have O2 := hid (blk_up HQ.out B5.out).range
      go_wp2_with (first
        | refine wpList_load_g (by rfl) 44 (.tmp 9) rfl p 0 rfl (cellsOf64 (ds S)) _ (by with_reducible exact O1.out) Tryd.underlying44 rfl I1.out ?_
        | refine wpList_load_g (by rfl) 44 (.tmp 10) rfl q 0 rfl (cellsOf64 (ds T)) _ (by with_reducible exact O2.out) Tryd.underlying44 rfl I2.out ?_)
      clear O1 O2
      refine ((by have h := scSub_c S T v5 LS.out LT.out (HG0.out.up B5.out); rw [← H3.out] at h; exact h : Calls Tryd.prog 37 #[num S, num T] v5 fun e w' => e = .returned (num a3) ∧ Below (v5).heap.size v5 w')).mono ?_
      rintro e v6 ⟨rfl, b6⟩
      have B6 := hid (bchain B5.out b6)
      clear b6
      go_wp2_with fail
      refine (refQ_c v6).mono ?_
      rintro e v7 ⟨qv, rfl, hr, b7⟩
      have B7 := hid (bchain B6.out b7)
      have DQ := hid hr
      clear hr
      clear b7
      go_wp2_with fail
      refine (gAdd_c u7 qv S bigQ v7 (HX0.out.up B7.out) DQ.out (big_of (by have h1 := LS.out; have h2 := bigQ_lt; omega))).mono ?_
      rintro e v8 ⟨r3, rfl, hr, b8⟩
      have B8 := hid (bchain B7.out b8)
      have D3 := hid hr
      clear hr DQ
      clear b8
      go_wp2_with fail
      refine (gSub_c r3 u8 (S + bigQ) T v8 D3.out (HY0.out.up B8.out) (by have := QT.out; omega)).mono ?_
      rintro e v9 ⟨r4, rfl, hr, b9⟩
      have B9 := hid (bchain B8.out b9)
      have D4 := hid hr
      clear hr D3
      clear b9
      go_wp2_with fail
      refine (modQ_c r4 (S + bigQ - T) v9 D4.out).mono ?_
      rintro e v10 ⟨r5, rfl, hr, b10⟩
      have B10 := hid (bchain B9.out b10)
      rw [H3'.out] at hr
      have D5 := hid hr
      clear hr D4
      clear b10
      go_wp2_with fail
      refine ((by have h := isSc_c r5 a3 a3 v10 L3 D5.out L3.out; rw [decide_eq_true rfl] at h; exact h : Calls Tryd.prog 22 #[num a3, r5] v10 fun e w' => e = .returned (.bool true) ∧ Below (v10).heap.size v10 w')).mono ?_
      rintro e v11 ⟨rfl, b11⟩
      have B11 := hid (bchain B10.out b11)
      clear D5
      clear b11
      obtain ⟨a2, ha2⟩ : ∃ a2, a2 = S * T % bigQ := ⟨_, rfl⟩
      have H2 := hid ha2
      have L2 : Hid (a2 < W12) := hid (by rw [ha2]; exact Nat.lt_trans (Nat.mod_lt _ (by decide)) bigQ_lt)
      clear ha2
      have O1 := hid (blk_up HP.out B11.out).range
      have O2 := hid (blk_up HQ.out B11.out).range
      go_wp2_with (first
        | refine wpList_load_g (by rfl) 44 (.tmp 9) rfl p 0 rfl (cellsOf64 (ds S)) _ (by with_reducible exact O1.out) Tryd.underlying44 rfl I1.out ?_
        | refine wpList_load_g (by rfl) 44 (.tmp 10) rfl q 0 rfl (cellsOf64 (ds T)) _ (by with_reducible exact O2.out) Tryd.underlying44 rfl I2.out ?_)
      clear O1 O2
      refine ((by have h := scMul_c S T v11 LS.out LT.out (HG0.out.up B11.out); rw [← H2.out] at h; exact h : Calls Tryd.prog 40 #[num S, num T] v11 fun e w' => e = .returned (num a2) ∧ Below (v11).heap.size v11 w')).mono ?_
      rintro e v12 ⟨rfl, b12⟩
      have B12 := hid (bchain B11.out b12)
      clear b12
      go_wp2_with fail
      refine (times_c false u7 u8 S T v12 (HX0.out.up B12.out) (HY0.out.up B12.out) (by rw [T24_eq]; exact LT.out)).mono ?_
      rintro e v13 ⟨r6, rfl, hr, b13⟩
      have B13 := hid (bchain B12.out b13)
      have hr : Dg v13 r6 a2 := by rw [H2.out]; exact hr
      have D6 := hid hr
      clear hr
      clear b13
      go_wp2_with fail
      refine ((by have h := isSc_c r6 a2 a2 v13 L2 D6.out L2.out; rw [decide_eq_true rfl] at h; exact h : Calls Tryd.prog 22 #[num a2, r6] v13 fun e w' => e = .returned (.bool true) ∧ Below (v13).heap.size v13 w')).mono ?_
      rintro e v14 ⟨rfl, b14⟩
      have B14 := hid (bchain B13.out b14)
      clear D6
      clear b14
      obtain ⟨x, hx⟩ : ∃ x, x = val 256 cb % pn := ⟨_, rfl⟩
      have HXX := hid hx
      have XQ : Hid (x < bigQ) := hid (by rw [hx]; exact Nat.lt_trans (Nat.mod_lt _ HF.out.nz) HF.out.pos)
      have LX : Hid (x < W12) := hid (Nat.lt_trans XQ.out bigQ_lt)
      clear hx
      go_wp2_with fail
      refine (HF.out.wide v14 (hba ▸ bchain (hba ▸ HB0.out) B14.out)).mono ?_
      rintro e v15 ⟨a0, b0, c0, d0, rfl, b15, hfb⟩
      have B15 := hid (bchain B14.out b15)
      have FB := hid hfb
      clear hfb
      clear b15
      go_wp2_with fail
      refine (ofField_gen a0 b0 c0 d0 x v15 XQ (HG0.out.up B15.out) (hid (fun v' h => by rw [HXX.out]; exact FB.out v' h))).mono ?_
      rintro e v16 ⟨rfl, b16⟩
      have B16 := hid (bchain B15.out b16)
      clear FB
      clear b16
      go_wp2_with fail
      refine (ofBytes_c A n c cb v16 (HA.out.up (hba ▸ bchain (hba ▸ HB0.out) B16.out) (by omega)) (by have := HN.out; omega)).mono ?_
      rintro e v17 hd0
      obtain ⟨r7, rfl, hr, b17⟩ := Dg.of hd0 (by
          have h1 := val_lt 256 (by decide) cb HA.out.lt
          rw [HA.out.len] at h1
          refine Nat.lt_of_lt_of_le h1 ?_
          rw [show (4294967296 : Nat) = 256 ^ 4 by decide, ← Nat.pow_mul]
          exact Nat.pow_le_pow_right (by decide) (by have := HN.out; unfold bigE; omega))
      have B17 := hid (bchain B16.out b17)
      have D7 := hid hr
      clear hr hd0 b17
      go_wp2_with fail
      refine (HF.out.rest v17 r7 D7.out).mono ?_
      rintro e v18 ⟨r8, rfl, hr, b18⟩
      have B18 := hid (bchain B17.out b18)
      rw [← HXX.out] at hr
      have D8 := hid hr
      clear hr D7
      clear b18
      go_wp2_with fail
      refine ((by have h := isSc_c r8 x x v18 LX D8.out LX.out; rw [decide_eq_true rfl] at h; exact h : Calls Tryd.prog 22 #[num x, r8] v18 fun e w' => e = .returned (.bool true) ∧ Below (v18).heap.size v18 w')).mono ?_
      rintro e v19 ⟨rfl, b19⟩
      have B19 := hid (bchain B18.out b19)
      clear D8
      clear b19
      have R := hid (bchain HB0.out B19.out)
      clear HP HQ HX0 HY0 HG0 HB0 QS QT LS LT I1 I2 HF HA HN H1 H2 H3 H3' L1 L2 L3 LX XQ HXX
      go_wp2
      go_ret
      exact ⟨rfl, hba ▸ R.out⟩
end Go.Proofs.YtfonpmahcdmajaaDoor
