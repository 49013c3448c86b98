import Derived.Test.YtfonpmahcdmajaaDoorGrpF
/-
  avouchlaw05.speaks: the document's example holds.
-/
namespace Go.Proofs.YtfonpmahcdmajaaDoor
open Go.RowKit
set_option linter.unusedVariables false

/-- A new slice of one digit. -/
theorem digit_dg (w : World) (n : Nat) (h0 : 0 < n) (h : n < 4294967296) : Dg (w.alloc (.cells #[.int .u64 (n : Int)] 22)) (.slice (some ⟨w.heap.size, 0, none⟩) 1 1) n := by
  have hB := BlkW.new64 w 22 [n] (by intro x hx; simp at hx; omega)
  refine Dg.ofRd (l := [n]) (hB.rd0 hB.size rfl) (Nat.le_refl _) (by decide) (by intro x hx; simp at hx; omega) (Or.inr (by simp; omega)) (by simp [val, pv])
theorem eE_of {bs : List Nat} {X : Nat} (hl : bs.length = 96) (hv : val 256 bs = X) (hX : X < bigP) : eE bs = if X ^ bigQ % bigP = 1 then 0 else 4 := by
  have h1 : rdE true bs = 0 := by unfold rdE; rw [if_pos hl, hv, if_pos (show X < mOf true from hX)]
  have h2 : rdN true bs = X := by unfold rdN; rw [hv, if_pos ⟨hl, show X < mOf true from hX⟩]
  unfold eE
  rw [if_pos h1, h2]
theorem eN_of {bs : List Nat} {X : Nat} (hl : bs.length = 96) (hv : val 256 bs = X) (hX : X < bigP) : eN bs = if X ^ bigQ % bigP = 1 then X else 0 := by
  have h2 : rdN true bs = X := by unfold rdN; rw [hv, if_pos ⟨hl, show X < mOf true from hX⟩]
  unfold eN
  rw [eE_of hl hv hX, h2]
  by_cases h : X ^ bigQ % bigP = 1
  · rw [if_pos h, if_pos rfl, if_pos h]
  · rw [if_neg h, if_neg (by decide), if_neg h]
theorem last_q : ¬ (bigP - 1) ^ bigQ % bigP = 1 := by
  have h : bigQ < 2 ^ hbits := by decide +kernel
  rw [← pm_eq bigP hbits (bigP - 1) bigQ h]
  decide +kernel
/-- The first digit. -/
theorem first_dig (W : Nat) (hW : 0 < W) (l : List Nat) (h : ∀ x ∈ l, x < W) : l.getD 0 0 = val W l % W := by
  have e := pv_mod W hW l h 1
  rw [pv_succ, pv_zero, Nat.pow_zero, Nat.mul_one, Nat.zero_add, Nat.pow_one] at e
  exact e
/-- What is kept: an element in memory, its bytes, and the table. -/
structure EnvS (w : World) (ba bb X : Nat) (l : List Nat) (v : World) : Prop where
  a : BlkW v ba 35 (ds X)
  i : BlkB v bb 70 l
  g : GlobW v
  b : Below w.heap.size w v
theorem EnvS.up {w : World} {ba bb X : Nat} {l : List Nat} {v v' : World} (h : EnvS w ba bb X l v) (hb : Below v.heap.size v v') : EnvS w ba bb X l v' :=
  ⟨blk_up h.a hb, h.i.below hb h.i.size, h.g.up hb, bchain h.b hb⟩
set_option maxRecDepth 100000 in
set_option maxHeartbeats 8000000 in
theorem speaks5_c (w : World) (hG : GlobW w) : Calls Tryd.prog 15 #[] w fun e w' => e = .returned (.bool true) ∧ Below w.heap.size w w' := by
  go_enter Tryd.func15, Tryd.ntmps15
  go_wp2_with fail
  refine (refP_c w).mono ?_
  rintro e w1 ⟨pv, rfl, h1, b1⟩
  have a2 := (Below.refl w1.heap.size w1).alloc (Nat.le_refl _) (.cells #[.int .u64 1] 22)
  have HP := hid (h1.up a2)
  have HO := hid (one_dg w1)
  have B2 := hid (bchain b1 a2)
  clear h1 b1 a2
  go_wp2_with fail
  refine (gSub_c pv _ bigP 1 _ HP.out HO.out (by decide)).mono ?_
  rintro e w2 ⟨mv, rfl, h2, b2⟩
  have a3 := (Below.refl w2.heap.size w2).alloc (Nat.le_refl _) (.cells #[.int .u64 2] 22)
  have B3 := hid (bchain (bchain B2.out b2) a3)
  have HM := hid (h2.up a3)
  have HD := hid (digit_dg w2 2 (by decide) (by decide))
  clear HP HO B2 h2 b2 a3
  go_wp2_with fail
  refine (refBytes96_c _ 2 _ HD.out).mono ?_
  rintro e w3 ⟨A3, c3, l3, rfl, hc3, r3, v3, b3⟩
  have B4 := hid (bchain B3.out b3)
  have HM4 := hid (HM.out.up b3)
  have hl3 := r3.len
  have E3 : Hid (eE l3 = 0 ∧ eN l3 = 2) := by
    have hv : val 256 l3 = 2 := by rw [v3]; decide
    have h1 := eE_of hl3 hv (by decide)
    have h2 := eN_of hl3 hv (by decide)
    rw [if_pos two_q] at h1 h2
    exact ⟨h1, h2⟩
  clear v3 b3 HM HD B3 hl3
  go_wp2_with fail
  have CR := gRead_c A3 96 c3 l3 w3 r3 (hG.up B4.out)
  rw [E3.out.1, E3.out.2, num_2] at CR
  refine CR.mono ?_
  rintro e w4 ⟨rfl, b4⟩
  have B5 := hid (bchain B4.out b4)
  have a5 := (Below.refl w4.heap.size w4).alloc (Nat.le_refl _) (o12 35 2)
  have HA5 := hid (o12_new w4 35 2)
  have HM5 := hid ((HM4.out.up b4).up a5)
  have B6 := hid (bchain B5.out a5)
  clear CR E3 b4 a5 HM4 B4 B5 r3
  go_wp2_with fail
  change Calls _ _ _ (w4.alloc (o12 35 2)) _
  generalize hba : w4.heap.size = ba at *
  clear hba
  generalize w4.alloc (o12 35 2) = w5 at *
  refine (refBytes96_c _ (bigP - 1) _ HM5.out).mono ?_
  rintro e w6 ⟨A6, c6, l6, rfl, hc6, r6, v6, b6⟩
  have B7 := hid (bchain B6.out b6)
  have HA7 := hid (blk_up HA5.out b6)
  have E6 : Hid (eE l6 = 4 ∧ eN l6 = 0) := by
    have hv : val 256 l6 = bigP - 1 := by rw [v6]; decide
    have h1 := eE_of r6.len hv (by decide)
    have h2 := eN_of r6.len hv (by decide)
    rw [if_neg last_q] at h1 h2
    exact ⟨h1, h2⟩
  clear v6 b6 HM5 HA5 B6
  go_wp2_with fail
  have CR := gRead_c A6 96 c6 l6 w6 r6 (hG.up B7.out)
  rw [E6.out.1, E6.out.2, num_0] at CR
  refine CR.mono ?_
  rintro e w7 ⟨rfl, b7⟩
  have a8 := (Below.refl w7.heap.size w7).alloc (Nat.le_refl _) (z12 35)
  have b78 := bchain b7 a8
  have B8 := hid (bchain B7.out b78)
  have HA8 := hid (blk_up HA7.out b78)
  have HR8 := hid HA8.out.range
  have I := hid (sizeEl.trans (congrArg some (dsc_len 2).symm))
  clear CR E6 b7 a8 b78 HA7 B7 r6
  unfold z12 at *
  go_wp2_with (refine wpList_load_mid rfl 35 (.tmp 2) rfl ba 0 rfl (cellsOf64 (ds 2)) _ HR8.out Tryd.underlying35 rfl I.out ?_)
  generalize w7.alloc _ = w8 at *
  refine (elBytes_c 2 w8 (hid (by decide))).mono ?_
  rintro e w9 ⟨r, rfl, hr, b9⟩
  obtain ⟨l, rfl, hl, hlt, hv⟩ := hr
  obtain ⟨wx, hst, hBx, bx⟩ := new96 w9 l hl hlt
  have hlen : (cells8 l).length = 96 := by simp [cells8, hl]
  have b9x := bchain b9 bx
  have Bx := bchain B8.out b9x
  have Ex : Hid (EnvS w ba w9.heap.size 2 l wx.drew) := hid (EnvS.up ⟨blk_up HA8.out b9x, hBx, hG.up Bx, Bx⟩ (Below.refl _ _).drew)
  have h0 : Hid (at64 l 0 = 2) := by
    have := first_dig 256 (by decide) l hlt
    rw [hv] at this
    unfold at64
    rw [this]
    rfl
  have HLL := hid hl
  clear b9 bx b9x hBx Bx hv HA8 HR8 I B8
  go_wp2_with fail
  generalize w9.heap.size = bb at *
  have E0 := Ex.out
  clear hst hlen Ex
  go_cut [0] (fun s wx => s = .bool true ∧ EnvS w ba bb 2 l wx)
  case first =>
    obtain ⟨n12, hn12⟩ : ∃ n : Nat, n = 12 := ⟨_, rfl⟩
    have L1 : ∀ v, EnvS w ba bb 2 l v → (loadCellsFrom ⟨ba, 0, none⟩ 0 n12 #[]).run Tryd.prog v = .ok (cellsOf64 (ds 2)).toArray v := fun v h => by rw [hn12]; exact cells_numT h.a
    have CI : ∀ v, EnvS w ba bb 2 l v → v.cell? ⟨bb, 0, none⟩ = some (.int .u8 2) := fun v h => by rw [h.i.cell (by rw [HLL.out]; decide), h0.out]
    have CM : ∀ v, EnvS w ba bb 2 l v → Calls Tryd.prog 29 #[.agg (cellsOf64 (ds 2)).toArray, .agg (cellsOf64 (ds 2)).toArray] v fun e w' => e = .returned (.agg (cellsOf64 (ds 4)).toArray) ∧ Below v.heap.size v w' := fun v h => by
      have := grMul_c 2 2 v (by decide) (by decide) h.g
      rw [show 2 * 2 % bigP = 4 by decide] at this
      exact this
    have CG : ∀ v, Calls Tryd.prog 34 #[] v fun e w' => e = .returned (.agg (cellsOf64 (ds 4)).toArray) ∧ Below v.heap.size v w' := fun v => generator_c v
    have C1 : ∀ v, Calls Tryd.prog 26 #[.agg (cellsOf64 (ds 4)).toArray, .agg (cellsOf64 (ds 4)).toArray] v fun e w' => e = .returned (.bool true) ∧ Below v.heap.size v w' := fun v => grEq_c 4 4 v (by decide) (by decide)
    have C2 : ∀ v, Calls Tryd.prog 26 #[.agg (cellsOf64 (ds 2)).toArray, .agg (cellsOf64 (ds 4)).toArray] v fun e w' => e = .returned (.bool false) ∧ Below v.heap.size v w' := fun v => grEq_c 2 4 v (by decide) (by decide)
    have G1 := agg_el
    have G2 : ∀ v, (sizeOf 35).run Tryd.prog v = .ok n12 v := by rw [hn12]; exact size_el
    have G3 := fun v => run_underlying Tryd.underlying70 v
    have G4 := fun v => run_underlying Tryd.underlying5 v
    have IA : ∀ v, (Instr.indexAt 70 (.pointer (some ⟨bb, 0, none⟩)) (.int .i64 0)).run Tryd.prog v = .ok (.pointer (some ⟨bb, 0, none⟩)) v := fun v => by kernel_rfl
    have G5 : ∀ w, (sizeOf 5).run Tryd.prog w = .ok 1 w := fun w => by kernel_rfl
    have G6 : ∀ w, (isAgg 5).run Tryd.prog w = .ok false w := fun w => by kernel_rfl
    have N1 := Tryd.call29
    have N2 := Tryd.call34
    have N3 := Tryd.call26
    clear hn12
    generalize cellsOf64 (ds 4) = c4 at *
    generalize cellsOf64 (ds 2) = c2 at *
    generalize Tryd.prog = P at CM CG C1 C2 L1 IA G1 G2 G3 G4 G5 G6 N1 N2 N3 ⊢
    go_region_held3 (fun w' => EnvS w ba bb 2 l w') (with_reducible assumption) (first
      | (go_at_call 29; with_reducible refine (CM _ (by with_reducible assumption)).mono ?_; rintro e v ⟨rfl, hb⟩; have hE := EnvS.up (by with_reducible assumption) hb; dsimp only)
      | (go_at_call 34; with_reducible refine (CG _).mono ?_; rintro e v ⟨rfl, hb⟩; have hE := EnvS.up (by with_reducible assumption) hb; dsimp only)
      | (go_at_call 26; with_reducible refine (C1 _).mono ?_; rintro e v ⟨rfl, hb⟩; have hE := EnvS.up (by with_reducible assumption) hb; dsimp only)
      | (go_at_call 26; with_reducible refine (C2 _).mono ?_; rintro e v ⟨rfl, hb⟩; have hE := EnvS.up (by with_reducible assumption) hb; dsimp only))
    go_wp2_with fail
    go_meet
    exact ⟨rfl, hE⟩
  case rest =>
    obtain ⟨rfl, hE⟩ := hcut
    go_wp2
    go_ret
    exact ⟨rfl, hE.b⟩
end Go.Proofs.YtfonpmahcdmajaaDoor
/-
  A number laid into a new variable of any type of twelve words.
-/
namespace Go.Proofs.YtfonpmahcdmajaaDoor
open Go.RowKit
set_option linter.unusedVariables false

theorem layT (w : World) (t : TypeId) (X : Nat) :
    ∃ w1, (storeCells ⟨w.heap.size, 0, none⟩ (cellsOf64 (ds X))).run Tryd.prog (w.alloc (z12 t)) = .ok () w1 ∧ BlkW w1 w.heap.size t (ds X) ∧ Below w.heap.size w w1 := by
  have hA := z12_new w t
  have hb0 := (Below.refl w.heap.size w).alloc (Nat.le_refl _) (z12 t)
  obtain ⟨s1, r1⟩ := num_storedT (X := X) hA
  refine ⟨_, s1, ⟨?_, ds_lt X⟩, below_cells (Nat.le_refl _) _ _ _ hb0⟩
  have key : ∀ (l old done : List Nat) (v : World), v.heap[w.heap.size]? = some (.cells (cellsOf64 (done ++ old)).toArray t (0, 0)) → l.length = old.length →
      (v.setCells w.heap.size done.length (cellsOf64 l)).heap[w.heap.size]? = some (.cells (cellsOf64 (done ++ l)).toArray t (0, 0)) := by
    intro l
    induction l with
    | nil =>
      intro old done v h hl
      have : old = [] := List.eq_nil_of_length_eq_zero (by simpa using hl.symm)
      subst this
      exact h
    | cons x l ih =>
      intro old done v h hl
      match old, hl with
      | y :: old, hl =>
        have h' : (v.setCell ⟨w.heap.size, done.length, none⟩ (.int .u64 (x : Int))).heap[w.heap.size]? = some (.cells (cellsOf64 ((done ++ [x]) ++ old)).toArray t (0, 0)) := by
          simp [World.setCell, Array.getElem?_modify, h, cellsOf64]
        have ih' := ih old (done ++ [x]) _ h' (by simpa using hl)
        rw [List.length_append, List.length_singleton, List.append_assoc] at ih'
        exact ih'
  exact key (ds X) (List.replicate 12 0) [] (w.alloc (z12 t)) hA.heap (by rw [ds_len, List.length_replicate])
end Go.Proofs.YtfonpmahcdmajaaDoor
/-
  group.OfField, by what the field element's bytes are: what the call does.
-/
namespace Go.Proofs.YtfonpmahcdmajaaDoor
open Go.RowKit
set_option linter.unusedVariables false

/-- 32 bytes, as a value. -/
def By32 (v : Value) (X : Nat) : Prop := ∃ l : List Nat, v = .agg (cells8 l).toArray ∧ l.length = 32 ∧ allLt8 l ∧ val 256 l = X
/-- 32 bytes laid into a new variable. -/
theorem lay32 (w : World) (l : List Nat) (hl : l.length = 32) (hlt : allLt8 l) :
    ∃ wx, (storeCells ⟨w.heap.size, 0, none⟩ (cells8 l)).run Tryd.prog (w.alloc (.cells #[.int .u8 0, .int .u8 0, .int .u8 0, .int .u8 0, .int .u8 0, .int .u8 0, .int .u8 0, .int .u8 0, .int .u8 0, .int .u8 0, .int .u8 0, .int .u8 0, .int .u8 0, .int .u8 0, .int .u8 0, .int .u8 0, .int .u8 0, .int .u8 0, .int .u8 0, .int .u8 0, .int .u8 0, .int .u8 0, .int .u8 0, .int .u8 0, .int .u8 0, .int .u8 0, .int .u8 0, .int .u8 0, .int .u8 0, .int .u8 0, .int .u8 0, .int .u8 0] 94)) = .ok () wx ∧ Rd8 wx wx.heap.size (some ⟨w.heap.size, 0, none⟩) 32 l ∧ Below w.heap.size w wx := by
  have hB : BlkB (w.alloc (.cells #[.int .u8 0, .int .u8 0, .int .u8 0, .int .u8 0, .int .u8 0, .int .u8 0, .int .u8 0, .int .u8 0, .int .u8 0, .int .u8 0, .int .u8 0, .int .u8 0, .int .u8 0, .int .u8 0, .int .u8 0, .int .u8 0, .int .u8 0, .int .u8 0, .int .u8 0, .int .u8 0, .int .u8 0, .int .u8 0, .int .u8 0, .int .u8 0, .int .u8 0, .int .u8 0, .int .u8 0, .int .u8 0, .int .u8 0, .int .u8 0, .int .u8 0, .int .u8 0] 94)) w.heap.size 94 (List.replicate 32 0) := BlkB.new w 94 (List.replicate 32 0) (zeros_lt8 _)
  have hth := hB.there
  generalize hw0 : w.alloc (.cells #[.int .u8 0, .int .u8 0, .int .u8 0, .int .u8 0, .int .u8 0, .int .u8 0, .int .u8 0, .int .u8 0, .int .u8 0, .int .u8 0, .int .u8 0, .int .u8 0, .int .u8 0, .int .u8 0, .int .u8 0, .int .u8 0, .int .u8 0, .int .u8 0, .int .u8 0, .int .u8 0, .int .u8 0, .int .u8 0, .int .u8 0, .int .u8 0, .int .u8 0, .int .u8 0, .int .u8 0, .int .u8 0, .int .u8 0, .int .u8 0, .int .u8 0, .int .u8 0] 94) = w0 at *
  have hb0 : Below w.heap.size w w0 := by rw [← hw0]; exact (Below.refl _ _).alloc (Nat.le_refl _) _
  have h2 := setCells_blkB (w := w0) (b := w.heap.size) (t := 94) l (List.replicate 32 0) [] hB.heap (by simp [hl])
  simp only [List.nil_append, List.length_nil] at h2
  have hB2 : BlkB (w0.setCells w.heap.size 0 (cells8 l)) w.heap.size 94 l := ⟨h2, hlt⟩
  have rr := hB2.rd hB2.size
  rw [hl] at rr
  exact ⟨_, store8 w.heap.size l w0 (by rw [hl]; exact hth), rr, below_cells (Nat.le_refl _) _ _ _ hb0⟩
set_option maxRecDepth 20000 in
set_option maxHeartbeats 1000000 in
theorem ofField_gen (a0 a1 a2 a3 : Int) (x : Nat) (w : World) (hx : Hid (x < bigQ)) (hG : GlobW w)
    (HB : Hid (∀ v, Below w.heap.size w v → Calls Tryd.prog 77 #[.agg #[.int .u64 a0, .int .u64 a1, .int .u64 a2, .int .u64 a3]] v fun e w' => ∃ r, e = .returned r ∧ By32 r x ∧ Below v.heap.size v w')) :
    Calls Tryd.prog 42 #[.agg #[.int .u64 a0, .int .u64 a1, .int .u64 a2, .int .u64 a3]] w fun e w' => e = .returned (num x) ∧ Below w.heap.size w w' := by
  have e1 : (w.alloc (.cells #[.int .u64 a0, .int .u64 a1, .int .u64 a2, .int .u64 a3] 66)).heap.size = w.heap.size + 1 := by simp
  have hz := z12_new (w.alloc (.cells #[.int .u64 a0, .int .u64 a1, .int .u64 a2, .int .u64 a3] 66)) 44
  rw [e1] at hz
  have A2 := hid hz
  have A1 := hid (((Below.refl w.heap.size w).alloc (Nat.le_refl _) (.cells #[.int .u64 a0, .int .u64 a1, .int .u64 a2, .int .u64 a3] 66)).alloc (by omega) (z12 44))
  have HG := hid (hG.up A1.out)
  clear e1 hz hG
  unfold num
  go_enter Tryd.func42, Tryd.ntmps42
  go_wp2_with fail
  change Calls _ _ _ ((w.alloc (.cells #[.int .u64 a0, .int .u64 a1, .int .u64 a2, .int .u64 a3] 66)).alloc (z12 44)) _
  generalize (w.alloc (.cells #[.int .u64 a0, .int .u64 a1, .int .u64 a2, .int .u64 a3] 66)).alloc (z12 44) = w0 at *
  refine (HB.out w0 A1.out).mono ?_
  rintro e w1 ⟨r, rfl, hr, b1⟩
  obtain ⟨l, rfl, hl, hlt, hv⟩ := hr
  obtain ⟨wx, hst, rx, bx⟩ := lay32 w1 l hl hlt
  have hlen : (cells8 l).length = 32 := by simp [cells8, hl]
  have b0x := bchain b1 bx
  have HGx := hid (HG.out.up b0x)
  have HAx := hid (A1.out.trans (b0x.mono A1.out.size))
  have HZx := hid (A2.out.below b0x A2.out.size)
  have HV := hid hv
  have RX := hid rx
  clear b1 bx b0x A1 A2 HG rx hv HB
  go_wp2_with fail
  have CR := restOf_c _ 32 32 l wx RX.out (by decide) HGx.out
  rw [HV.out, Nat.mod_eq_of_lt hx.out] at CR
  refine CR.mono ?_
  rintro e w2 ⟨rfl, b2⟩
  have hZ2 := HZx.out.below b2 HZx.out.size
  have hl2 := HAx.out.trans (b2.mono HAx.out.size)
  obtain ⟨hst2, HR⟩ := num_storedT (X := x) hZ2
  have hlen2 := dsc_len x
  clear CR hst hlen HGx HAx HZx HV b2 hZ2 RX hx
  unfold num
  go_wp2
  refine bodyPost_ret (sc_result Tryd.results42 rfl HR) rfl ?_
  exact ⟨rfl, below_cells (by omega) _ _ _ hl2⟩
end Go.Proofs.YtfonpmahcdmajaaDoor
