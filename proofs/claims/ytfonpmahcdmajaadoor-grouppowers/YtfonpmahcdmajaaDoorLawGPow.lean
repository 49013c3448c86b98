/-
  avouchlaw05.GroupPowers: the walk.
-/
import Derived.Test.YtfonpmahcdmajaaDoorGrpV
namespace Go.Proofs.YtfonpmahcdmajaaDoor
open Go.RowKit
set_option linter.unusedVariables false
set_option linter.unusedSimpArgs false

/-- What is kept: three numbers in memory. -/
structure EnvA (w : World) (ba bb be X Y E : Nat) (v : World) : Prop where
  x : BlkW v ba 24 (ds X)
  y : BlkW v bb 24 (ds Y)
  e : BlkW v be 24 (ds E)
  g : GlobW v
  b : Below w.heap.size w v
theorem EnvA.up {w : World} {ba bb be X Y E : Nat} {v v' : World} (h : EnvA w ba bb be X Y E v) (hb : Below v.heap.size v v') : EnvA w ba bb be X Y E v' :=
  ⟨blk_up h.x hb, blk_up h.y hb, blk_up h.e hb, h.g.up hb, bchain h.b hb⟩
theorem boxesA (w : World) (X Y E : Nat) (hG : GlobW w) :
    EnvA w w.heap.size (w.heap.size + 1) (w.heap.size + 1 + 1) X Y E (((w.alloc (o12 24 X)).alloc (o12 24 Y)).alloc (o12 24 E)) := by
  have e1 : (w.alloc (o12 24 X)).heap.size = w.heap.size + 1 := by simp
  have e2 : ((w.alloc (o12 24 X)).alloc (o12 24 Y)).heap.size = w.heap.size + 1 + 1 := by simp
  have h2 := (o12_new (w.alloc (o12 24 X)) 24 Y).alloc (o12 24 E)
  have h3 := o12_new ((w.alloc (o12 24 X)).alloc (o12 24 Y)) 24 E
  rw [e1] at h2
  rw [e2] at h3
  have hb := (((Below.refl w.heap.size w).alloc (Nat.le_refl _) (o12 24 X)).alloc (by omega) (o12 24 Y)).alloc (by omega) (o12 24 E)
  exact ⟨((o12_new w 24 X).alloc _).alloc _, h2, h3, hG.up hb, hb⟩
/-- The same with the elements, and digits, of both squares. -/
structure EnvP (w : World) (be E bf bg x y S : Nat) (xv yv sv : Value) (v : World) : Prop where
  e : BlkW v be 24 (ds E)
  f : BlkW v bf 35 (ds x)
  h : BlkW v bg 35 (ds y)
  xd : Dg v xv x
  yd : Dg v yv y
  sd : Dg v sv S
  g : GlobW v
  b : Below w.heap.size w v
theorem EnvP.up {w : World} {be E bf bg x y S : Nat} {xv yv sv : Value} {v v' : World} (h : EnvP w be E bf bg x y S xv yv sv v) (hb : Below v.heap.size v v') : EnvP w be E bf bg x y S xv yv sv v' :=
  ⟨blk_up h.e hb, blk_up h.f hb, blk_up h.h hb, h.xd.up hb, h.yd.up hb, h.sd.up hb, h.g.up hb, bchain h.b hb⟩
theorem EnvP.alloc {w : World} {be E bf bg x y S : Nat} {xv yv sv : Value} {v : World} (h : EnvP w be E bf bg x y S xv yv sv v) (o : Obj) : EnvP w be E bf bg x y S xv yv sv (v.alloc o) := h.up ((Below.refl _ _).alloc (Nat.le_refl _) _)

set_option maxRecDepth 100000 in
set_option maxHeartbeats 8000000 in
theorem groupPowers_w (X Y E : Nat) (w : World) (hX : X < W12) (hY : Y < W12) (hE : E < W12) (hG : GlobW w) :
    Calls Tryd.prog 5 #[num X, num Y, num E] w fun e w' => e = .returned (.bool true) ∧ Below w.heap.size w w' := by
  have hlX := dsc_len X
  have hlY := dsc_len Y
  have hlE := dsc_len E
  have A0 := hid (boxesA w X Y E hG)
  have HX := hid hX
  have HY := hid hY
  have HE := hid hE
  clear hX hY hE hG
  unfold num
  go_enter Tryd.func5, Tryd.ntmps5
  go_wp2_with fail
  change Calls _ _ _ (((w.alloc (o12 24 X)).alloc (o12 24 Y)).alloc (o12 24 E)) _
  generalize ((w.alloc (o12 24 X)).alloc (o12 24 Y)).alloc (o12 24 E) = w0 at *
  clear hlX hlY hlE
  refine (speaks5_c w0 A0.out.g).mono ?_
  rintro e w1 ⟨rfl, b1⟩
  have A1 := hid ((A0.out.up b1).up (Below.refl _ _).drew)
  clear A0 b1
  go_wp2_with fail
  generalize w.heap.size + 1 + 1 = be at *
  generalize w.heap.size + 1 = bb at *
  generalize hba : w.heap.size = ba at *
  have E1 := A1.out
  clear A1
  go_cut [7, 8] (fun s t wx => Dg wx s (X % bigP) ∧ Dg wx t (Y % bigP) ∧ EnvA w ba bb be X Y E wx)
  case first =>
    obtain ⟨n12, hn12⟩ : ∃ n : Nat, n = 12 := ⟨_, rfl⟩
    have L1 : ∀ v, EnvA w ba bb be X Y E v → (loadCellsFrom ⟨ba, 0, none⟩ 0 n12 #[]).run Tryd.prog v = .ok (cellsOf64 (ds X)).toArray v := fun v h => by rw [hn12]; exact cells_num h.x
    have L2 : ∀ v, EnvA w ba bb be X Y E v → (loadCellsFrom ⟨bb, 0, none⟩ 0 n12 #[]).run Tryd.prog v = .ok (cellsOf64 (ds Y)).toArray v := fun v h => by rw [hn12]; exact cells_num h.y
    have CX : ∀ (v : World), Calls Tryd.prog 24 #[.agg (cellsOf64 (ds X)).toArray] v fun e w' => ∃ r, e = .returned r ∧ Dg w' r X ∧ Below v.heap.size v w' := fun v => digitsW_c X v HX.out
    have CY : ∀ (v : World), Calls Tryd.prog 24 #[.agg (cellsOf64 (ds Y)).toArray] v fun e w' => ∃ r, e = .returned r ∧ Dg w' r Y ∧ Below v.heap.size v w' := fun v => digitsW_c Y v HY.out
    have CM : ∀ (Z : Nat) (u : Value) (v : World), Dg v u Z → Calls Tryd.prog 23 #[u] v fun e w' => ∃ r, e = .returned r ∧ Dg w' r (Z % bigP) ∧ Below v.heap.size v w' := fun Z u v h => modP_c u Z v h
    have G1 := agg_num
    have G2 : ∀ v, (sizeOf 24).run Tryd.prog v = .ok n12 v := by rw [hn12]; exact size_num
    clear hn12
    have N1 := Tryd.call24
    have N2 := Tryd.call23
    generalize Tryd.prog = P at CX CY CM L1 L2 G1 G2 N1 N2 ⊢
    go_region_held3 (fun w' => EnvA w ba bb be X Y E w') (with_reducible assumption) (first
      | (go_at_call 24; with_reducible refine (CX _).mono ?_; rintro e v ⟨r, rfl, hr, hb⟩; have hE := EnvA.up (by with_reducible assumption) hb; dsimp only)
      | (go_at_call 24; with_reducible refine (CY _).mono ?_; rintro e v ⟨r, rfl, hr, hb⟩; have hE := EnvA.up (by with_reducible assumption) hb; have hD := Dg.up (X := X % bigP) (by with_reducible assumption) hb; dsimp only)
      | (go_at_call 23; with_reducible refine (CM X _ _ (by with_reducible assumption)).mono ?_; rintro e v ⟨r, rfl, hr, hb⟩; have hE := EnvA.up (by with_reducible assumption) hb; dsimp only)
      | (go_at_call 23; with_reducible refine (CM Y _ _ (by with_reducible assumption)).mono ?_; rintro e v ⟨r, rfl, hr, hb⟩; have hE := EnvA.up (by with_reducible assumption) hb; have hD := Dg.up (X := X % bigP) (by with_reducible assumption) hb; dsimp only))
    go_wp2_with fail
    go_meet
    exact ⟨hD, hr, hE⟩
  case rest =>
    obtain ⟨hdx, hdy, hE1⟩ := hcut
    have HX1 := hid hdx
    have HY1 := hid hdy
    have HE1 := hid hE1
    obtain ⟨v0, hv0⟩ : ∃ v, v = wc := ⟨_, rfl⟩
    rw [← hv0] at HX1 HY1 HE1 ⊢
    clear hv0 hdx hdy hE1 E1
    obtain ⟨x, hx⟩ : ∃ x, x = X % bigP * (X % bigP) % bigP := ⟨_, rfl⟩
    obtain ⟨y, hy⟩ : ∃ y, y = Y % bigP * (Y % bigP) % bigP := ⟨_, rfl⟩
    have HXX := hid hx
    have HYY := hid hy
    have HXP : Hid (x < bigP) := hid (by rw [hx]; exact Nat.mod_lt _ (by decide))
    have HYP : Hid (y < bigP) := hid (by rw [hy]; exact Nat.mod_lt _ (by decide))
    clear hx hy
    go_wp2_with fail
    refine (r5Mul_c u7 u7 (X % bigP) (X % bigP) v0 HX1.out HX1.out (Nat.lt_trans (Nat.mod_lt _ (by decide)) bigP_T24)).mono ?_
    rintro e v1 ⟨xv, rfl, hr, b1⟩
    rw [← HXX.out] at hr
    have HX2 := hid hr
    have HY2 := hid (HY1.out.up b1)
    have HE2 := hid (HE1.out.up b1)
    clear hr b1 HX1 HY1 HE1
    go_wp2_with fail
    refine (r5Mul_c u8 u8 (Y % bigP) (Y % bigP) v1 HY2.out HY2.out (Nat.lt_trans (Nat.mod_lt _ (by decide)) bigP_T24)).mono ?_
    rintro e v2 ⟨yv, rfl, hr, b2⟩
    rw [← HYY.out] at hr
    have HY3 := hid hr
    have HX3 := hid (HX2.out.up b2)
    have HE3 := hid (HE2.out.up b2)
    clear hr b2 HX2 HY2 HE2
    by_cases hx0 : x = 0
    · obtain ⟨Aa, ca, rfl⟩ := (show Dg v2 xv 0 from hx0 ▸ HX3.out).zero_
      have HB := hid HE3.out.b
      clear HX3 HY3 HE3 HXX HYY HXP HYP hx0
      go_wp2
      go_ret
      exact ⟨rfl, hba ▸ HB.out⟩
    by_cases hy0 : y = 0
    · obtain ⟨Aa, ca, rfl⟩ := (show Dg v2 yv 0 from hy0 ▸ HY3.out).zero_
      obtain ⟨b5, off5, n5, c5, d5, rfl, hn5, _, _, _⟩ := HX3.out.open_ (Nat.pos_of_ne_zero hx0)
      have i0 : ((n5 : Int) == 0) = false := by simp; omega
      have HB := hid HE3.out.b
      clear HX3 HY3 HE3 HXX HYY HXP HYP hx0 hy0 hn5
      go_wp2
      go_ret
      exact ⟨rfl, hba ▸ HB.out⟩
    have SX : Hid (x ^ bigQ % bigP = 1) := hid (by rw [HXX.out]; exact square_q _ (by rw [← HXX.out]; exact hx0))
    have SY : Hid (y ^ bigQ % bigP = 1) := hid (by rw [HYY.out]; exact square_q _ (by rw [← HYY.out]; exact hy0))
    have HX0 := hid hx0
    have HY0 := hid hy0
    obtain ⟨b5, off5, n5, c5, d5, exv, hn5, _, _, _⟩ := HX3.out.open_ (Nat.pos_of_ne_zero hx0)
    obtain ⟨b6, off6, n6, c6, d6, eyv, hn6, _, _, _⟩ := HY3.out.open_ (Nat.pos_of_ne_zero hy0)
    have i0 : ((n5 : Int) == 0) = false := by simp; omega
    have i1 : ((n6 : Int) == 0) = false := by simp; omega
    subst exv
    subst eyv
    clear hx0 hy0 HXX HYY hn5 hn6
    go_wp2_with fail
    generalize (Value.slice (some ⟨b5, off5, none⟩) n5 c5) = xv at *
    generalize (Value.slice (some ⟨b6, off6, none⟩) n6 c6) = yv at *
    refine (refBytes96_c xv x v2 HX3.out).mono ?_
    rintro e v3 ⟨A3, c3, l3, rfl, hc3, r3, w3v, b3⟩
    have E3 : Hid (eE l3 = 0 ∧ eN l3 = x) := by
      have hv : val 256 l3 = x := by rw [w3v, Nat.mod_eq_of_lt (Nat.lt_trans HXP.out bigP_lt)]
      have h1 := eE_of r3.len hv HXP.out
      have h2 := eN_of r3.len hv HXP.out
      rw [if_pos SX.out] at h1 h2
      exact ⟨h1, h2⟩
    have HX4 := hid (HX3.out.up b3)
    have HY4 := hid (HY3.out.up b3)
    have HE4 := hid (HE3.out.up b3)
    clear w3v b3 HX3 HY3 HE3 i0 i1
    go_wp2_with fail
    have CR := gRead_c A3 96 c3 l3 v3 r3 HE4.out.g
    rw [E3.out.1, E3.out.2] at CR
    refine CR.mono ?_
    rintro e v4 ⟨rfl, b4⟩
    obtain ⟨v5, s5, x5, b5'⟩ := layT v4 35 x
    have hlx := dsc_len x
    have b45 := bchain b4 b5'
    have HF5 := hid x5
    have HX5 := hid (HX4.out.up b45)
    have HY5 := hid (HY4.out.up b45)
    have HE5 := hid (HE4.out.up b45)
    clear CR E3 b4 b5' b45 x5 r3 HX4 HY4 HE4
    unfold num z12 at *
    go_wp2_with fail
    refine (refBytes96_c yv y v5 HY5.out).mono ?_
    rintro e v6 ⟨A6, c6', l6, rfl, hc6, r6, w6v, b6'⟩
    have E6 : Hid (eE l6 = 0 ∧ eN l6 = y) := by
      have hv : val 256 l6 = y := by rw [w6v, Nat.mod_eq_of_lt (Nat.lt_trans HYP.out bigP_lt)]
      have h1 := eE_of r6.len hv HYP.out
      have h2 := eN_of r6.len hv HYP.out
      rw [if_pos SY.out] at h1 h2
      exact ⟨h1, h2⟩
    have HF6 := hid (blk_up HF5.out b6')
    have HX6 := hid (HX5.out.up b6')
    have HY6 := hid (HY5.out.up b6')
    have HE6 := hid (HE5.out.up b6')
    clear w6v b6' HX5 HY5 HE5 HF5 s5 hlx
    go_wp2_with fail
    have CR := gRead_c A6 96 c6' l6 v6 r6 HE6.out.g
    rw [E6.out.1, E6.out.2] at CR
    refine CR.mono ?_
    rintro e v7 ⟨rfl, b7⟩
    obtain ⟨v8, s8, x8, b8⟩ := layT v7 35 y
    have hly := dsc_len y
    have b78 := bchain b7 b8
    have HF8 := hid (blk_up HF6.out b78)
    have HH8 := hid x8
    have HX8 := hid (HX6.out.up b78)
    have HY8 := hid (HY6.out.up b78)
    have HE8 := hid (HE6.out.up b78)
    clear CR E6 b7 b8 b78 x8 r6 HX6 HY6 HE6 HF6
    unfold num z12 at *
    have OF := hid HF8.out.range
    have OH := hid HH8.out.range
    have IX := hid (sizeEl.trans (congrArg some (dsc_len x).symm))
    have IY := hid (sizeEl.trans (congrArg some (dsc_len y).symm))
    go_wp2_with (first
      | refine wpList_load_g (by rfl) 35 (.tmp 9) rfl v4.heap.size 0 rfl (cellsOf64 (ds x)) _ OF.out Tryd.underlying35 rfl IX.out ?_
      | refine wpList_load_g (by rfl) 35 (.tmp 11) rfl v7.heap.size 0 rfl (cellsOf64 (ds y)) _ OH.out Tryd.underlying35 rfl IY.out ?_)
    clear s8 hly
    generalize v4.heap.size = bf at *
    generalize v7.heap.size = bg at *
    have CQ := grEq_c x y v8 (Nat.lt_trans HXP.out bigP_lt) (Nat.lt_trans HYP.out bigP_lt)
    obtain ⟨q, hq⟩ : ∃ q, q = decide (x = y) := ⟨_, rfl⟩
    rw [← hq] at CQ
    refine CQ.mono ?_
    rintro e v9 ⟨rfl, b9⟩
    have HX9 := hid (HX8.out.up b9)
    have HY9 := hid (HY8.out.up b9)
    have HF9 := hid (blk_up HF8.out b9)
    have HH9 := hid (blk_up HH8.out b9)
    have HE9 := hid (HE8.out.up b9)
    have CS := same5_c xv yv x y v9 HX9.out HY9.out
    rw [← hq] at CS
    clear b9 HX8 HY8 HF8 HH8 HE8 CQ OF OH hq
    go_wp2_with fail
    refine CS.mono ?_
    rintro e w' ⟨rfl, rfl⟩
    have hqq : ((q : Bool) != q) = false := by simp
    clear CS
    have OE := hid HE9.out.e.range
    have IE := hid (sizeNb.trans (congrArg some (dsc_len E).symm))
    go_wp2_with (refine wpList_load_g (by rfl) 24 (.tmp 5) rfl be 0 rfl (cellsOf64 (ds E)) _ OE.out Tryd.underlying24 rfl IE.out ?_)
    refine (digitsW_c E v9 HE.out).mono ?_
    rintro e v10 ⟨dv, rfl, hd, b10⟩
    have HD := hid hd
    clear hd hqq
    go_wp2_with fail
    refine (modQ_c dv E v10 HD.out).mono ?_
    rintro e v11 ⟨sv, rfl, hs, b11⟩
    have b911 := bchain b10 b11
    obtain ⟨S, hS⟩ : ∃ S, S = E % bigQ := ⟨_, rfl⟩
    rw [← hS] at hs
    have HS := hid hS
    have E11 : Hid (EnvP w be E bf bg x y S xv yv sv v11) := ⟨blk_up HE9.out.e b911, blk_up HF9.out b911, blk_up HH9.out b911, HX9.out.up b911, HY9.out.up b911, hs, HE9.out.g.up b911, hba ▸ bchain (hba ▸ HE9.out.b) b911⟩
    clear hs hS b10 b11 b911 HX9 HY9 HF9 HH9 HE9 HD OE IE IX IY HX HY
    go_wp2_with fail
    have EX := (E11.out).up (Below.refl _ _).drew
    clear E11
    go_cut [6] (fun s wx => s = .bool true ∧ EnvP w be E bf bg x y S xv yv sv wx)
    case first =>
      obtain ⟨Z1, hZ1⟩ : ∃ Z1, Z1 = x * y % bigP := ⟨_, rfl⟩
      obtain ⟨Z2, hZ2⟩ : ∃ Z2, Z2 = x ^ S % bigP := ⟨_, rfl⟩
      have l1 : Z1 < W12 := by rw [hZ1]; exact Nat.lt_trans (Nat.mod_lt _ (by decide)) bigP_lt
      have l2 : Z2 < W12 := by rw [hZ2]; exact Nat.lt_trans (Nat.mod_lt _ (by decide)) bigP_lt
      have lx : x < W12 := Nat.lt_trans HXP.out bigP_lt
      have ly : y < W12 := Nat.lt_trans HYP.out bigP_lt
      have lS : S < W12 := by rw [HS.out]; exact Nat.lt_trans (Nat.mod_lt _ (by decide)) bigQ_lt
      obtain ⟨n12, hn12⟩ : ∃ n : Nat, n = 12 := ⟨_, rfl⟩
      have L1 : ∀ v, EnvP w be E bf bg x y S xv yv sv v → (loadCellsFrom ⟨bf, 0, none⟩ 0 n12 #[]).run Tryd.prog v = .ok (cellsOf64 (ds x)).toArray v := fun v h => by rw [hn12]; exact cells_numT h.f
      have L2 : ∀ v, EnvP w be E bf bg x y S xv yv sv v → (loadCellsFrom ⟨bg, 0, none⟩ 0 n12 #[]).run Tryd.prog v = .ok (cellsOf64 (ds y)).toArray v := fun v h => by rw [hn12]; exact cells_numT h.h
      have L3 : ∀ v, EnvP w be E bf bg x y S xv yv sv v → (loadCellsFrom ⟨be, 0, none⟩ 0 n12 #[]).run Tryd.prog v = .ok (cellsOf64 (ds E)).toArray v := fun v h => by rw [hn12]; exact cells_numT h.e
      have CM : ∀ v, EnvP w be E bf bg x y S xv yv sv v → Calls Tryd.prog 29 #[.agg (cellsOf64 (ds x)).toArray, .agg (cellsOf64 (ds y)).toArray] v fun e w' => e = .returned (.agg (cellsOf64 (ds Z1)).toArray) ∧ Below v.heap.size v w' := fun v h => by
        have := grMul_c x y v lx ly h.g
        rw [← hZ1] at this
        exact this
      have CR : ∀ v, EnvP w be E bf bg x y S xv yv sv v → Calls Tryd.prog 25 #[xv, yv] v fun e w' => ∃ r, e = .returned r ∧ Dg w' r Z1 ∧ Below v.heap.size v w' := fun v h => by
        have := r5Mul_c xv yv x y v h.xd h.yd (Nat.lt_trans HYP.out bigP_T24)
        rw [← hZ1] at this
        exact this
      have CI : ∀ r v, Dg v r Z1 → Calls Tryd.prog 18 #[.agg (cellsOf64 (ds Z1)).toArray, r] v fun e w' => e = .returned (.bool true) ∧ Below v.heap.size v w' := fun r v h => by
        have := isEl_c r Z1 Z1 v l1 h l1
        rw [decide_eq_true rfl] at this
        exact this
      have CO : ∀ v, EnvP w be E bf bg x y S xv yv sv v → Calls Tryd.prog 31 #[.agg (cellsOf64 (ds E)).toArray] v fun e w' => e = .returned (.agg (cellsOf64 (ds S)).toArray) ∧ Below v.heap.size v w' := fun v h => by
        have := ofNumber_c E v HE h.g
        rw [← HS.out] at this
        exact this
      have CE : ∀ v, EnvP w be E bf bg x y S xv yv sv v → Calls Tryd.prog 30 #[.agg (cellsOf64 (ds x)).toArray, .agg (cellsOf64 (ds S)).toArray] v fun e w' => e = .returned (.agg (cellsOf64 (ds Z2)).toArray) ∧ Below v.heap.size v w' := fun v h => by
        have := grExp_c x S v lx lS h.g
        rw [← hZ2] at this
        exact this
      have CX : ∀ v, EnvP w be E bf bg x y S xv yv sv v → Calls Tryd.prog 32 #[xv, sv] v fun e w' => ∃ r, e = .returned r ∧ Dg w' r Z2 ∧ Below v.heap.size v w' := fun v h => by
        have := r5Exp_c xv sv x S v h.xd h.sd (by rw [T24_eq]; exact lS)
        rw [← hZ2] at this
        exact this
      have CJ : ∀ r v, Dg v r Z2 → Calls Tryd.prog 18 #[.agg (cellsOf64 (ds Z2)).toArray, r] v fun e w' => e = .returned (.bool true) ∧ Below v.heap.size v w' := fun r v h => by
        have := isEl_c r Z2 Z2 v l2 h l2
        rw [decide_eq_true rfl] at this
        exact this
      have C1 : ∀ v, Calls Tryd.prog 33 #[] v fun e w' => e = .returned (.agg (cellsOf64 (ds 1)).toArray) ∧ Below v.heap.size v w' := fun v => one_c v
      have C4 : ∀ v, Calls Tryd.prog 34 #[] v fun e w' => e = .returned (.agg (cellsOf64 (ds 4)).toArray) ∧ Below v.heap.size v w' := fun v => generator_c v
      have D1 : ∀ sl v, Dg v sl 1 → Calls Tryd.prog 18 #[.agg (cellsOf64 (ds 1)).toArray, sl] v fun e w' => e = .returned (.bool true) ∧ Below v.heap.size v w' := fun sl v h => isEl_c _ 1 1 _ (hid (by decide)) h (by decide)
      have D4 : ∀ sl v, Dg v sl 4 → Calls Tryd.prog 18 #[.agg (cellsOf64 (ds 4)).toArray, sl] v fun e w' => e = .returned (.bool true) ∧ Below v.heap.size v w' := fun sl v h => isEl_c _ 4 4 _ (hid (by decide)) h (by decide)
      have DG1 : ∀ v : World, Dg (v.alloc (.cells #[.int .u64 1] 22)) (.slice (some ⟨v.heap.size, 0, none⟩) 1 1) 1 := fun v => digit_dg v 1 (by decide) (by decide)
      have DG4 : ∀ v : World, Dg (v.alloc (.cells #[.int .u64 4] 22)) (.slice (some ⟨v.heap.size, 0, none⟩) 1 1) 4 := fun v => digit_dg v 4 (by decide) (by decide)
      have G1 := agg_num
      have G2 : ∀ v, (sizeOf 24).run Tryd.prog v = .ok n12 v := by rw [hn12]; exact size_num
      have G3 := agg_el
      have G4 : ∀ v, (sizeOf 35).run Tryd.prog v = .ok n12 v := by rw [hn12]; exact size_el
      have G5 := sz64
      have G6 : ∀ v, (underlying 39).run Tryd.prog v = .ok (.slice 22) v := fun v => run_underlying Tryd.underlying39 v
      have G7 : ∀ v, (zeroValue 22).run Tryd.prog v = .ok (.int .u64 0) v := fun v => by kernel_rfl
      have N1 := Tryd.call29
      have N2 := Tryd.call25
      have N3 := Tryd.call18
      have N4 := Tryd.call31
      have N5 := Tryd.call30
      have N6 := Tryd.call32
      have N7 := Tryd.call33
      have N8 := Tryd.call34
      clear hn12 hZ1 hZ2 l1 l2 lx ly lS SX SY HXP HYP HX0 HY0 HS HE hba
      generalize cellsOf64 (ds 1) = c1 at *
      generalize cellsOf64 (ds 4) = c4 at *
      have HM : Tryd.prog.follows .mixedOrders = true := by kernel_rfl
      generalize Tryd.prog = P at HM CM CR CI CO CE CX CJ C1 C4 D1 D4 L1 L2 L3 G1 G2 G3 G4 G5 G6 G7 N1 N2 N3 N4 N5 N6 N7 N8 ⊢
      refine wp_region_held_drew (S := fun w' => EnvP w be E bf bg x y S xv yv sv w') HM EX (fun hHeld => ?_)
      refine wpAnyH_take (i := 0) (v := ?_) rfl (by kernel_rfl) (by kernel_rfl) (by kernel_rfl) (fun _ _ _ h => h) (Or.inl ⟨by rfl, fun v hv => ?_⟩) (by with_reducible assumption) ?_
      rotate_left
      · go_simp
        try with_reducible rfl
      simp only [Act.put, List.setIfInBounds_toArray, List.set_cons_zero, List.set_cons_succ, List.getElem_toArray, List.getElem_cons_zero, List.getElem_cons_succ]
      refine wpAnyH_take (i := 1) (v := ?_) rfl (by kernel_rfl) (by kernel_rfl) (by kernel_rfl) (fun _ _ _ h => h) (Or.inl ⟨by rfl, fun v hv => ?_⟩) (by with_reducible assumption) ?_
      rotate_left
      · go_simp
        try with_reducible rfl
      simp only [Act.put, List.setIfInBounds_toArray, List.set_cons_zero, List.set_cons_succ, List.getElem_toArray, List.getElem_cons_zero, List.getElem_cons_succ]
      refine wpAnyH_take (i := 3) (v := ?_) rfl (by kernel_rfl) (by kernel_rfl) (by kernel_rfl) (fun _ _ _ h => h) (Or.inl ⟨by rfl, fun v hv => ?_⟩) (by with_reducible assumption) ?_
      rotate_left
      · go_simp
        try with_reducible rfl
      simp only [Act.put, List.setIfInBounds_toArray, List.set_cons_zero, List.set_cons_succ, List.getElem_toArray, List.getElem_cons_zero, List.getElem_cons_succ]
      refine wpAnyH_take (i := 4) (v := ?_) rfl (by kernel_rfl) (by kernel_rfl) (by kernel_rfl) (fun _ _ _ h => h) (Or.inl ⟨by rfl, fun v hv => ?_⟩) (by with_reducible assumption) ?_
      rotate_left
      · go_simp
        try with_reducible rfl
      simp only [Act.put, List.setIfInBounds_toArray, List.set_cons_zero, List.set_cons_succ, List.getElem_toArray, List.getElem_cons_zero, List.getElem_cons_succ]
      refine wpAnyH_ready (rs := [2]) (by kernel_rfl) (by simp) ?_
      refine AllReadyH.cons rfl (fun K hK => ?_) AllReadyH.nil
      go_simp
      go_at_call 29
      with_reducible refine (CM _ (by with_reducible assumption)).mono ?_
      rintro e v1 ⟨rfl, hb1⟩
      have hE1 := EnvP.up (by with_reducible assumption) hb1
      dsimp only
      refine hK.out _ _ hE1 (fun hHeld => ?_)
      clear hK K
      try simp only [Act.put, List.setIfInBounds_toArray, List.set_cons_zero, List.set_cons_succ, List.getElem_toArray, List.getElem_cons_zero, List.getElem_cons_succ]
      refine wpAnyH_ready (rs := [5]) (by kernel_rfl) (by simp) ?_
      refine AllReadyH.cons rfl (fun K hK => ?_) AllReadyH.nil
      go_simp
      go_at_call 25
      with_reducible refine (CR _ (by with_reducible assumption)).mono ?_
      rintro e v2 ⟨r, rfl, hr2, hb2⟩
      have hE2 := EnvP.up (by with_reducible assumption) hb2
      dsimp only
      refine hK.out _ _ hE2 (fun hHeld => ?_)
      clear hK K
      try simp only [Act.put, List.setIfInBounds_toArray, List.set_cons_zero, List.set_cons_succ, List.getElem_toArray, List.getElem_cons_zero, List.getElem_cons_succ]
      refine wpAnyH_ready (rs := [6]) (by kernel_rfl) (by simp) ?_
      refine AllReadyH.cons rfl (fun K hK => ?_) AllReadyH.nil
      go_simp
      go_at_call 18
      with_reducible refine (CI _ _ (by with_reducible assumption)).mono ?_
      rintro e v3 ⟨rfl, hb3⟩
      have hE3 := EnvP.up (by with_reducible assumption) hb3
      dsimp only
      refine hK.out _ _ hE3 (fun hHeld => ?_)
      clear hK K
      try simp only [Act.put, List.setIfInBounds_toArray, List.set_cons_zero, List.set_cons_succ, List.getElem_toArray, List.getElem_cons_zero, List.getElem_cons_succ]
      refine wpAnyH_take (i := 7) (v := ?_) rfl (by kernel_rfl) (by kernel_rfl) (by kernel_rfl) (fun _ _ _ h => h) (Or.inl ⟨by rfl, fun v hv => ?_⟩) (by with_reducible assumption) ?_
      rotate_left
      · go_simp
        try with_reducible rfl
      simp only [Act.put, List.setIfInBounds_toArray, List.set_cons_zero, List.set_cons_succ, List.getElem_toArray, List.getElem_cons_zero, List.getElem_cons_succ]
      refine wpAnyH_take (i := 8) (v := ?_) rfl (by kernel_rfl) (by kernel_rfl) (by kernel_rfl) (fun _ _ _ h => h) (Or.inl ⟨by rfl, fun v hv => ?_⟩) (by with_reducible assumption) ?_
      rotate_left
      · go_simp
        try with_reducible rfl
      simp only [Act.put, List.setIfInBounds_toArray, List.set_cons_zero, List.set_cons_succ, List.getElem_toArray, List.getElem_cons_zero, List.getElem_cons_succ]
      refine wpAnyH_take (i := 9) (v := ?_) rfl (by kernel_rfl) (by kernel_rfl) (by kernel_rfl) (fun _ _ _ h => h) (Or.inl ⟨by rfl, fun v hv => ?_⟩) (by with_reducible assumption) ?_
      rotate_left
      · go_simp
        try with_reducible rfl
      simp only [Act.put, List.setIfInBounds_toArray, List.set_cons_zero, List.set_cons_succ, List.getElem_toArray, List.getElem_cons_zero, List.getElem_cons_succ]
      refine wpAnyH_take (i := 12) (v := ?_) rfl (by kernel_rfl) (by kernel_rfl) (by kernel_rfl) (fun _ _ _ h => h) (Or.inl ⟨by rfl, fun v hv => ?_⟩) (by with_reducible assumption) ?_
      rotate_left
      · go_simp
        try with_reducible rfl
      simp only [Act.put, List.setIfInBounds_toArray, List.set_cons_zero, List.set_cons_succ, List.getElem_toArray, List.getElem_cons_zero, List.getElem_cons_succ]
      refine wpAnyH_take (i := 13) (v := ?_) rfl (by kernel_rfl) (by kernel_rfl) (by kernel_rfl) (fun _ _ _ h => h) (Or.inl ⟨by rfl, fun v hv => ?_⟩) (by with_reducible assumption) ?_
      rotate_left
      · go_simp
        try with_reducible rfl
      simp only [Act.put, List.setIfInBounds_toArray, List.set_cons_zero, List.set_cons_succ, List.getElem_toArray, List.getElem_cons_zero, List.getElem_cons_succ]
      refine wpAnyH_ready (rs := [10]) (by kernel_rfl) (by simp) ?_
      refine AllReadyH.cons rfl (fun K hK => ?_) AllReadyH.nil
      go_simp
      go_at_call 31
      with_reducible refine (CO _ (by with_reducible assumption)).mono ?_
      rintro e v4 ⟨rfl, hb4⟩
      have hE4 := EnvP.up (by with_reducible assumption) hb4
      dsimp only
      refine hK.out _ _ hE4 (fun hHeld => ?_)
      clear hK K
      try simp only [Act.put, List.setIfInBounds_toArray, List.set_cons_zero, List.set_cons_succ, List.getElem_toArray, List.getElem_cons_zero, List.getElem_cons_succ]
      refine wpAnyH_ready (rs := [11]) (by kernel_rfl) (by simp) ?_
      refine AllReadyH.cons rfl (fun K hK => ?_) AllReadyH.nil
      go_simp
      go_at_call 30
      with_reducible refine (CE _ (by with_reducible assumption)).mono ?_
      rintro e v5 ⟨rfl, hb5⟩
      have hE5 := EnvP.up (by with_reducible assumption) hb5
      dsimp only
      refine hK.out _ _ hE5 (fun hHeld => ?_)
      clear hK K
      try simp only [Act.put, List.setIfInBounds_toArray, List.set_cons_zero, List.set_cons_succ, List.getElem_toArray, List.getElem_cons_zero, List.getElem_cons_succ]
      refine wpAnyH_ready (rs := [14]) (by kernel_rfl) (by simp) ?_
      refine AllReadyH.cons rfl (fun K hK => ?_) AllReadyH.nil
      go_simp
      go_at_call 32
      with_reducible refine (CX _ (by with_reducible assumption)).mono ?_
      rintro e v6 ⟨r, rfl, hr6, hb6⟩
      have hE6 := EnvP.up (by with_reducible assumption) hb6
      dsimp only
      refine hK.out _ _ hE6 (fun hHeld => ?_)
      clear hK K
      try simp only [Act.put, List.setIfInBounds_toArray, List.set_cons_zero, List.set_cons_succ, List.getElem_toArray, List.getElem_cons_zero, List.getElem_cons_succ]
      refine wpAnyH_ready (rs := [15]) (by kernel_rfl) (by simp) ?_
      refine AllReadyH.cons rfl (fun K hK => ?_) AllReadyH.nil
      go_simp
      go_at_call 18
      with_reducible refine (CJ _ _ (by with_reducible assumption)).mono ?_
      rintro e v7 ⟨rfl, hb7⟩
      have hE7 := EnvP.up (by with_reducible assumption) hb7
      dsimp only
      refine hK.out _ _ hE7 (fun hHeld => ?_)
      clear hK K
      try simp only [Act.put, List.setIfInBounds_toArray, List.set_cons_zero, List.set_cons_succ, List.getElem_toArray, List.getElem_cons_zero, List.getElem_cons_succ]
      refine wpAnyH_take (i := 16) (v := ?_) rfl (by kernel_rfl) (by kernel_rfl) (by kernel_rfl) (fun _ _ _ h => h) (Or.inl ⟨by rfl, fun v hv => ?_⟩) (by with_reducible assumption) ?_
      rotate_left
      · go_simp
        try with_reducible rfl
      simp only [Act.put, List.setIfInBounds_toArray, List.set_cons_zero, List.set_cons_succ, List.getElem_toArray, List.getElem_cons_zero, List.getElem_cons_succ]
      refine wpAnyH_take (i := 17) (v := ?_) rfl (by kernel_rfl) (by kernel_rfl) (by kernel_rfl) (fun _ _ _ h => h) (Or.inl ⟨by rfl, fun v hv => ?_⟩) (by with_reducible assumption) ?_
      rotate_left
      · go_simp
        try with_reducible rfl
      simp only [Act.put, List.setIfInBounds_toArray, List.set_cons_zero, List.set_cons_succ, List.getElem_toArray, List.getElem_cons_zero, List.getElem_cons_succ]
      refine wpAnyH_ready (rs := [18, 19]) (by kernel_rfl) (by simp) ?_
      refine AllReadyH.cons rfl (fun K hK => ?_) (AllReadyH.cons rfl (fun K hK => ?_) AllReadyH.nil)
      · go_simp
        go_at_call 33
        with_reducible refine (C1 _).mono ?_
        rintro e v8 ⟨rfl, hb8⟩
        have hE8 := EnvP.up (by with_reducible assumption) hb8
        dsimp only
        refine hK.out _ _ hE8 (fun hHeld => ?_)
        clear hK K
        try simp only [Act.put, List.setIfInBounds_toArray, List.set_cons_zero, List.set_cons_succ, List.getElem_toArray, List.getElem_cons_zero, List.getElem_cons_succ]
        refine wpAnyH_ready (rs := [19]) (by kernel_rfl) (by simp) ?_
        refine AllReadyH.cons rfl (fun K hK => ?_) AllReadyH.nil
        go_simp
        have hd9 := DG1 v8
        have hE9 := EnvP.alloc hE8 (.cells #[.int .u64 1] 22)
        refine hK.out _ _ hE9 (fun hHeld => ?_)
        clear hK K
        try simp only [Act.put, List.setIfInBounds_toArray, List.set_cons_zero, List.set_cons_succ, List.getElem_toArray, List.getElem_cons_zero, List.getElem_cons_succ]
        refine wpAnyH_ready (rs := [20]) (by kernel_rfl) (by simp) ?_
        refine AllReadyH.cons rfl (fun K hK => ?_) AllReadyH.nil
        go_simp
        go_at_call 18
        with_reducible refine (D1 _ _ (by with_reducible assumption)).mono ?_
        rintro e v10 ⟨rfl, hb10⟩
        have hE10 := EnvP.up (by with_reducible assumption) hb10
        dsimp only
        refine hK.out _ _ hE10 (fun hHeld => ?_)
        clear hK K
        try simp only [Act.put, List.setIfInBounds_toArray, List.set_cons_zero, List.set_cons_succ, List.getElem_toArray, List.getElem_cons_zero, List.getElem_cons_succ]
        refine wpAnyH_take (i := 21) (v := ?_) rfl (by kernel_rfl) (by kernel_rfl) (by kernel_rfl) (fun _ _ _ h => h) (Or.inl ⟨by rfl, fun v hv => ?_⟩) (by with_reducible assumption) ?_
        rotate_left
        · go_simp
          try with_reducible rfl
        simp only [Act.put, List.setIfInBounds_toArray, List.set_cons_zero, List.set_cons_succ, List.getElem_toArray, List.getElem_cons_zero, List.getElem_cons_succ]
        refine wpAnyH_take (i := 22) (v := ?_) rfl (by kernel_rfl) (by kernel_rfl) (by kernel_rfl) (fun _ _ _ h => h) (Or.inl ⟨by rfl, fun v hv => ?_⟩) (by with_reducible assumption) ?_
        rotate_left
        · go_simp
          try with_reducible rfl
        simp only [Act.put, List.setIfInBounds_toArray, List.set_cons_zero, List.set_cons_succ, List.getElem_toArray, List.getElem_cons_zero, List.getElem_cons_succ]
        refine wpAnyH_ready (rs := [23, 24]) (by kernel_rfl) (by simp) ?_
        refine AllReadyH.cons rfl (fun K hK => ?_) (AllReadyH.cons rfl (fun K hK => ?_) AllReadyH.nil)
        · go_simp
          go_at_call 34
          with_reducible refine (C4 _).mono ?_
          rintro e v11 ⟨rfl, hb11⟩
          have hE11 := EnvP.up (by with_reducible assumption) hb11
          dsimp only
          refine hK.out _ _ hE11 (fun hHeld => ?_)
          clear hK K
          try simp only [Act.put, List.setIfInBounds_toArray, List.set_cons_zero, List.set_cons_succ, List.getElem_toArray, List.getElem_cons_zero, List.getElem_cons_succ]
          refine wpAnyH_ready (rs := [24]) (by kernel_rfl) (by simp) ?_
          refine AllReadyH.cons rfl (fun K hK => ?_) AllReadyH.nil
          go_simp
          have hd12 := DG4 v11
          have hE12 := EnvP.alloc hE11 (.cells #[.int .u64 4] 22)
          refine hK.out _ _ hE12 (fun hHeld => ?_)
          clear hK K
          try simp only [Act.put, List.setIfInBounds_toArray, List.set_cons_zero, List.set_cons_succ, List.getElem_toArray, List.getElem_cons_zero, List.getElem_cons_succ]
          refine wpAnyH_ready (rs := [25]) (by kernel_rfl) (by simp) ?_
          refine AllReadyH.cons rfl (fun K hK => ?_) AllReadyH.nil
          go_simp
          go_at_call 18
          with_reducible refine (D4 _ _ (by with_reducible assumption)).mono ?_
          rintro e v13 ⟨rfl, hb13⟩
          have hE13 := EnvP.up (by with_reducible assumption) hb13
          dsimp only
          refine hK.out _ _ hE13 (fun hHeld => ?_)
          clear hK K
          try simp only [Act.put, List.setIfInBounds_toArray, List.set_cons_zero, List.set_cons_succ, List.getElem_toArray, List.getElem_cons_zero, List.getElem_cons_succ]
          refine wpAnyH_take (i := 26) (v := ?_) rfl (by kernel_rfl) (by kernel_rfl) (by kernel_rfl) (fun _ _ _ h => h) (Or.inl ⟨by rfl, fun v hv => ?_⟩) (by with_reducible assumption) ?_
          rotate_left
          · go_simp
            try with_reducible rfl
          simp only [Act.put, List.setIfInBounds_toArray, List.set_cons_zero, List.set_cons_succ, List.getElem_toArray, List.getElem_cons_zero, List.getElem_cons_succ]
          refine wpAnyH_take (i := 27) (v := ?_) rfl (by kernel_rfl) (by kernel_rfl) (by kernel_rfl) (fun _ _ _ h => h) (Or.inl ⟨by rfl, fun v hv => ?_⟩) (by with_reducible assumption) ?_
          rotate_left
          · go_simp
            try with_reducible rfl
          simp only [Act.put, List.setIfInBounds_toArray, List.set_cons_zero, List.set_cons_succ, List.getElem_toArray, List.getElem_cons_zero, List.getElem_cons_succ]
          refine wpAnyH_done (by kernel_rfl) ?_ _
          go_wp2_with fail
          go_meet
          exact ⟨rfl, hE13⟩
        · go_simp
          have hd14 := DG4 v10
          have hE14 := EnvP.alloc (v := v10) (by with_reducible assumption) (.cells #[.int .u64 4] 22)
          refine hK.out _ _ hE14 (fun hHeld => ?_)
          clear hK K
          try simp only [Act.put, List.setIfInBounds_toArray, List.set_cons_zero, List.set_cons_succ, List.getElem_toArray, List.getElem_cons_zero, List.getElem_cons_succ]
          refine wpAnyH_ready (rs := [23]) (by kernel_rfl) (by simp) ?_
          refine AllReadyH.cons rfl (fun K hK => ?_) AllReadyH.nil
          go_simp
          go_at_call 34
          with_reducible refine (C4 _).mono ?_
          rintro e v15 ⟨rfl, hb15⟩
          have hE15 := EnvP.up (by with_reducible assumption) hb15
          have hd15 := Dg.up (X := 4) (by with_reducible assumption) hb15
          dsimp only
          refine hK.out _ _ hE15 (fun hHeld => ?_)
          clear hK K
          try simp only [Act.put, List.setIfInBounds_toArray, List.set_cons_zero, List.set_cons_succ, List.getElem_toArray, List.getElem_cons_zero, List.getElem_cons_succ]
          refine wpAnyH_ready (rs := [25]) (by kernel_rfl) (by simp) ?_
          refine AllReadyH.cons rfl (fun K hK => ?_) AllReadyH.nil
          go_simp
          go_at_call 18
          with_reducible refine (D4 _ _ (by with_reducible assumption)).mono ?_
          rintro e v16 ⟨rfl, hb16⟩
          have hE16 := EnvP.up (by with_reducible assumption) hb16
          dsimp only
          refine hK.out _ _ hE16 (fun hHeld => ?_)
          clear hK K
          try simp only [Act.put, List.setIfInBounds_toArray, List.set_cons_zero, List.set_cons_succ, List.getElem_toArray, List.getElem_cons_zero, List.getElem_cons_succ]
          refine wpAnyH_take (i := 26) (v := ?_) rfl (by kernel_rfl) (by kernel_rfl) (by kernel_rfl) (fun _ _ _ h => h) (Or.inl ⟨by rfl, fun v hv => ?_⟩) (by with_reducible assumption) ?_
          rotate_left
          · go_simp
            try with_reducible rfl
          simp only [Act.put, List.setIfInBounds_toArray, List.set_cons_zero, List.set_cons_succ, List.getElem_toArray, List.getElem_cons_zero, List.getElem_cons_succ]
          refine wpAnyH_take (i := 27) (v := ?_) rfl (by kernel_rfl) (by kernel_rfl) (by kernel_rfl) (fun _ _ _ h => h) (Or.inl ⟨by rfl, fun v hv => ?_⟩) (by with_reducible assumption) ?_
          rotate_left
          · go_simp
            try with_reducible rfl
          simp only [Act.put, List.setIfInBounds_toArray, List.set_cons_zero, List.set_cons_succ, List.getElem_toArray, List.getElem_cons_zero, List.getElem_cons_succ]
          refine wpAnyH_done (by kernel_rfl) ?_ _
          go_wp2_with fail
          go_meet
          exact ⟨rfl, hE16⟩
      · go_simp
        have hd17 := DG1 v7
        have hE17 := EnvP.alloc (v := v7) (by with_reducible assumption) (.cells #[.int .u64 1] 22)
        refine hK.out _ _ hE17 (fun hHeld => ?_)
        clear hK K
        try simp only [Act.put, List.setIfInBounds_toArray, List.set_cons_zero, List.set_cons_succ, List.getElem_toArray, List.getElem_cons_zero, List.getElem_cons_succ]
        refine wpAnyH_ready (rs := [18]) (by kernel_rfl) (by simp) ?_
        refine AllReadyH.cons rfl (fun K hK => ?_) AllReadyH.nil
        go_simp
        go_at_call 33
        with_reducible refine (C1 _).mono ?_
        rintro e v18 ⟨rfl, hb18⟩
        have hE18 := EnvP.up (by with_reducible assumption) hb18
        have hd18 := Dg.up (X := 1) (by with_reducible assumption) hb18
        dsimp only
        refine hK.out _ _ hE18 (fun hHeld => ?_)
        clear hK K
        try simp only [Act.put, List.setIfInBounds_toArray, List.set_cons_zero, List.set_cons_succ, List.getElem_toArray, List.getElem_cons_zero, List.getElem_cons_succ]
        refine wpAnyH_ready (rs := [20]) (by kernel_rfl) (by simp) ?_
        refine AllReadyH.cons rfl (fun K hK => ?_) AllReadyH.nil
        go_simp
        go_at_call 18
        with_reducible refine (D1 _ _ (by with_reducible assumption)).mono ?_
        rintro e v19 ⟨rfl, hb19⟩
        have hE19 := EnvP.up (by with_reducible assumption) hb19
        dsimp only
        refine hK.out _ _ hE19 (fun hHeld => ?_)
        clear hK K
        try simp only [Act.put, List.setIfInBounds_toArray, List.set_cons_zero, List.set_cons_succ, List.getElem_toArray, List.getElem_cons_zero, List.getElem_cons_succ]
        refine wpAnyH_take (i := 21) (v := ?_) rfl (by kernel_rfl) (by kernel_rfl) (by kernel_rfl) (fun _ _ _ h => h) (Or.inl ⟨by rfl, fun v hv => ?_⟩) (by with_reducible assumption) ?_
        rotate_left
        · go_simp
          try with_reducible rfl
        simp only [Act.put, List.setIfInBounds_toArray, List.set_cons_zero, List.set_cons_succ, List.getElem_toArray, List.getElem_cons_zero, List.getElem_cons_succ]
        refine wpAnyH_take (i := 22) (v := ?_) rfl (by kernel_rfl) (by kernel_rfl) (by kernel_rfl) (fun _ _ _ h => h) (Or.inl ⟨by rfl, fun v hv => ?_⟩) (by with_reducible assumption) ?_
        rotate_left
        · go_simp
          try with_reducible rfl
        simp only [Act.put, List.setIfInBounds_toArray, List.set_cons_zero, List.set_cons_succ, List.getElem_toArray, List.getElem_cons_zero, List.getElem_cons_succ]
        refine wpAnyH_ready (rs := [23, 24]) (by kernel_rfl) (by simp) ?_
        refine AllReadyH.cons rfl (fun K hK => ?_) (AllReadyH.cons rfl (fun K hK => ?_) AllReadyH.nil)
        · go_simp
          go_at_call 34
          with_reducible refine (C4 _).mono ?_
          rintro e v20 ⟨rfl, hb20⟩
          have hE20 := EnvP.up (by with_reducible assumption) hb20
          dsimp only
          refine hK.out _ _ hE20 (fun hHeld => ?_)
          clear hK K
          try simp only [Act.put, List.setIfInBounds_toArray, List.set_cons_zero, List.set_cons_succ, List.getElem_toArray, List.getElem_cons_zero, List.getElem_cons_succ]
          refine wpAnyH_ready (rs := [24]) (by kernel_rfl) (by simp) ?_
          refine AllReadyH.cons rfl (fun K hK => ?_) AllReadyH.nil
          go_simp
          have hd21 := DG4 v20
          have hE21 := EnvP.alloc hE20 (.cells #[.int .u64 4] 22)
          refine hK.out _ _ hE21 (fun hHeld => ?_)
          clear hK K
          try simp only [Act.put, List.setIfInBounds_toArray, List.set_cons_zero, List.set_cons_succ, List.getElem_toArray, List.getElem_cons_zero, List.getElem_cons_succ]
          refine wpAnyH_ready (rs := [25]) (by kernel_rfl) (by simp) ?_
          refine AllReadyH.cons rfl (fun K hK => ?_) AllReadyH.nil
          go_simp
          go_at_call 18
          with_reducible refine (D4 _ _ (by with_reducible assumption)).mono ?_
          rintro e v22 ⟨rfl, hb22⟩
          have hE22 := EnvP.up (by with_reducible assumption) hb22
          dsimp only
          refine hK.out _ _ hE22 (fun hHeld => ?_)
          clear hK K
          try simp only [Act.put, List.setIfInBounds_toArray, List.set_cons_zero, List.set_cons_succ, List.getElem_toArray, List.getElem_cons_zero, List.getElem_cons_succ]
          refine wpAnyH_take (i := 26) (v := ?_) rfl (by kernel_rfl) (by kernel_rfl) (by kernel_rfl) (fun _ _ _ h => h) (Or.inl ⟨by rfl, fun v hv => ?_⟩) (by with_reducible assumption) ?_
          rotate_left
          · go_simp
            try with_reducible rfl
          simp only [Act.put, List.setIfInBounds_toArray, List.set_cons_zero, List.set_cons_succ, List.getElem_toArray, List.getElem_cons_zero, List.getElem_cons_succ]
          refine wpAnyH_take (i := 27) (v := ?_) rfl (by kernel_rfl) (by kernel_rfl) (by kernel_rfl) (fun _ _ _ h => h) (Or.inl ⟨by rfl, fun v hv => ?_⟩) (by with_reducible assumption) ?_
          rotate_left
          · go_simp
            try with_reducible rfl
          simp only [Act.put, List.setIfInBounds_toArray, List.set_cons_zero, List.set_cons_succ, List.getElem_toArray, List.getElem_cons_zero, List.getElem_cons_succ]
          refine wpAnyH_done (by kernel_rfl) ?_ _
          go_wp2_with fail
          go_meet
          exact ⟨rfl, hE22⟩
        · go_simp
          have hd23 := DG4 v19
          have hE23 := EnvP.alloc (v := v19) (by with_reducible assumption) (.cells #[.int .u64 4] 22)
          refine hK.out _ _ hE23 (fun hHeld => ?_)
          clear hK K
          try simp only [Act.put, List.setIfInBounds_toArray, List.set_cons_zero, List.set_cons_succ, List.getElem_toArray, List.getElem_cons_zero, List.getElem_cons_succ]
          refine wpAnyH_ready (rs := [23]) (by kernel_rfl) (by simp) ?_
          refine AllReadyH.cons rfl (fun K hK => ?_) AllReadyH.nil
          go_simp
          go_at_call 34
          with_reducible refine (C4 _).mono ?_
          rintro e v24 ⟨rfl, hb24⟩
          have hE24 := EnvP.up (by with_reducible assumption) hb24
          have hd24 := Dg.up (X := 4) (by with_reducible assumption) hb24
          dsimp only
          refine hK.out _ _ hE24 (fun hHeld => ?_)
          clear hK K
          try simp only [Act.put, List.setIfInBounds_toArray, List.set_cons_zero, List.set_cons_succ, List.getElem_toArray, List.getElem_cons_zero, List.getElem_cons_succ]
          refine wpAnyH_ready (rs := [25]) (by kernel_rfl) (by simp) ?_
          refine AllReadyH.cons rfl (fun K hK => ?_) AllReadyH.nil
          go_simp
          go_at_call 18
          with_reducible refine (D4 _ _ (by with_reducible assumption)).mono ?_
          rintro e v25 ⟨rfl, hb25⟩
          have hE25 := EnvP.up (by with_reducible assumption) hb25
          dsimp only
          refine hK.out _ _ hE25 (fun hHeld => ?_)
          clear hK K
          try simp only [Act.put, List.setIfInBounds_toArray, List.set_cons_zero, List.set_cons_succ, List.getElem_toArray, List.getElem_cons_zero, List.getElem_cons_succ]
          refine wpAnyH_take (i := 26) (v := ?_) rfl (by kernel_rfl) (by kernel_rfl) (by kernel_rfl) (fun _ _ _ h => h) (Or.inl ⟨by rfl, fun v hv => ?_⟩) (by with_reducible assumption) ?_
          rotate_left
          · go_simp
            try with_reducible rfl
          simp only [Act.put, List.setIfInBounds_toArray, List.set_cons_zero, List.set_cons_succ, List.getElem_toArray, List.getElem_cons_zero, List.getElem_cons_succ]
          refine wpAnyH_take (i := 27) (v := ?_) rfl (by kernel_rfl) (by kernel_rfl) (by kernel_rfl) (fun _ _ _ h => h) (Or.inl ⟨by rfl, fun v hv => ?_⟩) (by with_reducible assumption) ?_
          rotate_left
          · go_simp
            try with_reducible rfl
          simp only [Act.put, List.setIfInBounds_toArray, List.set_cons_zero, List.set_cons_succ, List.getElem_toArray, List.getElem_cons_zero, List.getElem_cons_succ]
          refine wpAnyH_done (by kernel_rfl) ?_ _
          go_wp2_with fail
          go_meet
          exact ⟨rfl, hE25⟩
    case rest =>
      obtain ⟨rfl, hE⟩ := hcut
      go_wp2
      go_ret
      exact ⟨rfl, hE.b⟩
end Go.Proofs.YtfonpmahcdmajaaDoor
