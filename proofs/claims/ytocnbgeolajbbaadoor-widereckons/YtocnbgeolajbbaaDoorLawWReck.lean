/-
  avouchlaw04.WideReckons: the walk.
-/
import Derived.Test.YtocnbgeolajbbaaDoorWidT
import Derived.Deep.RegionHeld3
import Derived.Deep.CutBlock
import Derived.Deep.DeepCutAuto
namespace Go.Proofs.YtocnbgeolajbbaaDoor
open Go.RowKit
set_option linter.unusedVariables false

/-- What is kept: two numbers in memory, and a ring. -/
structure EnvK (w : World) (bx b_y br X Y M : Nat) (v : World) : Prop where
  x : BlkW v bx 28 (ds X)
  y : BlkW v b_y 28 (ds Y)
  r : RingP v br M
  b : Below w.heap.size w v
theorem EnvK.up {w : World} {bx b_y br X Y M : Nat} {v v' : World} (h : EnvK w bx b_y br X Y M v) (hb : Below v.heap.size v v') : EnvK w bx b_y br X Y M v' :=
  ⟨h.x.below hb h.x.size, h.y.below hb h.y.size, h.r.up hb, bchain h.b hb⟩
theorem EnvK.drew {w : World} {bx b_y br X Y M : Nat} {v : World} (h : EnvK w bx b_y br X Y M v) : EnvK w bx b_y br X Y M v.drew := h.up (Below.refl _ _).drew
theorem boxes2 (w : World) (X Y : Nat) :
    BlkW ((w.alloc (o12 28 X)).alloc (o12 28 Y)) w.heap.size 28 (ds X) ∧
    BlkW ((w.alloc (o12 28 X)).alloc (o12 28 Y)) (w.heap.size + 1) 28 (ds Y) ∧
    Below w.heap.size w ((w.alloc (o12 28 X)).alloc (o12 28 Y)) := by
  have e1 : (w.alloc (o12 28 X)).heap.size = w.heap.size + 1 := by simp
  have h2 := o12_new (w.alloc (o12 28 X)) 28 Y
  rw [e1] at h2
  exact ⟨(o12_new w 28 X).alloc _, h2, ((Below.refl _ _).alloc (Nat.le_refl _) _).alloc (by omega) _⟩
theorem T_big {X : Nat} (h : X < W12) (k : Nat) (hk : k ≤ 1000) : X * k < 4294967296 ^ bigE := by
  have h1 : X * k ≤ W12 * 1000 := Nat.mul_le_mul (Nat.le_of_lt h) hk
  have h2 : W12 * 1000 < 4294967296 ^ 26 := by decide
  have h3 : 4294967296 ^ 26 ≤ 4294967296 ^ bigE := Nat.pow_le_pow_right (by decide) (by decide)
  omega
theorem sum_big {X Y : Nat} (h : X < W12) (h' : Y < W12) : X + Y < 4294967296 ^ bigE := by
  have h2 : W12 + W12 < 4294967296 ^ 26 := by decide
  have h3 : 4294967296 ^ 26 ≤ 4294967296 ^ bigE := Nat.pow_le_pow_right (by decide) (by decide)
  omega
theorem mul_big {X Y : Nat} (h : X < W12) (h' : Y < W12) : X * Y < 4294967296 ^ bigE := by
  have h1 : X * Y ≤ W12 * W12 := Nat.mul_le_mul (Nat.le_of_lt h) (Nat.le_of_lt h')
  have h2 : W12 * W12 < 4294967296 ^ 50 := by decide
  have h3 : 4294967296 ^ 50 ≤ 4294967296 ^ bigE := Nat.pow_le_pow_right (by decide) (by decide)
  omega
theorem mod_lt12 (g : Bool) (X : Nat) : X % mOf g < W12 := Nat.lt_trans (Nat.mod_lt _ (mOf_pos g)) (mOf_lt g)
theorem ref_add {g : Bool} {X Y : Nat} (hX : X < W12) (hY : Y < W12) : mAdd g X Y = (X % mOf g + Y % mOf g) % mOf g := by
  unfold mAdd
  rw [Nat.mod_eq_of_lt hX, Nat.mod_eq_of_lt hY, Nat.add_mod]
theorem ref_mul {g : Bool} {X Y : Nat} (hX : X < W12) (hY : Y < W12) : mMul g X Y = (X % mOf g) * (Y % mOf g) % mOf g := by
  unfold mMul
  rw [Nat.mod_eq_of_lt hX, Nat.mod_eq_of_lt hY, Nat.mul_mod]
theorem ref_sub {g : Bool} {X Y : Nat} (hX : X < W12) (hY : Y < W12) : mSub g X Y = (X % mOf g + mOf g - Y % mOf g) % mOf g := by
  unfold mSub
  rw [Nat.mod_eq_of_lt hX, Nat.mod_eq_of_lt hY]

set_option maxRecDepth 100000 in
set_option maxHeartbeats 8000000 in
theorem wideReckons_w (g : Bool) (X Y : Nat) (w : World) (hX : X < W12) (hY : Y < W12) (hG : GlobW w) :
    Calls Tryd.prog 4 #[.bool g, num X, num Y] w fun e w' => e = .returned (.bool true) ∧ Below w.heap.size w w' := by
  have hlX := dsc_len X
  have hlY := dsc_len Y
  obtain ⟨a1, a2, a4⟩ := boxes2 w X Y
  have hG0 := hG.up a4
  have A := hid (And.intro a1 (And.intro a2 a4))
  have HX := hid hX
  have HY := hid hY
  clear a1 a2 a4 hX hY hG
  unfold num
  go_enter Tryd.func4, Tryd.ntmps4
  go_wp2_with fail
  change Calls _ _ _ ((w.alloc (o12 28 X)).alloc (o12 28 Y)) _
  generalize (w.alloc (o12 28 X)).alloc (o12 28 Y) = w0 at *
  clear hlX hlY
  refine (speaks4_c w0 hG0).mono ?_
  rintro e w1 ⟨rfl, b1⟩
  go_wp2_with fail
  refine (ring_c g w1 (hG0.up b1)).mono ?_
  rintro e w2 ⟨br, rfl, hr, b2⟩
  have b02 := bchain b1 b2
  have E2 : EnvK w w.heap.size (w.heap.size + 1) br X Y (mOf g) w2 := by
    obtain ⟨a1, a2, a4⟩ := A.out
    exact ⟨a1.below b02 a1.size, a2.below b02 a2.size, hr, bchain a4 b02⟩
  clear A b1 b2 b02 hr hG0
  go_wp2_with fail
  generalize w.heap.size + 1 = b_y at *
  generalize hbx : w.heap.size = bx at *
  have E3 := E2.drew
  clear E2
  go_cut [8, 9] (fun s t wx => Dg wx s (X % mOf g) ∧ Dg wx t (Y % mOf g) ∧ EnvK w bx b_y br X Y (mOf g) wx)
  case first =>
    obtain ⟨n12, hn12⟩ : ∃ n : Nat, n = 12 := ⟨_, rfl⟩
    have L1 : ∀ v, EnvK w bx b_y br X Y (mOf g) v → (loadCellsFrom ⟨bx, 0, none⟩ 0 n12 #[]).run Tryd.prog v = .ok (cellsOf64 (ds X)).toArray v := fun v h => by rw [hn12]; exact cells_num h.x
    have L2 : ∀ v, EnvK w bx b_y br X Y (mOf g) v → (loadCellsFrom ⟨b_y, 0, none⟩ 0 n12 #[]).run Tryd.prog v = .ok (cellsOf64 (ds Y)).toArray v := fun v h => by rw [hn12]; exact cells_num h.y
    have CX : ∀ (v : World), Calls Tryd.prog 20 #[.agg (cellsOf64 (ds X)).toArray] v fun e w' => ∃ r, e = .returned r ∧ Dg w' r X ∧ Below v.heap.size v w' := fun v => digitsW_c X v HX.out
    have CY : ∀ (v : World), Calls Tryd.prog 20 #[.agg (cellsOf64 (ds Y)).toArray] v fun e w' => ∃ r, e = .returned r ∧ Dg w' r Y ∧ Below v.heap.size v w' := fun v => digitsW_c Y v HY.out
    have CM : ∀ (Z : Nat) (u : Value) (v : World), Dg v u Z → Calls Tryd.prog 18 #[.bool g, u] v fun e w' => ∃ r, e = .returned r ∧ Dg w' r (Z % mOf g) ∧ Below v.heap.size v w' := fun Z u v h => refMod_c g u Z v h
    have G1 := agg_num
    have G2 : ∀ v, (sizeOf 28).run Tryd.prog v = .ok n12 v := by rw [hn12]; exact size_num
    clear hn12
    have N1 := Tryd.call20
    have N2 := Tryd.call18
    generalize Tryd.prog = P at CX CY CM L1 L2 G1 G2 N1 N2 ⊢
    go_region_held3 (fun w' => EnvK w bx b_y br X Y (mOf g) w') (with_reducible assumption) (first
      | (go_at_call 20; with_reducible refine (CX _).mono ?_; rintro e v ⟨r, rfl, hr, hb⟩; have hE := EnvK.up (by with_reducible assumption) hb; dsimp only)
      | (go_at_call 20; with_reducible refine (CY _).mono ?_; rintro e v ⟨r, rfl, hr, hb⟩; have hE := EnvK.up (by with_reducible assumption) hb; have hD := Dg.up (X := X % mOf g) (by with_reducible assumption) hb; dsimp only)
      | (go_at_call 18; with_reducible refine (CM X _ _ (by with_reducible assumption)).mono ?_; rintro e v ⟨r, rfl, hr, hb⟩; have hE := EnvK.up (by with_reducible assumption) hb; dsimp only)
      | (go_at_call 18; with_reducible refine (CM Y _ _ (by with_reducible assumption)).mono ?_; rintro e v ⟨r, rfl, hr, hb⟩; have hE := EnvK.up (by with_reducible assumption) hb; have hD := Dg.up (X := X % mOf g) (by with_reducible assumption) hb; dsimp only))
    go_wp2_with fail
    go_meet
    exact ⟨hD, hr, hE⟩
  case rest =>
    obtain ⟨hdx, hdy, hE⟩ := hcut
    clear E3
    have HDX0 := hid hdx
    have HDY0 := hid hdy
    have HE0 := hid hE
    have F1 : ∀ v, (binOp .neq 28 (num (mAdd g X Y)) (num (mAdd g X Y))).run Tryd.prog v = .ok (.bool false) v := neq_num _ _ rfl
    have F2 : ∀ v, (binOp .neq 28 (num (mSub g X Y)) (num (mSub g X Y))).run Tryd.prog v = .ok (.bool false) v := neq_num _ _ rfl
    have F3 : ∀ v, (binOp .eql 28 (num (mMul g X Y)) (num (mMul g X Y))).run Tryd.prog v = .ok (.bool true) v := eql_num _ _ rfl
    have F4 := eqg_neq
    have F5 := eqg_eql
    have HIX := hid (sizeNb.trans (congrArg some (dsc_len X).symm))
    have HIY := hid (sizeNb.trans (congrArg some (dsc_len Y).symm))
    clear hdx hdy hE
    obtain ⟨v0, hv0⟩ : ∃ v, v = wc := ⟨_, rfl⟩
    rw [← hv0] at HDX0 HDY0 HE0 ⊢
    clear hv0
    have OX0 := hid HE0.out.x.range
    have OY0 := hid HE0.out.y.range
    go_wp2_with (first
      | with_reducible refine wpList_load_mid rfl 28 (.tmp 4) rfl bx 0 rfl (cellsOf64 (ds X)) _ OX0.out Tryd.underlying28 rfl HIX.out ?_
      | with_reducible refine wpList_load_mid rfl 28 (.tmp 5) rfl b_y 0 rfl (cellsOf64 (ds Y)) _ OY0.out Tryd.underlying28 rfl HIY.out ?_)
    refine (wAdd_c br X Y g v0 HE0.out.r).mono ?_
    rintro e v1 ⟨rfl, b1⟩
    have HE1 := hid (HE0.out.up b1)
    have HDX1 := hid (HDX0.out.up b1)
    have HDY1 := hid (HDY0.out.up b1)
    clear b1
    go_wp2_with fail
    refine (gAdd_c u8 u9 _ _ v1 HDX1.out HDY1.out (sum_big (mod_lt12 g X) (mod_lt12 g Y))).mono ?_
    rintro e v2 ⟨r1, rfl, h1, b2⟩
    have HE2 := hid (HE1.out.up b2)
    have HDX2 := hid (HDX1.out.up b2)
    have HDY2 := hid (HDY1.out.up b2)
    have H1 := hid h1
    clear h1
    clear b2
    go_wp2_with fail
    refine (refMod_c g r1 _ v2 H1.out).mono ?_
    rintro e v3 ⟨r2, rfl, h2, b3⟩
    have HE3 := hid (HE2.out.up b3)
    have HDX3 := hid (HDX2.out.up b3)
    have HDY3 := hid (HDY2.out.up b3)
    rw [← ref_add HX.out HY.out] at h2
    have H2 := hid h2
    clear h2
    clear b3
    go_wp2_with fail
    refine (ofW_c r2 _ v3 H2.out).mono ?_
    rintro e v4 ⟨rfl, b4⟩
    have HE4 := hid (HE3.out.up b4)
    have HDX4 := hid (HDX3.out.up b4)
    have HDY4 := hid (HDY3.out.up b4)
    clear b4
    have OX4 := hid HE4.out.x.range
    have OY4 := hid HE4.out.y.range
    go_wp2_with (first
      | refine wpList_load_g (by rfl) 28 (.tmp 4) rfl bx 0 rfl (cellsOf64 (ds X)) _ OX4.out Tryd.underlying28 rfl HIX.out ?_
      | refine wpList_load_g (by rfl) 28 (.tmp 5) rfl b_y 0 rfl (cellsOf64 (ds Y)) _ OY4.out Tryd.underlying28 rfl HIY.out ?_)
    refine (wSub_c br X Y g v4 HE4.out.r).mono ?_
    rintro e v5 ⟨rfl, b5⟩
    have HE5 := hid (HE4.out.up b5)
    have HDX5 := hid (HDX4.out.up b5)
    have HDY5 := hid (HDY4.out.up b5)
    clear b5
    go_wp2_with fail
    refine (refSize_c g v5).mono ?_
    rintro e v6 ⟨r3, rfl, h3, b6⟩
    have HE6 := hid (HE5.out.up b6)
    have HDX6 := hid (HDX5.out.up b6)
    have HDY6 := hid (HDY5.out.up b6)
    have H3 := hid h3
    clear h3
    clear b6
    go_wp2_with fail
    refine (gAdd_c u8 r3 _ _ v6 HDX6.out H3.out (sum_big (mod_lt12 g X) (mOf_lt g))).mono ?_
    rintro e v7 ⟨r4, rfl, h4, b7⟩
    have HE7 := hid (HE6.out.up b7)
    have HDX7 := hid (HDX6.out.up b7)
    have HDY7 := hid (HDY6.out.up b7)
    have H4 := hid h4
    clear h4
    clear b7
    go_wp2_with fail
    refine (gSub_c r4 u9 _ _ v7 H4.out HDY7.out (by have := Nat.mod_lt Y (mOf_pos g); omega)).mono ?_
    rintro e v8 ⟨r5, rfl, h5, b8⟩
    have HE8 := hid (HE7.out.up b8)
    have HDX8 := hid (HDX7.out.up b8)
    have HDY8 := hid (HDY7.out.up b8)
    have H5 := hid h5
    clear h5
    clear b8
    go_wp2_with fail
    refine (refMod_c g r5 _ v8 H5.out).mono ?_
    rintro e v9 ⟨r6, rfl, h6, b9⟩
    have HE9 := hid (HE8.out.up b9)
    have HDX9 := hid (HDX8.out.up b9)
    have HDY9 := hid (HDY8.out.up b9)
    rw [← ref_sub HX.out HY.out] at h6
    have H6 := hid h6
    clear h6
    clear b9
    go_wp2_with fail
    refine (ofW_c r6 _ v9 H6.out).mono ?_
    rintro e v10 ⟨rfl, b10⟩
    have HE10 := hid (HE9.out.up b10)
    have HDX10 := hid (HDX9.out.up b10)
    have HDY10 := hid (HDY9.out.up b10)
    clear b10
    have OX10 := hid HE10.out.x.range
    have OY10 := hid HE10.out.y.range
    go_wp2_with (first
      | with_reducible refine wpList_load_mid rfl 28 (.tmp 4) rfl bx 0 rfl (cellsOf64 (ds X)) _ OX10.out Tryd.underlying28 rfl HIX.out ?_
      | with_reducible refine wpList_load_mid rfl 28 (.tmp 5) rfl b_y 0 rfl (cellsOf64 (ds Y)) _ OY10.out Tryd.underlying28 rfl HIY.out ?_)
    refine (wMul_c br X Y g v10 HE10.out.r).mono ?_
    rintro e v11 ⟨rfl, b11⟩
    have HE11 := hid (HE10.out.up b11)
    have HDX11 := hid (HDX10.out.up b11)
    have HDY11 := hid (HDY10.out.up b11)
    clear b11
    go_wp2_with fail
    refine (gMul_c u8 u9 _ _ v11 HDX11.out HDY11.out (mul_big (mod_lt12 g X) (mod_lt12 g Y))).mono ?_
    rintro e v12 ⟨r7, rfl, h7, b12⟩
    have HE12 := hid (HE11.out.up b12)
    have HDX12 := hid (HDX11.out.up b12)
    have HDY12 := hid (HDY11.out.up b12)
    have H7 := hid h7
    clear h7
    clear b12
    go_wp2_with fail
    refine (refMod_c g r7 _ v12 H7.out).mono ?_
    rintro e v13 ⟨r8, rfl, h8, b13⟩
    have HE13 := hid (HE12.out.up b13)
    have HDX13 := hid (HDX12.out.up b13)
    have HDY13 := hid (HDY12.out.up b13)
    rw [← ref_mul HX.out HY.out] at h8
    have H8 := hid h8
    clear h8
    clear b13
    go_wp2_with fail
    refine (ofW_c r8 _ v13 H8.out).mono ?_
    rintro e v14 ⟨rfl, b14⟩
    have HE14 := hid (HE13.out.up b14)
    have HDX14 := hid (HDX13.out.up b14)
    have HDY14 := hid (HDY13.out.up b14)
    clear b14
    go_wp2
    go_ret
    exact ⟨rfl, HE14.out.b⟩
end Go.Proofs.YtocnbgeolajbbaaDoor
