/-
  avouchlaw02.FieldReckons returns true, whatever it is given, and turns nothing that was there.
-/
import Derived.Test.YtjkellpfoogomaaDoorRef2H
import Derived.Test.YtjkellpfoogomaaDoorFldJ
import Derived.Test.YtjkellpfoogomaaDoorFLaw0
import Derived.Deep.RegionHeld3
import Derived.Deep.CutBlock
import Derived.Deep.DeepCutAuto
namespace Go.Proofs.YtjkellpfoogomaaDoor
open Go.RowKit
set_option linter.unusedVariables false

structure EnvY (w0 : World) (bx b_y : Nat) (x0 x1 x2 x3 y0 y1 y2 y3 : Int) (vd ve : Value) (X Y : Nat) (w : World) : Prop where
  g : Glob w
  x : B4 w bx x0 x1 x2 x3
  y : B4 w b_y y0 y1 y2 y3
  d : Dg w vd X
  e : Dg w ve Y
  b : Below w0.heap.size w0 w
theorem EnvY.up {w0 : World} {bx b_y : Nat} {x0 x1 x2 x3 y0 y1 y2 y3 : Int} {vd ve : Value} {X Y : Nat} {w w' : World} (h : EnvY w0 bx b_y x0 x1 x2 x3 y0 y1 y2 y3 vd ve X Y w) (hb : Below w.heap.size w w') : EnvY w0 bx b_y x0 x1 x2 x3 y0 y1 y2 y3 vd ve X Y w' :=
  ⟨h.g.up hb, h.x.below hb h.x.size, h.y.below hb h.y.size, h.d.up hb, h.e.up hb, h.b.trans (hb.mono h.b.size)⟩
theorem EnvY.cells {w0 : World} {bx b_y : Nat} {x0 x1 x2 x3 y0 y1 y2 y3 : Int} {vd ve : Value} {X Y : Nat} {w : World} (h : EnvY w0 bx b_y x0 x1 x2 x3 y0 y1 y2 y3 vd ve X Y w) :
    w.cell? ⟨bx, 0, none⟩ = some (.int .u64 x0) ∧ w.cell? ⟨bx, 1, none⟩ = some (.int .u64 x1) ∧ w.cell? ⟨bx, 2, none⟩ = some (.int .u64 x2) ∧ w.cell? ⟨bx, 3, none⟩ = some (.int .u64 x3) ∧
    w.cell? ⟨b_y, 0, none⟩ = some (.int .u64 y0) ∧ w.cell? ⟨b_y, 1, none⟩ = some (.int .u64 y1) ∧ w.cell? ⟨b_y, 2, none⟩ = some (.int .u64 y2) ∧ w.cell? ⟨b_y, 3, none⟩ = some (.int .u64 y3) :=
  ⟨h.x.c0, h.x.c1, h.x.c2, h.x.c3, h.y.c0, h.y.c1, h.y.c2, h.y.c3⟩
theorem mod_smallY (a : Nat) : a % pN < 115792089237316195423570985008687907853269984665640564039457584007913129639936 := Nat.lt_trans (Nat.mod_lt _ (by decide)) (by decide)
theorem val40 (l : List Nat) (n : Nat) (h : allLt8 l) (hl : l.length = n) (hn : n ≤ 40) : val 256 l < 4294967296 ^ 30 := by
  have h1 := val_lt 256 (by decide) l h
  rw [hl] at h1
  refine Nat.lt_of_lt_of_le h1 ?_
  rw [show (4294967296 : Nat) = 256 ^ 4 by decide, ← Nat.pow_mul]
  exact Nat.pow_le_pow_right (by decide) (by omega)

theorem sum3_c (x0 x1 x2 x3 y0 y1 y2 y3 : Int) (X Y : Nat) (u : World) (ex : El (.agg #[.int .u64 x0, .int .u64 x1, .int .u64 x2, .int .u64 x3]) X) (ey : El (.agg #[.int .u64 y0, .int .u64 y1, .int .u64 y2, .int .u64 y3]) Y) (hG : Glob u) :
    Calls Tryd.prog 32 #[.slice (some ⟨u.heap.size, 0, none⟩) 3 3] (u.alloc (.cells #[.int .u64 x0, .int .u64 x1, .int .u64 x2, .int .u64 x3, .int .u64 y0, .int .u64 y1, .int .u64 y2, .int .u64 y3, .int .u64 x0, .int .u64 x1, .int .u64 x2, .int .u64 x3] 27))
      fun e w' => ∃ r, e = .returned r ∧ El r (((X + Y) % pN + X) % pN) ∧ Below u.heap.size u w' := by
  have b1 : Below u.heap.size u (u.alloc (.cells #[.int .u64 x0, .int .u64 x1, .int .u64 x2, .int .u64 x3, .int .u64 y0, .int .u64 y1, .int .u64 y2, .int .u64 y3, .int .u64 x0, .int .u64 x1, .int .u64 x2, .int .u64 x3] 27)) := (Below.refl _ _).alloc (Nat.le_refl _) _
  have hr : RdE (u.alloc (.cells #[.int .u64 x0, .int .u64 x1, .int .u64 x2, .int .u64 x3, .int .u64 y0, .int .u64 y1, .int .u64 y2, .int .u64 y3, .int .u64 x0, .int .u64 x1, .int .u64 x2, .int .u64 x3] 27)) (u.alloc (.cells #[.int .u64 x0, .int .u64 x1, .int .u64 x2, .int .u64 x3, .int .u64 y0, .int .u64 y1, .int .u64 y2, .int .u64 y3, .int .u64 x0, .int .u64 x1, .int .u64 x2, .int .u64 x3] 27)).heap.size (some ⟨u.heap.size, 0, none⟩) 3 [X, Y, X] := by
    refine ⟨rfl, fun _ => ⟨u.heap.size, 0, rfl, by simp, fun i hi => ?_⟩⟩
    have : i = 0 ∨ i = 1 ∨ i = 2 := by omega
    rcases this with rfl | rfl | rfl
    · exact ⟨x0, x1, x2, x3, ex, by simp, by simp, by simp, by simp⟩
    · exact ⟨y0, y1, y2, y3, ey, by simp, by simp, by simp, by simp⟩
    · exact ⟨x0, x1, x2, x3, ex, by simp, by simp, by simp, by simp⟩
  refine (sumE_c _ 3 3 [X, Y, X] _ hr (by decide) (hG.up b1)).mono ?_
  rintro e w' ⟨r, rfl, h, b2⟩
  refine ⟨r, rfl, ?_, bchain b1 b2⟩
  rw [Nat.mod_add_mod]
  simpa [psum] using h

set_option maxRecDepth 100000 in
set_option maxHeartbeats 16000000 in
theorem fieldReckons_w (A0 A1 : Option Addr) (n0 n1 c0 c1 : Nat) (l0 l1 : List Nat) (w : World) (r0 : Rd8 w w.heap.size A0 n0 l0) (r1 : Rd8 w w.heap.size A1 n1 l1) (hG : Glob w) :
    Calls Tryd.prog 4 #[.slice A0 n0 c0, .slice A1 n1 c1] w fun e w' => e = .returned (.bool true) ∧ Below w.heap.size w w' := by
  by_cases g0 : 40 < n0
  · have d0 : decide ((40 : Int) < (n0 : Int)) = true := by simp; omega
    go_enter Tryd.func4, Tryd.ntmps4
    go_wp2_with fail
    refine (speaks2_c w hG).mono ?_
    rintro e w1 ⟨rfl, b1⟩
    go_wp2_with fail
    refine (speaks2_c w1 (hG.up b1)).mono ?_
    rintro e w2 ⟨rfl, b2⟩
    go_wp2
    go_ret
    exact ⟨rfl, bchain b1 b2⟩
  have d0 : decide ((40 : Int) < (n0 : Int)) = false := by simp; omega
  by_cases g1 : 40 < n1
  · have d1 : decide ((40 : Int) < (n1 : Int)) = true := by simp; omega
    go_enter Tryd.func4, Tryd.ntmps4
    go_wp2_with fail
    refine (speaks2_c w hG).mono ?_
    rintro e w1 ⟨rfl, b1⟩
    go_wp2_with fail
    refine (speaks2_c w1 (hG.up b1)).mono ?_
    rintro e w2 ⟨rfl, b2⟩
    go_wp2
    go_ret
    exact ⟨rfl, bchain b1 b2⟩
  have d1 : decide ((40 : Int) < (n1 : Int)) = false := by simp; omega
  have HB0 := hid (val40 l0 n0 r0.lt r0.len (by omega))
  have HB1 := hid (val40 l1 n1 r1.lt r1.len (by omega))
  go_enter Tryd.func4, Tryd.ntmps4
  go_wp2_with fail
  refine (speaks2_c w hG).mono ?_
  rintro e w1 ⟨rfl, b1⟩
  go_wp2_with fail
  refine (fromWide_c A0 n0 c0 l0 w1 (r0.up b1 (Nat.le_refl _)) (by omega) (hG.up b1)).mono ?_
  rintro e w2 ⟨vx, rfl, hx, b2⟩
  have b12 := bchain b1 b2
  go_wp2_with fail
  refine (fromWide_c A1 n1 c1 l1 w2 (r1.up b12 (Nat.le_refl _)) (by omega) (hG.up b12)).mono ?_
  rintro e w3 ⟨vy, rfl, hy, b3⟩
  have b13 := bchain b12 b3
  have hxx := hid hx
  have hyy := hid hy
  obtain ⟨x0, x1, x2, x3, rfl, -, -, -⟩ := hx
  obtain ⟨y0, y1, y2, y3, rfl, -, -, -⟩ := hy
  have b4 := (b13.alloc b13.size (o4 27 x0 x1 x2 x3)).alloc (by simp; have := b13.size; omega) (o4 27 y0 y1 y2 y3)
  have hX4 := (o4_new w3 27 x0 x1 x2 x3).alloc (o4 27 y0 y1 y2 y3)
  have hY4 := o4_new (w3.alloc (o4 27 x0 x1 x2 x3)) 27 y0 y1 y2 y3
  rw [show (w3.alloc (o4 27 x0 x1 x2 x3)).heap.size = w3.heap.size + 1 by simp] at hY4
  have K4 := hid (And.intro hX4 (And.intro hY4 b4))
  clear hX4 hY4 b1 b2 b3 b4 b12 b13
  unfold o4 Go.Proofs.YtjkellpfoogomaaDoor.w4 at *
  go_wp2_with fail
  generalize (w3.alloc (.cells #[.int .u64 x0, .int .u64 x1, .int .u64 x2, .int .u64 x3] 27)).alloc (.cells #[.int .u64 y0, .int .u64 y1, .int .u64 y2, .int .u64 y3] 27) = w4' at K4 ⊢
  generalize w3.heap.size + 1 = b_y at K4 ⊢
  generalize w3.heap.size = bx at K4 ⊢
  obtain ⟨kx, ky, kb⟩ := K4.out
  refine (dOfBytes_c A0 n0 c0 l0 w4' (r0.up kb (Nat.le_refl _)) (by omega)).mono ?_
  rintro e w5 ⟨vo, rfl, ho, b5⟩
  go_wp2_with fail
  refine (dMod_c vo _ _ ho HB0.out).mono ?_
  rintro e w6 ⟨vd, rfl, hd, b6⟩
  have b56 := bchain b5 b6
  have kb6 := kb.trans (b56.mono kb.size)
  go_wp2_with fail
  refine (dOfBytes_c A1 n1 c1 l1 w6 (r1.up kb6 (Nat.le_refl _)) (by omega)).mono ?_
  rintro e w7 ⟨vo1, rfl, ho1, b7⟩
  have b57 := bchain b56 b7
  go_wp2_with fail
  refine (dMod_c vo1 _ _ ho1 HB1.out).mono ?_
  rintro e w8 ⟨ve, rfl, he, b8⟩
  have b58 := bchain b57 b8
  have HX := hid hxx.out.lt
  have HY := hid hyy.out.lt
  have E8 : EnvY w bx b_y x0 x1 x2 x3 y0 y1 y2 y3 vd ve (val 256 l0 % pN) (val 256 l1 % pN) w8 :=
    ⟨hG.up (kb.trans (b58.mono kb.size)), kx.below b58 kx.size, ky.below b58 ky.size, (hd.up b7).up b8, he, kb.trans (b58.mono kb.size)⟩
  have ex := hxx.out
  have ey := hyy.out
  clear hxx hyy b5 b6 b7 b8 b56 b57 b58 kx ky kb kb6 K4 ho ho1 hd he r0 r1 hG HB0 HB1
  generalize val 256 l0 % pN = X at *
  generalize val 256 l1 % pN = Y at *
  clear d0 d1 g0 g1
  have cx0 := E8.x.c0
  have cx1 := E8.x.c1
  have cx2 := E8.x.c2
  have cx3 := E8.x.c3
  have cy0 := E8.y.c0
  have cy1 := E8.y.c1
  have cy2 := E8.y.c2
  have cy3 := E8.y.c3
  go_wp2_with fail
  refine (eadd_c _ _ X Y _ ex ey E8.g).mono ?_
  rintro e u9 ⟨va, rfl, ha, q9⟩
  have E9 := E8.up q9
  clear cx0 cx1 cx2 cx3 cy0 cy1 cy2 cy3
  go_wp2_with fail
  refine (dAddP_c vd ve X Y _ E9.d E9.e HX HY).mono ?_
  rintro e u10 ⟨vb, rfl, hb, q10⟩
  have E10 := E9.up q10
  go_wp2_with fail
  refine (is_c va vb _ _ _ ha hb (mod_smallY _) E10.g).mono ?_
  rintro e u11 ⟨rfl, q11⟩
  have E11 := E10.up q11
  rw [decide_eq_true rfl]
  have cx0 := E11.x.c0
  have cx1 := E11.x.c1
  have cx2 := E11.x.c2
  have cx3 := E11.x.c3
  have cy0 := E11.y.c0
  have cy1 := E11.y.c1
  have cy2 := E11.y.c2
  have cy3 := E11.y.c3
  go_wp2_with fail
  refine (esub_c _ _ X Y _ ex ey E11.g).mono ?_
  rintro e u12 ⟨va1, rfl, ha1, q12⟩
  have E12 := E11.up q12
  clear cx0 cx1 cx2 cx3 cy0 cy1 cy2 cy3
  go_wp2_with fail
  refine (dSubP_c vd ve X Y _ E12.d E12.e HX HY).mono ?_
  rintro e u13 ⟨vb1, rfl, hb1, q13⟩
  have E13 := E12.up q13
  go_wp2_with fail
  refine (is_c va1 vb1 _ _ _ ha1 hb1 (mod_smallY _) E13.g).mono ?_
  rintro e u14 ⟨rfl, q14⟩
  have E14 := E13.up q14
  rw [decide_eq_true rfl]
  have cx0 := E14.x.c0
  have cx1 := E14.x.c1
  have cx2 := E14.x.c2
  have cx3 := E14.x.c3
  have cy0 := E14.y.c0
  have cy1 := E14.y.c1
  have cy2 := E14.y.c2
  have cy3 := E14.y.c3
  go_wp2_with fail
  refine (emul_c _ _ X Y _ ex ey E14.g).mono ?_
  rintro e u15 ⟨va2, rfl, ha2, q15⟩
  have E15 := E14.up q15
  clear cx0 cx1 cx2 cx3 cy0 cy1 cy2 cy3
  go_wp2_with fail
  refine (ref2Mul_c vd ve X Y _ E15.d E15.e HX HY).mono ?_
  rintro e u16 ⟨vb2, rfl, hb2, q16⟩
  have E16 := E15.up q16
  go_wp2_with fail
  refine (is_c va2 vb2 _ _ _ ha2 hb2 (mod_smallY _) E16.g).mono ?_
  rintro e u17 ⟨rfl, q17⟩
  have E17 := E16.up q17
  rw [decide_eq_true rfl]
  have cx0 := E17.x.c0
  have cx1 := E17.x.c1
  have cx2 := E17.x.c2
  have cx3 := E17.x.c3
  have cy0 := E17.y.c0
  have cy1 := E17.y.c1
  have cy2 := E17.y.c2
  have cy3 := E17.y.c3
  go_wp2_with fail
  refine (esquare_c _ X _ ex E17.g).mono ?_
  rintro e u18 ⟨va3, rfl, ha3, q18⟩
  have E18 := E17.up q18
  clear cx0 cx1 cx2 cx3 cy0 cy1 cy2 cy3
  go_wp2_with fail
  refine (ref2Mul_c vd vd X X _ E18.d E18.d HX HX).mono ?_
  rintro e u19 ⟨vb3, rfl, hb3, q19⟩
  have E19 := E18.up q19
  go_wp2_with fail
  refine (is_c va3 vb3 _ _ _ ha3 hb3 (mod_smallY _) E19.g).mono ?_
  rintro e u20 ⟨rfl, q20⟩
  have E20 := E19.up q20
  rw [decide_eq_true rfl]
  have cx0 := E20.x.c0
  have cx1 := E20.x.c1
  have cx2 := E20.x.c2
  have cx3 := E20.x.c3
  have cy0 := E20.y.c0
  have cy1 := E20.y.c1
  have cy2 := E20.y.c2
  have cy3 := E20.y.c3
  go_wp2_with fail
  refine (eneg_c _ X _ ex E20.g).mono ?_
  rintro e u21 ⟨va4, rfl, ha4, q21⟩
  have E21 := E20.up q21
  clear cx0 cx1 cx2 cx3 cy0 cy1 cy2 cy3
  go_wp2_with fail
  refine (dSubP_c (.slice none 0 0) vd 0 X _ (Dg.nil _) E21.d (hid (by decide)) HX).mono ?_
  rintro e u22 ⟨vb4, rfl, hb4, q22⟩
  have E22 := E21.up q22
  rw [Nat.zero_add] at hb4
  go_wp2_with fail
  refine (is_c va4 vb4 _ _ _ ha4 hb4 (mod_smallY _) E22.g).mono ?_
  rintro e u23 ⟨rfl, q23⟩
  have E23 := E22.up q23
  rw [decide_eq_true rfl]
  obtain ⟨q1, hq1⟩ : ∃ q, q = decide (X = Y) := ⟨_, rfl⟩
  obtain ⟨q2, hq2⟩ : ∃ q, q = decide (X = 0) := ⟨_, rfl⟩
  have HQ1 := hid hq1
  have HQ2 := hid hq2
  clear hq1 hq2
  have cx0 := E23.x.c0
  have cx1 := E23.x.c1
  have cx2 := E23.x.c2
  have cx3 := E23.x.c3
  have cy0 := E23.y.c0
  have cy1 := E23.y.c1
  have cy2 := E23.y.c2
  have cy3 := E23.y.c3
  go_wp2_with fail
  refine (eequal_c _ _ X Y _ ex ey).mono ?_
  rintro e u24 ⟨rfl, q24⟩
  have E24 := E23.up q24
  rw [← HQ1.out]
  clear cx0 cx1 cx2 cx3 cy0 cy1 cy2 cy3
  go_wp2_with fail
  refine (dSame_c vd ve X Y _ E24.d E24.e).mono ?_
  rintro e u25 ⟨rfl, rfl⟩
  rw [← HQ1.out]
  have cx0 := E24.x.c0
  have cx1 := E24.x.c1
  have cx2 := E24.x.c2
  have cx3 := E24.x.c3
  have cy0 := E24.y.c0
  have cy1 := E24.y.c1
  have cy2 := E24.y.c2
  have cy3 := E24.y.c3
  go_wp2_with fail
  refine (eisZero_c _ X _ ex).mono ?_
  rintro e u25 ⟨rfl, q25⟩
  have E25 := E24.up q25
  rw [← HQ2.out]
  clear cx0 cx1 cx2 cx3 cy0 cy1 cy2 cy3
  go_wp2_with fail
  refine (dSame_c vd (.slice none 0 0) X 0 _ E25.d (Dg.nil _)).mono ?_
  rintro e u26 ⟨rfl, rfl⟩
  rw [← HQ2.out]
  have cx0 := E25.x.c0
  have cx1 := E25.x.c1
  have cx2 := E25.x.c2
  have cx3 := E25.x.c3
  have cy0 := E25.y.c0
  have cy1 := E25.y.c1
  have cy2 := E25.y.c2
  have cy3 := E25.y.c3
  go_wp2_with fail
  refine (sum3_c x0 x1 x2 x3 y0 y1 y2 y3 X Y _ ex ey E25.g).mono ?_
  rintro e u26 ⟨va6, rfl, ha6, q26⟩
  have E26 := E25.up q26
  clear cx0 cx1 cx2 cx3 cy0 cy1 cy2 cy3
  go_wp2_with fail
  refine (dAddP_c vd ve X Y _ E26.d E26.e HX HY).mono ?_
  rintro e u27 ⟨vb6, rfl, hb6, q27⟩
  have E27 := E26.up q27
  have HM : Hid ((X + Y) % pN < pN) := hid (Nat.mod_lt _ (by decide))
  go_wp2_with fail
  refine (dAddP_c vb6 vd _ X _ hb6 E27.d HM HX).mono ?_
  rintro e u28 ⟨vb7, rfl, hb7, q28⟩
  have E28 := E27.up q28
  go_wp2_with fail
  refine (is_c va6 vb7 _ _ _ ha6 hb7 (mod_smallY _) E28.g).mono ?_
  rintro e u29 ⟨rfl, q29⟩
  have E29 := E28.up q29
  rw [decide_eq_true rfl]
  go_wp2_with fail
  refine (sumE_c none 0 0 [] _ ⟨rfl, fun h => absurd h (by decide)⟩ (by decide) E29.g).mono ?_
  rintro e u30 ⟨va8, rfl, ha8, q30⟩
  have E30 := E29.up q30
  rw [show psum [] 0 % pN = 0 by decide] at ha8
  go_wp2_with fail
  refine (eisZero_c va8 0 _ ha8).mono ?_
  rintro e u31 ⟨rfl, q31⟩
  have E31 := E30.up q31
  rw [decide_eq_true rfl]
  go_wp2_with fail
  go_ret
  exact ⟨rfl, E31.b⟩
end Go.Proofs.YtjkellpfoogomaaDoor
