/-
  avouchlaw02.FieldPowers returns true, whatever it is given, and turns nothing that was there.
-/
import Derived.Test.YtjkellpfoogomaaDoorRef2H
import Derived.Test.YtjkellpfoogomaaDoorFldJ
import Derived.Test.YtjkellpfoogomaaDoorFLaw0
import Derived.Deep.RegionHeld3
import Derived.Deep.CutBlock
import Derived.Deep.DeepCutAuto
namespace Go.Proofs.YtjkellpfoogomaaDoor
open Go.RowKit
set_option linter.unusedVariables false

structure EnvX (w0 : World) (bx : Nat) (x0 x1 x2 x3 : Int) (vd : Value) (X : Nat) (A1 : Option Addr) (n1 : Nat) (l1 : List Nat) (w : World) : Prop where
  g : Glob w
  x : B4 w bx x0 x1 x2 x3
  d : Dg w vd X
  r : Rd w w.heap.size A1 n1 l1
  b : Below w0.heap.size w0 w
theorem EnvX.up {w0 : World} {bx : Nat} {x0 x1 x2 x3 : Int} {vd : Value} {X : Nat} {A1 : Option Addr} {n1 : Nat} {l1 : List Nat} {w w' : World} (h : EnvX w0 bx x0 x1 x2 x3 vd X A1 n1 l1 w) (hb : Below w.heap.size w w') :
    EnvX w0 bx x0 x1 x2 x3 vd X A1 n1 l1 w' :=
  ⟨h.g.up hb, h.x.below hb h.x.size, h.d.up hb, h.r.up hb (Nat.le_refl _), h.b.trans (hb.mono h.b.size)⟩
theorem EnvX.cells {w0 : World} {bx : Nat} {x0 x1 x2 x3 : Int} {vd : Value} {X : Nat} {A1 : Option Addr} {n1 : Nat} {l1 : List Nat} {w : World} (h : EnvX w0 bx x0 x1 x2 x3 vd X A1 n1 l1 w) :
    w.cell? ⟨bx, 0, none⟩ = some (.int .u64 x0) ∧ w.cell? ⟨bx, 1, none⟩ = some (.int .u64 x1) ∧ w.cell? ⟨bx, 2, none⟩ = some (.int .u64 x2) ∧ w.cell? ⟨bx, 3, none⟩ = some (.int .u64 x3) :=
  ⟨h.x.c0, h.x.c1, h.x.c2, h.x.c3⟩
theorem mod_small (a : Nat) : a % pN < 115792089237316195423570985008687907853269984665640564039457584007913129639936 := Nat.lt_trans (Nat.mod_lt _ (by decide)) (by decide)

set_option maxRecDepth 100000 in
set_option maxHeartbeats 16000000 in
theorem fieldPowers_w (A0 A1 : Option Addr) (n0 n1 c0 c1 : Nat) (l0 l1 : List Nat) (w : World) (r0 : Rd8 w w.heap.size A0 n0 l0) (r1 : Rd w w.heap.size A1 n1 l1) (hG : Glob w) :
    Calls Tryd.prog 5 #[.slice A0 n0 c0, .slice A1 n1 c1] w fun e w' => e = .returned (.bool true) ∧ Below w.heap.size w w' := by
  by_cases g0 : 40 < n0
  · have d0 : decide ((40 : Int) < (n0 : Int)) = true := by simp; omega
    go_enter Tryd.func5, Tryd.ntmps5
    go_wp2_with fail
    refine (speaks2_c w hG).mono ?_
    rintro e w1 ⟨rfl, b1⟩
    go_wp2_with fail
    refine (speaks2_c w1 (hG.up b1)).mono ?_
    rintro e w2 ⟨rfl, b2⟩
    go_wp2
    go_ret
    exact ⟨rfl, bchain b1 b2⟩
  have d0 : decide ((40 : Int) < (n0 : Int)) = false := by simp; omega
  by_cases g1 : 2 < n1
  · have d1 : decide ((2 : Int) < (n1 : Int)) = true := by simp; omega
    go_enter Tryd.func5, Tryd.ntmps5
    go_wp2_with fail
    refine (speaks2_c w hG).mono ?_
    rintro e w1 ⟨rfl, b1⟩
    go_wp2_with fail
    refine (speaks2_c w1 (hG.up b1)).mono ?_
    rintro e w2 ⟨rfl, b2⟩
    go_wp2
    go_ret
    exact ⟨rfl, bchain b1 b2⟩
  have d1 : decide ((2 : Int) < (n1 : Int)) = false := by simp; omega
  have HB0 : Hid (val 256 l0 < 4294967296 ^ 30) := by
    have h1 := val_lt 256 (by decide) l0 r0.lt
    rw [r0.len] at h1
    refine hid (Nat.lt_of_lt_of_le h1 ?_)
    rw [show (4294967296 : Nat) = 256 ^ 4 by decide, ← Nat.pow_mul]
    exact Nat.pow_le_pow_right (by decide) (by omega)
  have HBIG : Hid (val 18446744073709551616 l1 < 4294967296 ^ bigE) := by
    have h1 := val_lt 18446744073709551616 (by decide) l1 r1.lt
    rw [r1.len] at h1
    refine hid (Nat.lt_of_lt_of_le h1 ?_)
    rw [show (18446744073709551616 : Nat) = 4294967296 ^ 2 by decide, ← Nat.pow_mul]
    exact Nat.pow_le_pow_right (by decide) (Nat.le_trans (show 2 * n1 ≤ 4 by omega) (by decide))
  obtain ⟨V, hV⟩ : ∃ V, val 18446744073709551616 l1 = V := ⟨_, rfl⟩
  have HE1 : Hid (V < 2 ^ bits1000) := by
    have h1 := val_lt 18446744073709551616 (by decide) l1 r1.lt
    rw [r1.len, hV] at h1
    refine hid (Nat.lt_of_lt_of_le h1 ?_)
    rw [show (18446744073709551616 : Nat) = 2 ^ 64 by decide, ← Nat.pow_mul]
    exact Nat.pow_le_pow_right (by decide) (Nat.le_trans (show 64 * n1 ≤ 128 by omega) (by decide))
  have HV := hid hV
  clear hV
  go_enter Tryd.func5, Tryd.ntmps5
  go_wp2_with fail
  refine (speaks2_c w hG).mono ?_
  rintro e w1 ⟨rfl, b1⟩
  go_wp2_with fail
  refine (fromWide_c A0 n0 c0 l0 w1 (r0.up b1 (Nat.le_refl _)) (by omega) (hG.up b1)).mono ?_
  rintro e w2 ⟨vx, rfl, hx, b2⟩
  have b12 := bchain b1 b2
  go_wp2_with fail
  refine (dOfBytes_c A0 n0 c0 l0 w2 (r0.up b12 (Nat.le_refl _)) (by omega)).mono ?_
  rintro e w3 ⟨vo, rfl, ho, b3⟩
  have b13 := bchain b12 b3
  go_wp2_with fail
  refine (dMod_c vo _ _ ho HB0.out).mono ?_
  rintro e w4' ⟨vd, rfl, hd, b4⟩
  have b14 := bchain b13 b4
  have HX := hid hx.lt
  generalize val 256 l0 % pN = X at *
  have hxx := hid hx
  obtain ⟨x0, x1, x2, x3, rfl, -, -, -⟩ := hx
  have b5 := b14.alloc b14.size (o4 27 x0 x1 x2 x3)
  have E5 : Hid (EnvX w w4'.heap.size x0 x1 x2 x3 vd X A1 n1 l1 (w4'.alloc (o4 27 x0 x1 x2 x3))) :=
    hid ⟨hG.up b5, o4_new w4' _ x0 x1 x2 x3, hd.up ((Below.refl _ _).alloc (Nat.le_refl _) _), r1.up b5 (Nat.le_refl _), b5⟩
  clear ho hd b1 b2 b3 b4 b5 b12 b13 b14
  unfold o4 Go.Proofs.YtjkellpfoogomaaDoor.w4 at *
  have ex := hxx.out
  clear hxx r0 r1 hG HB0
  go_wp2_with fail
  generalize w4'.alloc (.cells #[.int .u64 x0, .int .u64 x1, .int .u64 x2, .int .u64 x3] 27) = w6 at E5 ⊢
  generalize w4'.heap.size = bx at E5 ⊢
  have E6 := E5.out
  clear E5 d0 d1 g0
  refine (eexp_c _ X A1 n1 c1 l1 _ ex E6.r (by omega) E6.g).mono ?_
  rintro e w7 ⟨ve, rfl, he, b7⟩
  rw [HV.out] at he
  have E7 := E6.up b7
  go_wp2_with fail
  refine (digits_c A1 n1 c1 l1 _ E7.r (by omega)).mono ?_
  intro e w8 hdig
  obtain ⟨vg, rfl, hg, b8⟩ := Dg.of hdig HBIG.out
  rw [HV.out] at hg
  have E8 := E7.up b8
  go_wp2_with fail
  refine (dExpP_c vd vg X V _ E8.d hg HX HE1).mono ?_
  rintro e w9 ⟨vp, rfl, hp, b9⟩
  have E9 := E8.up b9
  go_wp2_with fail
  refine (is_c ve vp _ _ _ he hp (mod_small _) E9.g).mono ?_
  rintro e w10 ⟨rfl, b10⟩
  rw [decide_eq_true rfl]
  have E10 := E9.up b10
  clear E6 E7 E8 E9 he hp hg b7 b8 b9 b10 hdig
  have cx0 := E10.x.c0
  have cx1 := E10.x.c1
  have cx2 := E10.x.c2
  have cx3 := E10.x.c3
  go_wp2_with fail
  refine (einverse_c _ X _ ex E10.g).mono ?_
  rintro e w11 ⟨vi, rfl, hi, b11⟩
  have E11 := E10.up b11
  clear cx0 cx1 cx2 cx3 E10
  go_wp2_with fail
  refine (dInvP_c vd X _ E11.d HX).mono ?_
  rintro e w12 ⟨vj, rfl, hj, b12⟩
  have E12 := E11.up b12
  go_wp2_with fail
  refine (is_c vi vj _ _ _ hi hj (mod_small _) E12.g).mono ?_
  rintro e w13 ⟨rfl, b13⟩
  rw [decide_eq_true rfl]
  have E13 := E12.up b13
  clear E11 E12 hi hj b11 b12 b13
  go_wp2_with fail
  go_ret
  exact ⟨rfl, E13.b⟩
end Go.Proofs.YtjkellpfoogomaaDoor
