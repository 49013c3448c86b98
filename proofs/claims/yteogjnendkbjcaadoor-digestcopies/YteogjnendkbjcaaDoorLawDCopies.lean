/-
  avouchlaw07.DigestCopies: the walk.
-/
import Derived.Test.YteogjnendkbjcaaDoorDhI
namespace Go.Proofs.YteogjnendkbjcaaDoor
open Go.RowKit
set_option linter.unusedVariables false
set_option linter.unusedSimpArgs false

/-- What is kept: two hashes, the tables. -/
structure EnvDC (w : World) (p q : Nat) (x y : List Nat) (v : World) : Prop where
  h : HashM v p x
  i : HashM v q y
  g : GlobK v
  b : Below w.heap.size w v
theorem EnvDC.up {w : World} {p q : Nat} {x y : List Nat} {v v' : World} (h : EnvDC w p q x y v) (hb : Below v.heap.size v v') : EnvDC w p q x y v' := ⟨h.h.up hb, h.i.up hb, h.g.up hb, bchain h.b hb⟩
theorem EnvDC.first {w : World} {p q : Nat} {x y x' : List Nat} {v v' : World} (h : EnvDC w p q x y v) (hp : w.heap.size ≤ p) (hne : p ≠ q) (hlo : 1 < w.heap.size ∧ 0 < w.heap.size) (hm : HashM v' p x') (ho : Only p v v') : EnvDC w p q x' y v' :=
  ⟨hm, h.i.other ho (Ne.symm hne), ho.glob h.g ⟨by omega, by omega⟩, h.b.trans (ho.below hp h.b.size)⟩
theorem EnvDC.second {w : World} {p q : Nat} {x y y' : List Nat} {v v' : World} (h : EnvDC w p q x y v) (hq : w.heap.size ≤ q) (hne : p ≠ q) (hlo : 1 < w.heap.size ∧ 0 < w.heap.size) (hm : HashM v' q y') (ho : Only q v v') : EnvDC w p q x y' v' :=
  ⟨h.h.other ho hne, hm, ho.glob h.g ⟨by omega, by omega⟩, h.b.trans (ho.below hq h.b.size)⟩

set_option maxRecDepth 100000 in
set_option maxHeartbeats 4000000 in
theorem digestCopies_w (A0 : Option Addr) (n0 c0 : Nat) (x : List Nat) (A1 : Option Addr) (n1 c1 : Nat) (y : List Nat) (A2 : Option Addr) (n2 c2 : Nat) (z : List Nat) (w : World)
    (r0 : Rd8 w w.heap.size A0 n0 x) (k0 : n0 ≤ c0) (r1 : Rd8 w w.heap.size A1 n1 y) (k1 : n1 ≤ c1) (r2 : Rd8 w w.heap.size A2 n2 z) (k2 : n2 ≤ c2) (hG : GlobK w) :
    Calls Tryd.prog 5 #[.slice A0 n0 c0, .slice A1 n1 c1, .slice A2 n2 c2] w fun e w' => e = .returned (.bool true) ∧ Below w.heap.size w w' := by
  have R0 := hid r0
  have R1 := hid r1
  have R2 := hid r2
  have K0 := hid k0
  have K1 := hid k1
  have K2 := hid k2
  have HG := hid hG
  have HGS := hid hG.size
  clear r0 r1 r2 k0 k1 k2 hG
  by_cases hbig0 : 300 < n0
  · have i0 : (300 : Int) < (n0 : Int) := by omega
    clear hbig0
    go_enter Tryd.func5, Tryd.ntmps5
    go_wp2_with fail
    refine (speaks7_c w HG.out).mono ?_
    rintro e w1 ⟨rfl, b1⟩
    go_wp2_with fail
    refine (speaks7_c w1 (HG.out.up b1)).mono ?_
    rintro e w2 ⟨rfl, b2⟩
    go_wp2
    go_ret
    exact ⟨rfl, bchain b1 b2⟩
  have i0 : decide ((300 : Int) < (n0 : Int)) = false := decide_eq_false (by omega)
  clear hbig0
  by_cases hbig1 : 300 < n1
  · have i1 : (300 : Int) < (n1 : Int) := by omega
    clear hbig1
    go_enter Tryd.func5, Tryd.ntmps5
    go_wp2_with fail
    refine (speaks7_c w HG.out).mono ?_
    rintro e w1 ⟨rfl, b1⟩
    go_wp2_with fail
    refine (speaks7_c w1 (HG.out.up b1)).mono ?_
    rintro e w2 ⟨rfl, b2⟩
    go_wp2
    go_ret
    exact ⟨rfl, bchain b1 b2⟩
  have i1 : decide ((300 : Int) < (n1 : Int)) = false := decide_eq_false (by omega)
  clear hbig1
  by_cases hbig2 : 300 < n2
  · have i2 : (300 : Int) < (n2 : Int) := by omega
    clear hbig2
    go_enter Tryd.func5, Tryd.ntmps5
    go_wp2_with fail
    refine (speaks7_c w HG.out).mono ?_
    rintro e w1 ⟨rfl, b1⟩
    go_wp2_with fail
    refine (speaks7_c w1 (HG.out.up b1)).mono ?_
    rintro e w2 ⟨rfl, b2⟩
    go_wp2
    go_ret
    exact ⟨rfl, bchain b1 b2⟩
  have i2 : decide ((300 : Int) < (n2 : Int)) = false := decide_eq_false (by omega)
  clear hbig2
  obtain ⟨D, hD⟩ : ∃ D, D = dig (x ++ y) := ⟨_, rfl⟩
  have HD := hid hD
  have q1 : ∀ v, (Op.equalIn 10000 24 (.agg (cells8 D).toArray) (.agg (cells8 D).toArray)).run Tryd.prog v = .ok true v := fun v => same_32 v (by rw [hD]; exact dig_len _)
  obtain ⟨D2, hD2⟩ : ∃ D, D = dig (x ++ z) := ⟨_, rfl⟩
  have HD2 := hid hD2
  have q2 : ∀ v, (Op.equalIn 10000 24 (.agg (cells8 D2).toArray) (.agg (cells8 D2).toArray)).run Tryd.prog v = .ok true v := fun v => same_32 v (by rw [hD2]; exact dig_len _)
  clear hD hD2
  go_enter Tryd.func5, Tryd.ntmps5
  go_wp2_with fail
  refine (speaks7_c w HG.out).mono ?_
  rintro e w1 ⟨rfl, b1⟩
  have hzh := zeroH
  have hlh := zH_len
  have e1 : (w1.alloc (.cells zH.toArray 35)).heap.size = w1.heap.size + 1 := by simp
  have a1 := zH_new w1
  have a2 := zH_new (w1.alloc (.cells zH.toArray 35))
  rw [e1] at a2
  have bb := ((Below.refl w1.heap.size w1).alloc (Nat.le_refl _) (.cells zH.toArray 35)).alloc (by simp) (.cells zH.toArray 35)
  have E0 : Hid (EnvDC w w1.heap.size (w1.heap.size + 1) [] [] ((w1.alloc (.cells zH.toArray 35)).alloc (.cells zH.toArray 35))) :=
    ⟨a1.up ((Below.refl _ _).alloc (Nat.le_refl _) _), a2, HG.out.up (bchain b1 bb), bchain b1 bb⟩
  have lp : w.heap.size ≤ w1.heap.size := b1.size
  have LP := hid lp
  clear b1 e1 a1 a2 bb lp
  go_wp2_with fail
  clear hzh hlh
  generalize ((w1.alloc _).alloc _) = v0 at *
  have LQ : Hid (w.heap.size ≤ w1.heap.size + 1) := Nat.le_trans LP.out (Nat.le_succ _)
  have HNE : Hid (w1.heap.size ≠ w1.heap.size + 1) := by show _ ≠ _; omega
  generalize w1.heap.size + 1 = q at *
  generalize w1.heap.size = p at *
  refine (write_c7 A0 n0 c0 p [] x v0 K0.out ((R0.out.below E0.out.b (Nat.le_refl _)).more LP.out) E0.out.h E0.out.g ⟨by have := HGS.out; have := LP.out; omega, by have := HGS.out; have := LP.out; omega⟩).mono ?_
  rintro e v1 ⟨rfl, hm1, ho1⟩
  have E1 := hid (EnvDC.first E0.out LP.out HNE.out HGS.out hm1 ho1)
  clear hm1 ho1 E0
  go_wp2_with fail
  refine (write_c7 A0 n0 c0 q [] x v1 K0.out ((R0.out.below E1.out.b (Nat.le_refl _)).more LQ.out) E1.out.i E1.out.g ⟨by have := HGS.out; have := LQ.out; omega, by have := HGS.out; have := LQ.out; omega⟩).mono ?_
  rintro e v2 ⟨rfl, hm2, ho2⟩
  have E2 : Hid (EnvDC w p q x x v2) := EnvDC.second E1.out LQ.out HNE.out HGS.out hm2 ho2
  clear hm2 ho2 E1
  go_wp2_with fail
  refine (write_c7 A1 n1 c1 p x y v2 K1.out ((R1.out.below E2.out.b (Nat.le_refl _)).more LP.out) E2.out.h E2.out.g ⟨by have := HGS.out; have := LP.out; omega, by have := HGS.out; have := LP.out; omega⟩).mono ?_
  rintro e v3 ⟨rfl, hm3, ho3⟩
  have E3 := hid (EnvDC.first E2.out LP.out HNE.out HGS.out hm3 ho3)
  clear hm3 ho3 E2
  go_wp2_with fail
  refine (write_c7 A2 n2 c2 q x z v3 K2.out ((R2.out.below E3.out.b (Nat.le_refl _)).more LQ.out) E3.out.i E3.out.g ⟨by have := HGS.out; have := LQ.out; omega, by have := HGS.out; have := LQ.out; omega⟩).mono ?_
  rintro e v4 ⟨rfl, hm4, ho4⟩
  have E4 := hid (EnvDC.second E3.out LQ.out HNE.out HGS.out hm4 ho4)
  clear hm4 ho4 E3
  go_wp2_with fail
  refine (hsum_c _ _ v4 E4.out.h E4.out.g).mono ?_
  rintro e u4 ⟨rfl, hb4⟩
  rw [← HD.out]
  have F4 := hid (EnvDC.up E4.out hb4)
  clear hb4 E4
  have P4 := hid (RdP.two 22 (R0.out.up F4.out.b (Nat.le_refl _)) K0.out (R1.out.up F4.out.b (Nat.le_refl _)) K1.out)
  have G4 := hid (EnvDC.up F4.out ((Below.refl u4.heap.size u4).alloc (Nat.le_refl _) (.cells #[.slice A0 n0 c0, .slice A1 n1 c1] 22)))
  clear F4
  go_wp2_with fail
  refine (dsum_c _ 2 2 [x, y] _ P4.out (by decide) G4.out.g).mono ?_
  rintro e v5 ⟨rfl, hb4⟩
  rw [show [x, y].flatten = x ++ y by simp, ← HD.out]
  have E5 := hid (EnvDC.up G4.out hb4)
  clear hb4 P4 G4
  go_wp2_with fail
  refine (hsum_c _ _ v5 E5.out.i E5.out.g).mono ?_
  rintro e u5 ⟨rfl, hb5⟩
  rw [← HD2.out]
  have F5 := hid (EnvDC.up E5.out hb5)
  clear hb5 E5
  have P5 := hid (RdP.two 22 (R0.out.up F5.out.b (Nat.le_refl _)) K0.out (R2.out.up F5.out.b (Nat.le_refl _)) K2.out)
  have G5 := hid (EnvDC.up F5.out ((Below.refl u5.heap.size u5).alloc (Nat.le_refl _) (.cells #[.slice A0 n0 c0, .slice A2 n2 c2] 22)))
  clear F5
  go_wp2_with fail
  refine (dsum_c _ 2 2 [x, z] _ P5.out (by decide) G5.out.g).mono ?_
  rintro e v6 ⟨rfl, hb5⟩
  rw [show [x, z].flatten = x ++ z by simp, ← HD2.out]
  have E6 := hid (EnvDC.up G5.out hb5)
  clear hb5 P5 G5
  go_wp2
  go_ret
  exact ⟨rfl, E6.out.b⟩
end Go.Proofs.YteogjnendkbjcaaDoor
