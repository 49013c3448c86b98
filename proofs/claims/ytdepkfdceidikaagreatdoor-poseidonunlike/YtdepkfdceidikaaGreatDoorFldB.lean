import Derived.Test.YtdepkfdceidikaaGreatDoorLMul
import Derived.Handy
import Derived.Deep.QuietTactic
import Derived.BigQuiet
import Derived.Deep.RegionWith
/-
  field.multiplyAdd, field.add, field.subtract: what each call does.
-/
namespace Go.Proofs.YtdepkfdceidikaaGreatDoor
open Go.RowKit
set_option linter.unusedVariables false

/-- Four words as a value; the number that they are. -/
def w4 (a0 a1 a2 a3 : Int) : Value := .agg #[.int .u64 a0, .int .u64 a1, .int .u64 a2, .int .u64 a3]
def n4 (a0 a1 a2 a3 : Int) : Int := a0 + a1 * 18446744073709551616 + a2 * 340282366920938463463374607431768211456 + a3 * 6277101735386680763835789423207666416102355444464034512896
/-- A word. -/
def Wd (a : Int) : Prop := 0 ≤ a ∧ a < 18446744073709551616
structure W4 (a0 a1 a2 a3 : Int) : Prop where
  h0 : Wd a0
  h1 : Wd a1
  h2 : Wd a2
  h3 : Wd a3

theorem add64_e (x y c : Int) (hx : Wd x) (hy : Wd y) (hc0 : 0 ≤ c) (hc : c ≤ 1) : ∃ s d : Int, Hid (s + d * 18446744073709551616 = x + y + c) ∧ Hid (Wd s) ∧ 0 ≤ d ∧ d ≤ 1 ∧
    ∀ w, (callFunc 104 #[.int .u64 x, .int .u64 y, .int .u64 c]).run Tryz.prog w = .ok (.value (.tuple #[.int .u64 s, .int .u64 d])) w := by
  obtain ⟨hx0, hx1⟩ := hx
  obtain ⟨hy0, hy1⟩ := hy
  refine ⟨(x + y + c) % 18446744073709551616, (x + y + c) / 18446744073709551616, ?_, ⟨by omega, by omega⟩, by omega, by omega, add64 x y c hx0 hy0 hc0 hc⟩
  exact hid (by omega)
theorem sub64_e (x y c : Int) (hx : Wd x) (hy : Wd y) (hc0 : 0 ≤ c) (hc : c ≤ 1) : ∃ s d : Int, Hid (s + y + c = x + d * 18446744073709551616) ∧ Hid (Wd s) ∧ 0 ≤ d ∧ d ≤ 1 ∧
    ∀ w, (callFunc 105 #[.int .u64 x, .int .u64 y, .int .u64 c]).run Tryz.prog w = .ok (.value (.tuple #[.int .u64 s, .int .u64 d])) w := by
  obtain ⟨hx0, hx1⟩ := hx
  obtain ⟨hy0, hy1⟩ := hy
  refine ⟨(x - y - c) % 18446744073709551616, bor x (y + c), ?_, ⟨by omega, by omega⟩, bor_nonneg _ _, bor_le _ _, sub64 x y c hx0 hy0 hy1 hc0 hc⟩
  unfold bor
  exact hid (by split <;> omega)

set_option maxHeartbeats 2000000 in
theorem fadd_c (a0 a1 a2 a3 b0 b1 b2 b3 : Int) (w : World) (ha : W4 a0 a1 a2 a3) (hb : W4 b0 b1 b2 b3) :
    Calls Tryz.prog 75 #[w4 a0 a1 a2 a3, w4 b0 b1 b2 b3] w fun e w' => ∃ r0 r1 r2 r3 c : Int, e = .returned (w4 r0 r1 r2 r3) ∧ W4 r0 r1 r2 r3 ∧ 0 ≤ c ∧ c ≤ 1 ∧ n4 r0 r1 r2 r3 + c * 115792089237316195423570985008687907853269984665640564039457584007913129639936 = n4 a0 a1 a2 a3 + n4 b0 b1 b2 b3 ∧ Below w.heap.size w w' := by
  obtain ⟨s0, d0, e0, x0, l0, m0, r0⟩ := add64_e a0 b0 0 ha.h0 hb.h0 (Int.le_refl _) (by decide)
  obtain ⟨s1, d1, e1, x1, l1, m1, r1⟩ := add64_e a1 b1 d0 ha.h1 hb.h1 l0 m0
  obtain ⟨s2, d2, e2, x2, l2, m2, r2⟩ := add64_e a2 b2 d1 ha.h2 hb.h2 l1 m1
  obtain ⟨s3, d3, e3, x3, l3, m3, r3⟩ := add64_e a3 b3 d2 ha.h3 hb.h3 l2 m2
  have R : Hid (W4 s0 s1 s2 s3 ∧ 0 ≤ d3 ∧ d3 ≤ 1 ∧ n4 s0 s1 s2 s3 + d3 * 115792089237316195423570985008687907853269984665640564039457584007913129639936 = n4 a0 a1 a2 a3 + n4 b0 b1 b2 b3) := by
    have e0 := e0.out
    have e1 := e1.out
    have e2 := e2.out
    have e3 := e3.out
    exact ⟨⟨x0.out, x1.out, x2.out, x3.out⟩, l3, m3, by unfold n4; omega⟩
  clear l0 l1 l2 l3 m0 m1 m2 m3
  unfold w4
  go_enter Tryz.func75, Tryz.ntmps75
  go_wp2
  refine wp_loop_rounds 5 ?_
  iterate 4
    rw [rounds_succ]
    go_wp2
    go_region
    go_wp2
  rw [rounds_succ]
  go_wp2
  go_returns
  obtain ⟨h1, h2, h3, h4⟩ := R.out
  exact ⟨s0, s1, s2, s3, d3, rfl, h1, h2, h3, h4, by go_grown⟩

set_option maxHeartbeats 2000000 in
theorem fsubtract_c (a0 a1 a2 a3 b0 b1 b2 b3 : Int) (w : World) (ha : W4 a0 a1 a2 a3) (hb : W4 b0 b1 b2 b3) :
    Calls Tryz.prog 103 #[w4 a0 a1 a2 a3, w4 b0 b1 b2 b3] w fun e w' => ∃ r0 r1 r2 r3 c : Int, e = .returned (.tuple #[w4 r0 r1 r2 r3, .int .u64 c]) ∧ W4 r0 r1 r2 r3 ∧ 0 ≤ c ∧ c ≤ 1 ∧ n4 r0 r1 r2 r3 + n4 b0 b1 b2 b3 = n4 a0 a1 a2 a3 + c * 115792089237316195423570985008687907853269984665640564039457584007913129639936 ∧ Below w.heap.size w w' := by
  obtain ⟨s0, d0, e0, x0, l0, m0, r0⟩ := sub64_e a0 b0 0 ha.h0 hb.h0 (Int.le_refl _) (by decide)
  obtain ⟨s1, d1, e1, x1, l1, m1, r1⟩ := sub64_e a1 b1 d0 ha.h1 hb.h1 l0 m0
  obtain ⟨s2, d2, e2, x2, l2, m2, r2⟩ := sub64_e a2 b2 d1 ha.h2 hb.h2 l1 m1
  obtain ⟨s3, d3, e3, x3, l3, m3, r3⟩ := sub64_e a3 b3 d2 ha.h3 hb.h3 l2 m2
  have R : Hid (W4 s0 s1 s2 s3 ∧ 0 ≤ d3 ∧ d3 ≤ 1 ∧ n4 s0 s1 s2 s3 + n4 b0 b1 b2 b3 = n4 a0 a1 a2 a3 + d3 * 115792089237316195423570985008687907853269984665640564039457584007913129639936) := by
    have e0 := e0.out
    have e1 := e1.out
    have e2 := e2.out
    have e3 := e3.out
    exact ⟨⟨x0.out, x1.out, x2.out, x3.out⟩, l3, m3, by unfold n4; omega⟩
  clear l0 l1 l2 l3 m0 m1 m2 m3
  unfold w4
  go_enter Tryz.func103, Tryz.ntmps103
  go_wp2
  refine wp_loop_rounds 5 ?_
  iterate 4
    rw [rounds_succ]
    go_wp2
    go_region
    go_wp2
  rw [rounds_succ]
  go_wp2
  go_returns
  obtain ⟨h1, h2, h3, h4⟩ := R.out
  exact ⟨s0, s1, s2, s3, d3, rfl, h1, h2, h3, h4, by go_grown⟩

theorem ma_bound (a b c d : Int) (ha : Wd a) (hb : Wd b) (hc : Wd c) (hd : Wd d) : 0 ≤ a * b + c + d ∧ a * b + c + d < 340282366920938463463374607431768211456 := by
  obtain ⟨ha0, ha1⟩ := ha
  obtain ⟨hb0, hb1⟩ := hb
  obtain ⟨hc0, hc1⟩ := hc
  obtain ⟨hd0, hd1⟩ := hd
  obtain ⟨x, rfl⟩ := Int.eq_ofNat_of_zero_le ha0
  obtain ⟨y, rfl⟩ := Int.eq_ofNat_of_zero_le hb0
  have := mul_bound x y (by omega) (by omega)
  have e : (x : Int) * (y : Int) = ((x * y : Nat) : Int) := by simp
  rw [e]
  omega

set_option maxHeartbeats 1000000 in
theorem multiplyAdd_c (a b c d : Int) (ha : Wd a) (hb : Wd b) (hc : Wd c) (hd : Wd d) (w : World) :
    Calls Tryz.prog 102 #[.int .u64 a, .int .u64 b, .int .u64 c, .int .u64 d] w fun e w' => e = .returned (.tuple #[.int .u64 ((a * b + c + d) / 18446744073709551616), .int .u64 ((a * b + c + d) % 18446744073709551616)]) ∧ w = w' := by
  obtain ⟨p0, p1⟩ := ma_bound a b c d ha hb hc hd
  obtain ⟨hl0, hl1⟩ := mulLo_bd a b
  obtain ⟨hh0, hh1⟩ := mulHi_bd a b ha.1 ha.2 hb.1 hb.2
  obtain ⟨hi, hhi⟩ : ∃ h, h = mulHi a b := ⟨_, rfl⟩
  obtain ⟨lo, hlo⟩ : ∃ l, l = mulLo a b := ⟨_, rfl⟩
  have eab : a * b = lo + hi * 18446744073709551616 := by rw [hhi, hlo]; unfold mulHi mulLo; omega
  rw [← hlo] at hl0 hl1
  rw [← hhi] at hh0 hh1
  obtain ⟨s0, d0, e0, x0, l0, m0, r0⟩ := add64_e lo c 0 ⟨hl0, hl1⟩ hc (Int.le_refl _) (by decide)
  obtain ⟨s1, d1, e1, x1, l1, m1, r1⟩ := add64_e s0 d 0 x0.out hd (Int.le_refl _) (by decide)
  have R : Hid (IntKind.u64.wrap (IntKind.u64.wrap (hi + d0) + d1) = (a * b + c + d) / 18446744073709551616 ∧ s1 = (a * b + c + d) % 18446744073709551616) := by
    have e0 := e0.out
    have e1 := e1.out
    obtain ⟨y0, y1⟩ := x1.out
    rw [IntKind.wrap_u64, IntKind.wrap_u64]
    rw [eab] at p0 p1 ⊢
    constructor <;> omega
  have hm := hid (mul64_c a b ha.1 ha.2 hb.1 hb.2)
  rw [← hhi, ← hlo] at hm
  have EAB := hid eab
  clear eab p0 p1 hhi hlo hl0 hl1 hh0 hh1 l0 m0 l1 m1
  go_enter Tryz.func102, Tryz.ntmps102
  go_wp2_with fail
  refine (hm.out _).mono ?_
  rintro e w' ⟨rfl, rfl⟩
  go_wp2
  go_returns
  obtain ⟨h1, h2⟩ := R.out
  exact ⟨by rw [h1, h2]; rfl, rfl⟩
end Go.Proofs.YtdepkfdceidikaaGreatDoor
/-
  field.product: what the call does (Montgomery's product).
-/
namespace Go.Proofs.YtdepkfdceidikaaGreatDoor
open Go.RowKit
set_option linter.unusedVariables false

/-- Block b is just these four words. -/
structure B4 (w : World) (b : Nat) (a0 a1 a2 a3 : Int) : Prop where
  heap : ∃ t, w.heap[b]? = some (.cells #[.int .u64 a0, .int .u64 a1, .int .u64 a2, .int .u64 a3] t (0, 0))
theorem B4.c0 {w : World} {b : Nat} {a0 a1 a2 a3 : Int} (h : B4 w b a0 a1 a2 a3) : w.cell? ⟨b, 0, none⟩ = some (.int .u64 a0) := by obtain ⟨t, h⟩ := h.heap; rw [cell_of_row w b 0 _ _ (0, 0) h]; rfl
theorem B4.c1 {w : World} {b : Nat} {a0 a1 a2 a3 : Int} (h : B4 w b a0 a1 a2 a3) : w.cell? ⟨b, 1, none⟩ = some (.int .u64 a1) := by obtain ⟨t, h⟩ := h.heap; rw [cell_of_row w b 1 _ _ (0, 0) h]; rfl
theorem B4.c2 {w : World} {b : Nat} {a0 a1 a2 a3 : Int} (h : B4 w b a0 a1 a2 a3) : w.cell? ⟨b, 2, none⟩ = some (.int .u64 a2) := by obtain ⟨t, h⟩ := h.heap; rw [cell_of_row w b 2 _ _ (0, 0) h]; rfl
theorem B4.c3 {w : World} {b : Nat} {a0 a1 a2 a3 : Int} (h : B4 w b a0 a1 a2 a3) : w.cell? ⟨b, 3, none⟩ = some (.int .u64 a3) := by obtain ⟨t, h⟩ := h.heap; rw [cell_of_row w b 3 _ _ (0, 0) h]; rfl
theorem B4.frozen {w : World} {b : Nat} {a0 a1 a2 a3 : Int} (h : B4 w b a0 a1 a2 a3) (i : Nat) : w.frozen? ⟨b, i, none⟩ = false := by obtain ⟨t, h⟩ := h.heap; simp [World.frozen?, h]
theorem B4.below {w w' : World} {b B : Nat} {a0 a1 a2 a3 : Int} (h : B4 w b a0 a1 a2 a3) (hb : Below B w w') (hB : b < B) : B4 w' b a0 a1 a2 a3 := ⟨by obtain ⟨t, h⟩ := h.heap; exact ⟨t, (hb.block b hB).trans h⟩⟩
theorem B4.size {w : World} {b : Nat} {a0 a1 a2 a3 : Int} (h : B4 w b a0 a1 a2 a3) : b < w.heap.size := by
  rcases Nat.lt_or_ge b w.heap.size with hlt | hge
  · exact hlt
  · obtain ⟨t, h⟩ := h.heap; rw [Array.getElem?_eq_none hge] at h; cases h
theorem B4.alloc {w : World} {b : Nat} {a0 a1 a2 a3 : Int} (h : B4 w b a0 a1 a2 a3) (o : Obj) : B4 (w.alloc o) b a0 a1 a2 a3 := by
  have hs : b < w.heap.size := by
    rcases Nat.lt_or_ge b w.heap.size with hlt | hge
    · exact hlt
    · obtain ⟨t, h⟩ := h.heap; rw [Array.getElem?_eq_none hge] at h; cases h
  exact h.below ((Below.refl _ _).alloc (Nat.le_refl _) o) hs
theorem B4.new (w : World) (t : TypeId) (a0 a1 a2 a3 : Int) : B4 (w.alloc (.cells #[.int .u64 a0, .int .u64 a1, .int .u64 a2, .int .u64 a3] t)) w.heap.size a0 a1 a2 a3 := ⟨t, heap_alloc_new w _⟩
theorem B4.other {w : World} {b c i : Nat} {v : Value} {a0 a1 a2 a3 : Int} (h : B4 w b a0 a1 a2 a3) (hne : b ≠ c) : B4 (w.setCell ⟨c, i, none⟩ v) b a0 a1 a2 a3 := by
  obtain ⟨t, h⟩ := h.heap
  refine ⟨t, ?_⟩
  simp only [World.setCell]
  rw [Array.getElem?_modify, if_neg (by omega)]
  exact h
theorem B4.drew {w : World} {b : Nat} {a0 a1 a2 a3 : Int} (h : B4 w b a0 a1 a2 a3) : B4 w.drew b a0 a1 a2 a3 := ⟨h.heap⟩
theorem B4.drewN {w : World} {b : Nat} {a0 a1 a2 a3 : Int} (h : B4 w b a0 a1 a2 a3) (n : Nat) : B4 (w.drewN n) b a0 a1 a2 a3 := ⟨h.heap⟩
theorem B4.s0 {w : World} {b : Nat} {a0 a1 a2 a3 : Int} (h : B4 w b a0 a1 a2 a3) (x : Int) : B4 (w.setCell ⟨b, 0, none⟩ (.int .u64 x)) b x a1 a2 a3 := ⟨by obtain ⟨t, h⟩ := h.heap; exact ⟨t, by simp [World.setCell, Array.getElem?_modify, h]⟩⟩
theorem B4.s1 {w : World} {b : Nat} {a0 a1 a2 a3 : Int} (h : B4 w b a0 a1 a2 a3) (x : Int) : B4 (w.setCell ⟨b, 1, none⟩ (.int .u64 x)) b a0 x a2 a3 := ⟨by obtain ⟨t, h⟩ := h.heap; exact ⟨t, by simp [World.setCell, Array.getElem?_modify, h]⟩⟩
theorem B4.s2 {w : World} {b : Nat} {a0 a1 a2 a3 : Int} (h : B4 w b a0 a1 a2 a3) (x : Int) : B4 (w.setCell ⟨b, 2, none⟩ (.int .u64 x)) b a0 a1 x a3 := ⟨by obtain ⟨t, h⟩ := h.heap; exact ⟨t, by simp [World.setCell, Array.getElem?_modify, h]⟩⟩
theorem B4.s3 {w : World} {b : Nat} {a0 a1 a2 a3 : Int} (h : B4 w b a0 a1 a2 a3) (x : Int) : B4 (w.setCell ⟨b, 3, none⟩ (.int .u64 x)) b a0 a1 a2 x := ⟨by obtain ⟨t, h⟩ := h.heap; exact ⟨t, by simp [World.setCell, Array.getElem?_modify, h]⟩⟩

/-- Four words as a new block. -/
def o4 (t : TypeId) (a0 a1 a2 a3 : Int) : Obj := .cells #[.int .u64 a0, .int .u64 a1, .int .u64 a2, .int .u64 a3] t
theorem o4_new (w : World) (t : TypeId) (a0 a1 a2 a3 : Int) : B4 (w.alloc (o4 t a0 a1 a2 a3)) w.heap.size a0 a1 a2 a3 := B4.new w t a0 a1 a2 a3
/-- What is known behind a call that was made with one array, and with a place for the result. -/
theorem box1 {w w1 : World} {ta tz : TypeId} {a0 a1 a2 a3 z0 z1 z2 z3 : Int} (hb : Below ((w.alloc (o4 ta a0 a1 a2 a3)).alloc (o4 tz z0 z1 z2 z3)).heap.size ((w.alloc (o4 ta a0 a1 a2 a3)).alloc (o4 tz z0 z1 z2 z3)) w1) :
    B4 w1 w.heap.size a0 a1 a2 a3 ∧ B4 w1 (w.heap.size + 1) z0 z1 z2 z3 ∧ Below w.heap.size w w1 ∧ w.heap.size + 1 + 1 ≤ w1.heap.size := by
  have hs := hb.size
  have e1 : (w.alloc (o4 ta a0 a1 a2 a3)).heap.size = w.heap.size + 1 := by simp
  have e2 : ((w.alloc (o4 ta a0 a1 a2 a3)).alloc (o4 tz z0 z1 z2 z3)).heap.size = w.heap.size + 1 + 1 := by simp
  have hz := o4_new (w.alloc (o4 ta a0 a1 a2 a3)) tz z0 z1 z2 z3
  rw [e1] at hz
  rw [e2] at hb hs
  exact ⟨((o4_new w ta a0 a1 a2 a3).alloc _).below hb (by omega), hz.below hb (by omega), (((Below.refl _ _).alloc (Nat.le_refl _) _).alloc (by omega) _).trans (hb.mono (by omega)), hs⟩
/-- The same with two arrays. -/
theorem box2 {w w1 : World} {ta tb tz : TypeId} {a0 a1 a2 a3 b0 b1 b2 b3 z0 z1 z2 z3 : Int} (hb : Below (((w.alloc (o4 ta a0 a1 a2 a3)).alloc (o4 tb b0 b1 b2 b3)).alloc (o4 tz z0 z1 z2 z3)).heap.size (((w.alloc (o4 ta a0 a1 a2 a3)).alloc (o4 tb b0 b1 b2 b3)).alloc (o4 tz z0 z1 z2 z3)) w1) :
    B4 w1 w.heap.size a0 a1 a2 a3 ∧ B4 w1 (w.heap.size + 1) b0 b1 b2 b3 ∧ B4 w1 (w.heap.size + 1 + 1) z0 z1 z2 z3 ∧ Below w.heap.size w w1 ∧ w.heap.size + 1 + 1 + 1 ≤ w1.heap.size := by
  have hs := hb.size
  have e1 : (w.alloc (o4 ta a0 a1 a2 a3)).heap.size = w.heap.size + 1 := by simp
  obtain ⟨h1, h2, h3, h4⟩ := box1 (w := w.alloc (o4 ta a0 a1 a2 a3)) hb
  rw [e1] at h1 h2 h3 h4
  exact ⟨(o4_new w ta a0 a1 a2 a3).below h3 (by omega), h1, h2, ((Below.refl _ _).alloc (Nat.le_refl _) _).trans (h3.mono (by omega)), h4⟩

/-- What the program's two tables hold. -/
structure Glob (w : World) : Prop where
  sizeP : 0 < w.heap.size
  sizeR : 1 < w.heap.size
  p0 : w.cell? ⟨0, 0, none⟩ = some (.int .u64 4891460686036598785)
  p1 : w.cell? ⟨0, 1, none⟩ = some (.int .u64 2896914383306846353)
  p2 : w.cell? ⟨0, 2, none⟩ = some (.int .u64 13281191951274694749)
  p3 : w.cell? ⟨0, 3, none⟩ = some (.int .u64 3486998266802970665)
  r0 : w.cell? ⟨1, 0, none⟩ = some (.int .u64 1997599621687373223)
  r1 : w.cell? ⟨1, 1, none⟩ = some (.int .u64 6052339484930628067)
  r2 : w.cell? ⟨1, 2, none⟩ = some (.int .u64 10108755138030829701)
  r3 : w.cell? ⟨1, 3, none⟩ = some (.int .u64 150537098327114917)
theorem Glob.up {w w' : World} (h : Glob w) (hb : Below w.heap.size w w') : Glob w' := by
  have k : ∀ g i, g < w.heap.size → w'.cell? ⟨g, i, none⟩ = w.cell? ⟨g, i, none⟩ := fun g i hg => hb.cell (p := ⟨g, i, none⟩) hg
  exact ⟨Nat.lt_of_lt_of_le h.sizeP hb.size, Nat.lt_of_lt_of_le h.sizeR hb.size, (k _ _ h.sizeP).trans h.p0, (k _ _ h.sizeP).trans h.p1, (k _ _ h.sizeP).trans h.p2, (k _ _ h.sizeP).trans h.p3,
    (k _ _ h.sizeR).trans h.r0, (k _ _ h.sizeR).trans h.r1, (k _ _ h.sizeR).trans h.r2, (k _ _ h.sizeR).trans h.r3⟩

/-- The prime. -/
def prm : Int := 21888242871839275222246405745257275088548364400416034343698204186575808495617

/-- field.below: of a number that is less than twice the prime, its rest. -/
theorem fbelow_c (a0 a1 a2 a3 : Int) (w : World) (ha : W4 a0 a1 a2 a3) (hG : Glob w) (hp : Hid (n4 a0 a1 a2 a3 < 2 * prm)) :
    Calls Tryz.prog 74 #[w4 a0 a1 a2 a3] w fun e w' => ∃ r0 r1 r2 r3 : Int, e = .returned (w4 r0 r1 r2 r3) ∧ W4 r0 r1 r2 r3 ∧ n4 r0 r1 r2 r3 < prm ∧ (n4 r0 r1 r2 r3 = n4 a0 a1 a2 a3 ∨ n4 r0 r1 r2 r3 + prm = n4 a0 a1 a2 a3) ∧ Below w.heap.size w w' := by
  have hP : W4 4891460686036598785 2896914383306846353 13281191951274694749 3486998266802970665 := ⟨⟨by decide, by decide⟩, ⟨by decide, by decide⟩, ⟨by decide, by decide⟩, ⟨by decide, by decide⟩⟩
  have nP : n4 4891460686036598785 2896914383306846353 13281191951274694749 3486998266802970665 = prm := by decide
  have g0 := hG.p0
  have g1 := hG.p1
  have g2 := hG.p2
  have g3 := hG.p3
  have szP := hG.sizeP
  unfold w4
  go_enter Tryz.func74, Tryz.ntmps74
  go_wp2_with fail
  refine (fsubtract_c a0 a1 a2 a3 _ _ _ _ _ ha hP).mono ?_
  rintro e w1 ⟨r0, r1, r2, r3, c, rfl, hr, hc0, hc1, he, hb⟩
  unfold w4
  rw [nP] at he
  obtain ⟨hA1, hZ1, hb1, hs1⟩ := box1 (ta := 35) (tz := 35) hb
  clear hb g0 g1 g2 g3 hG
  have hA2 := hA1.alloc (o4 35 r0 r1 r2 r3)
  have hZ2 := hZ1.alloc (o4 35 r0 r1 r2 r3)
  have a0' : (w1.alloc (.cells #[.int .u64 r0, .int .u64 r1, .int .u64 r2, .int .u64 r3] 35)).cell? ⟨w.heap.size, 0, none⟩ = some (.int .u64 a0) := hA2.c0
  have a1' : (w1.alloc (.cells #[.int .u64 r0, .int .u64 r1, .int .u64 r2, .int .u64 r3] 35)).cell? ⟨w.heap.size, 1, none⟩ = some (.int .u64 a1) := hA2.c1
  have a2' : (w1.alloc (.cells #[.int .u64 r0, .int .u64 r1, .int .u64 r2, .int .u64 r3] 35)).cell? ⟨w.heap.size, 2, none⟩ = some (.int .u64 a2) := hA2.c2
  have a3' : (w1.alloc (.cells #[.int .u64 r0, .int .u64 r1, .int .u64 r2, .int .u64 r3] 35)).cell? ⟨w.heap.size, 3, none⟩ = some (.int .u64 a3) := hA2.c3
  have z0' : (w1.alloc (.cells #[.int .u64 r0, .int .u64 r1, .int .u64 r2, .int .u64 r3] 35)).cell? ⟨w.heap.size + 1, 0, none⟩ = some (.int .u64 0) := hZ2.c0
  have z1' : (w1.alloc (.cells #[.int .u64 r0, .int .u64 r1, .int .u64 r2, .int .u64 r3] 35)).cell? ⟨w.heap.size + 1, 1, none⟩ = some (.int .u64 0) := hZ2.c1
  have z2' : (w1.alloc (.cells #[.int .u64 r0, .int .u64 r1, .int .u64 r2, .int .u64 r3] 35)).cell? ⟨w.heap.size + 1, 2, none⟩ = some (.int .u64 0) := hZ2.c2
  have z3' : (w1.alloc (.cells #[.int .u64 r0, .int .u64 r1, .int .u64 r2, .int .u64 r3] 35)).cell? ⟨w.heap.size + 1, 3, none⟩ = some (.int .u64 0) := hZ2.c3
  have fz : ∀ i, (w1.alloc (.cells #[.int .u64 r0, .int .u64 r1, .int .u64 r2, .int .u64 r3] 35)).frozen? ⟨w.heap.size + 1, i, none⟩ = false := hZ2.frozen
  clear hA2 hZ2 hA1 hZ1
  by_cases hc : c = 0
  · subst hc
    have R : Hid (W4 r0 r1 r2 r3 ∧ n4 r0 r1 r2 r3 < prm ∧ (n4 r0 r1 r2 r3 = n4 a0 a1 a2 a3 ∨ n4 r0 r1 r2 r3 + prm = n4 a0 a1 a2 a3)) := by
      have := hp.out
      exact ⟨hr, by omega, Or.inr (by omega)⟩
    clear he
    go_wp2
    refine bodyPost_ret (by simp [results, Tryz.results74, go_sem, z0', z1', z2', z3']; rfl) rfl ?_
    exact ⟨r0, r1, r2, r3, rfl, R.out.1, R.out.2.1, R.out.2.2, by go_grown⟩
  · have hc' : (c == 0) = false := by simpa using hc
    have R : Hid (n4 a0 a1 a2 a3 < prm) := by
      have h1 : c = 1 := by omega
      subst h1
      obtain ⟨⟨x0, y0⟩, ⟨x1, y1⟩, ⟨x2, y2⟩, ⟨x3, y3⟩⟩ := hr
      have : n4 r0 r1 r2 r3 < 115792089237316195423570985008687907853269984665640564039457584007913129639936 := by unfold n4; omega
      exact hid (by omega)
    clear he
    go_wp2
    refine bodyPost_ret (by simp [results, Tryz.results74, go_sem, z0', z1', z2', z3']; rfl) rfl ?_
    exact ⟨a0, a1, a2, a3, rfl, ha, R.out, Or.inl rfl, by go_grown⟩

theorem multiplyAdd_e (a b c d : Int) (ha : Wd a) (hb : Wd b) (hc : Wd c) (hd : Wd d) : ∃ h l : Int, h * 18446744073709551616 + l = a * b + c + d ∧ Wd h ∧ Wd l ∧
    ∀ w, Calls Tryz.prog 102 #[.int .u64 a, .int .u64 b, .int .u64 c, .int .u64 d] w fun e w' => e = .returned (.tuple #[.int .u64 h, .int .u64 l]) ∧ w = w' := by
  obtain ⟨p0, p1⟩ := ma_bound a b c d ha hb hc hd
  exact ⟨_, _, by omega, ⟨by omega, by omega⟩, ⟨by omega, by omega⟩, multiplyAdd_c a b c d ha hb hc hd⟩

/-- One round of Montgomery's product: with A the products of a's words and the factor, t the multiple. -/
theorem mont_round (A0 A1 A2 A3 o0 o1 o2 o3 t h0 l0 c0 z h1 l1 c1 q0 h2 l2 c2 q1 h3 l3 c3 q2 : Int) (ht : t = l0 * 14042775128853446655 % 18446744073709551616)
    (e0 : h0 * 18446744073709551616 + l0 = A0 + o0 + 0) (hz : Wd z) (f0 : c0 * 18446744073709551616 + z = 4891460686036598785 * t + l0 + 0)
    (e1 : h1 * 18446744073709551616 + l1 = A1 + o1 + h0) (f1 : c1 * 18446744073709551616 + q0 = 2896914383306846353 * t + l1 + c0)
    (e2 : h2 * 18446744073709551616 + l2 = A2 + o2 + h1) (f2 : c2 * 18446744073709551616 + q1 = 13281191951274694749 * t + l2 + c1)
    (e3 : h3 * 18446744073709551616 + l3 = A3 + o3 + h2) (f3 : c3 * 18446744073709551616 + q2 = 3486998266802970665 * t + l3 + c2) :
    n4 q0 q1 q2 (h3 + c3) * 18446744073709551616 = n4 o0 o1 o2 o3 + n4 A0 A1 A2 A3 + prm * t := by
  have : z = 0 := by
    obtain ⟨z0, z1⟩ := hz
    omega
  subst this
  unfold n4 prm
  omega

/-- b's word of place k; the number of b's first k words. -/
def bw (b0 b1 b2 b3 : Int) : Nat → Int
  | 0 => b0
  | 1 => b1
  | 2 => b2
  | _ => b3
def bp (b0 b1 b2 b3 : Int) : Nat → Int
  | 0 => 0
  | 1 => b0
  | 2 => b0 + b1 * 18446744073709551616
  | 3 => b0 + b1 * 18446744073709551616 + b2 * 340282366920938463463374607431768211456
  | _ => n4 b0 b1 b2 b3
def wp : Nat → Int
  | 0 => 1
  | 1 => 18446744073709551616
  | 2 => 340282366920938463463374607431768211456
  | 3 => 6277101735386680763835789423207666416102355444464034512896
  | _ => 115792089237316195423570985008687907853269984665640564039457584007913129639936

theorem wp_succ (k : Nat) (h : k < 4) : wp (k + 1) = wp k * 18446744073709551616 := by
  have : k = 0 ∨ k = 1 ∨ k = 2 ∨ k = 3 := by omega
  rcases this with rfl | rfl | rfl | rfl <;> rfl
theorem bp_succ (b0 b1 b2 b3 : Int) (k : Nat) (h : k < 4) : bp b0 b1 b2 b3 (k + 1) = bp b0 b1 b2 b3 k + bw b0 b1 b2 b3 k * wp k := by
  have : k = 0 ∨ k = 1 ∨ k = 2 ∨ k = 3 := by omega
  rcases this with rfl | rfl | rfl | rfl <;> simp [bp, bw, wp, n4]
theorem n4_mul (a0 a1 a2 a3 f : Int) : n4 (a0 * f) (a1 * f) (a2 * f) (a3 * f) = n4 a0 a1 a2 a3 * f := by
  unfold n4; grind
theorem n4_nonneg {a0 a1 a2 a3 : Int} (h : W4 a0 a1 a2 a3) : 0 ≤ n4 a0 a1 a2 a3 := by
  obtain ⟨⟨h0, _⟩, ⟨h1, _⟩, ⟨h2, _⟩, ⟨h3, _⟩⟩ := h
  unfold n4; omega
/-- What a round leaves: within its words, below twice the prime, and the equation a word further. -/
theorem mont_fin (a0 a1 a2 a3 b0 b1 b2 b3 o0 o1 o2 o3 f t q0 q1 q2 h3 c3 : Int) (k : Nat) (hk : k < 4) (hA : W4 a0 a1 a2 a3) (hA1 : n4 a0 a1 a2 a3 < prm) (hO : W4 o0 o1 o2 o3) (hO1 : n4 o0 o1 o2 o3 < 2 * prm)
    (hf : f = bw b0 b1 b2 b3 k) (hfw : Wd f) (htw : Wd t) (x0 : Wd q0) (x1 : Wd q1) (x2 : Wd q2) (x3 : Wd h3) (x4 : Wd c3)
    (M : n4 q0 q1 q2 (h3 + c3) * 18446744073709551616 = n4 o0 o1 o2 o3 + n4 (a0 * f) (a1 * f) (a2 * f) (a3 * f) + prm * t)
    (T : Int) (hT : n4 o0 o1 o2 o3 * wp k = n4 a0 a1 a2 a3 * bp b0 b1 b2 b3 k + prm * T) :
    ∃ T : Int, IntKind.u64.wrap (h3 + c3) = h3 + c3 ∧ W4 q0 q1 q2 (h3 + c3) ∧ n4 q0 q1 q2 (h3 + c3) < 2 * prm ∧ n4 q0 q1 q2 (h3 + c3) * wp (k + 1) = n4 a0 a1 a2 a3 * bp b0 b1 b2 b3 (k + 1) + prm * T := by
  rw [n4_mul] at M
  have hA0 := n4_nonneg hA
  have hO0 := n4_nonneg hO
  obtain ⟨f0, f1⟩ := hfw
  obtain ⟨t0, t1⟩ := htw
  obtain ⟨x00, x01⟩ := x0
  obtain ⟨x10, x11⟩ := x1
  obtain ⟨x20, x21⟩ := x2
  obtain ⟨x30, x31⟩ := x3
  obtain ⟨x40, x41⟩ := x4
  have hAf : n4 a0 a1 a2 a3 * f ≤ (prm - 1) * 18446744073709551615 := Int.mul_le_mul (by omega) (by omega) f0 (by decide)
  have hN : n4 q0 q1 q2 (h3 + c3) < 2 * prm := by
    generalize n4 a0 a1 a2 a3 * f = Af at *
    generalize n4 q0 q1 q2 (h3 + c3) = N at *
    generalize n4 o0 o1 o2 o3 = O at *
    unfold prm at *
    omega
  have hw : h3 + c3 < 18446744073709551616 := by
    unfold n4 prm at hN
    omega
  refine ⟨T + t * wp k, by rw [IntKind.wrap_u64]; omega, ⟨⟨x00, x01⟩, ⟨x10, x11⟩, ⟨x20, x21⟩, ⟨by omega, hw⟩⟩, hN, ?_⟩
  rw [wp_succ k hk, bp_succ b0 b1 b2 b3 k hk, ← hf]
  generalize n4 q0 q1 q2 (h3 + c3) = N at *
  generalize n4 o0 o1 o2 o3 = O at *
  generalize n4 a0 a1 a2 a3 = A at *
  generalize bp b0 b1 b2 b3 k = B at *
  generalize wp k = X at *
  clear hAf hN hw
  have : N * (X * 18446744073709551616) = (N * 18446744073709551616) * X := by grind
  rw [this, M]
  have e : (O + A * f + prm * t) * X = O * X + (A * f + prm * t) * X := by grind
  rw [e, hT]
  grind

/-- The relation of product's loop. -/
def PRel (w : World) (a0 a1 a2 a3 b0 b1 b2 b3 : Int) (wr : World) (k : Nat) : Prop :=
  ∃ o0 o1 o2 o3 : Int, B4 wr w.heap.size a0 a1 a2 a3 ∧ B4 wr (w.heap.size + 1 + 1 + 1) o0 o1 o2 o3 ∧ B4 wr (w.heap.size + 1 + 1) 0 0 0 0 ∧ Below w.heap.size w wr ∧ W4 o0 o1 o2 o3 ∧ n4 o0 o1 o2 o3 < 2 * prm ∧
    ∃ T : Int, n4 o0 o1 o2 o3 * wp k = n4 a0 a1 a2 a3 * bp b0 b1 b2 b3 k + prm * T

set_option maxRecDepth 20000 in
set_option maxHeartbeats 4000000 in
theorem product_c (a0 a1 a2 a3 b0 b1 b2 b3 : Int) (w : World) (ha : W4 a0 a1 a2 a3) (hb : W4 b0 b1 b2 b3) (hG : Glob w) (hp : Hid (n4 a0 a1 a2 a3 < prm)) :
    Calls Tryz.prog 71 #[w4 a0 a1 a2 a3, w4 b0 b1 b2 b3] w fun e w' => ∃ r0 r1 r2 r3 : Int, e = .returned (w4 r0 r1 r2 r3) ∧ W4 r0 r1 r2 r3 ∧ n4 r0 r1 r2 r3 < prm ∧
      (∃ T : Int, n4 r0 r1 r2 r3 * 115792089237316195423570985008687907853269984665640564039457584007913129639936 = n4 a0 a1 a2 a3 * n4 b0 b1 b2 b3 + prm * T) ∧ Below w.heap.size w w' := by
  unfold w4
  go_enter Tryz.func71, Tryz.ntmps71
  go_wp2
  go_loopw [15] (fun i wr => ∃ k : Nat, k ≤ 4 ∧ i = .int .i64 k ∧ PRel w a0 a1 a2 a3 b0 b1 b2 b3 wr k) (fun i _ => 4 - (intOf i).toNat)
  case atStart =>
    refine ⟨0, by omega, rfl, 0, 0, 0, 0, ?_, ?_, ?_, ?_, ⟨⟨by decide, by decide⟩, ⟨by decide, by decide⟩, ⟨by decide, by decide⟩, ⟨by decide, by decide⟩⟩, by decide, 0, by simp [wp, bp, n4]⟩
    · exact (((o4_new w 35 a0 a1 a2 a3).alloc _).alloc _).alloc _
    · have h := o4_new (((w.alloc (o4 35 a0 a1 a2 a3)).alloc (o4 35 b0 b1 b2 b3)).alloc (o4 35 0 0 0 0)) 35 0 0 0 0
      rw [show (((w.alloc (o4 35 a0 a1 a2 a3)).alloc (o4 35 b0 b1 b2 b3)).alloc (o4 35 0 0 0 0)).heap.size = w.heap.size + 1 + 1 + 1 by simp] at h
      exact h
    · have h := (o4_new ((w.alloc (o4 35 a0 a1 a2 a3)).alloc (o4 35 b0 b1 b2 b3)) 35 0 0 0 0).alloc (o4 35 0 0 0 0)
      rw [show ((w.alloc (o4 35 a0 a1 a2 a3)).alloc (o4 35 b0 b1 b2 b3)).heap.size = w.heap.size + 1 + 1 by simp] at h
      exact h
    · go_grown
  case round =>
    obtain ⟨k, hk, rfl, hrel⟩ := hrel
    by_cases hlt : k < 4
    · obtain ⟨o0, o1, o2, o3, hA, hO, hZ, hbl, hW, hR⟩ := hrel
      have HR := hid hR
      clear hR
      obtain ⟨f, hf⟩ : ∃ f, f = bw b0 b1 b2 b3 k := ⟨_, rfl⟩
      have hk4 : k = 0 ∨ k = 1 ∨ k = 2 ∨ k = 3 := by omega
      have hfw : Wd f := by
        rw [hf]
        rcases hk4 with rfl | rfl | rfl | rfl
        · exact hb.h0
        · exact hb.h1
        · exact hb.h2
        · exact hb.h3
      have hi : ∀ w, (Instr.index 35 (.agg #[.int .u64 b0, .int .u64 b1, .int .u64 b2, .int .u64 b3]) (.int .i64 (k : Int))).run Tryz.prog w = .ok (.int .u64 f) w := by
        rw [hf]
        rcases hk4 with rfl | rfl | rfl | rfl <;> exact fun _ => rfl
      have HF := hid hf
      clear hf hk4
      obtain ⟨h0, l0, e0, x0, y0, m0⟩ := multiplyAdd_e a0 f o0 0 ha.h0 hfw hW.h0 ⟨by decide, by decide⟩
      obtain ⟨t, ht⟩ : ∃ t, t = l0 * 14042775128853446655 % 18446744073709551616 := ⟨_, rfl⟩
      have htw : Wd t := by rw [ht]; exact ⟨by omega, by omega⟩
      have hwr : IntKind.u64.wrap (l0 * 14042775128853446655) = t := by rw [IntKind.wrap_u64, ht]
      obtain ⟨c0, z, f0, u0, v0, n0⟩ := multiplyAdd_e 4891460686036598785 t l0 0 ⟨by decide, by decide⟩ htw y0 ⟨by decide, by decide⟩
      obtain ⟨h1, l1, e1, x1, y1, m1⟩ := multiplyAdd_e a1 f o1 h0 ha.h1 hfw hW.h1 x0
      obtain ⟨c1, q0, f1, u1, v1, n1⟩ := multiplyAdd_e 2896914383306846353 t l1 c0 ⟨by decide, by decide⟩ htw y1 u0
      obtain ⟨h2, l2, e2, x2, y2, m2⟩ := multiplyAdd_e a2 f o2 h1 ha.h2 hfw hW.h2 x1
      obtain ⟨c2, q1, f2, u2, v2, n2⟩ := multiplyAdd_e 13281191951274694749 t l2 c1 ⟨by decide, by decide⟩ htw y2 u1
      obtain ⟨h3, l3, e3, x3, y3, m3⟩ := multiplyAdd_e a3 f o3 h2 ha.h3 hfw hW.h3 x2
      obtain ⟨c3, q2, f3, u3, v3, n3⟩ := multiplyAdd_e 3486998266802970665 t l3 c2 ⟨by decide, by decide⟩ htw y3 u2
      have FIN : Hid (∃ T : Int, IntKind.u64.wrap (h3 + c3) = h3 + c3 ∧ W4 q0 q1 q2 (h3 + c3) ∧ n4 q0 q1 q2 (h3 + c3) < 2 * prm ∧ n4 q0 q1 q2 (h3 + c3) * wp (k + 1) = n4 a0 a1 a2 a3 * bp b0 b1 b2 b3 (k + 1) + prm * T) := by
        obtain ⟨hn, T, hT⟩ := HR.out
        exact mont_fin a0 a1 a2 a3 b0 b1 b2 b3 o0 o1 o2 o3 f t q0 q1 q2 h3 c3 k hlt ha hp.out hW hn HF.out hfw htw v1 v2 v3 x3 u3
          (mont_round (a0 * f) (a1 * f) (a2 * f) (a3 * f) o0 o1 o2 o3 t h0 l0 c0 z h1 l1 c1 q0 h2 l2 c2 q1 h3 l3 c3 q2 ht e0 v0 f0 e1 f1 e2 f2 e3 f3) T hT
      have M0 := hid m0
      have N0 := hid n0
      have M1 := hid m1
      have N1 := hid n1
      have M2 := hid m2
      have N2 := hid n2
      have M3 := hid m3
      have N3 := hid n3
      clear m0 n0 m1 n1 m2 n2 m3 n3 e0 f0 e1 f1 e2 f2 e3 f3 ht x0 y0 x1 y1 x2 y2 x3 y3 u0 v0 u1 v1 u2 v2 u3 v3 htw hfw
      have k0 : (0 : Int) ≤ (k : Int) := by omega
      have k1 : (k : Int) < 4 := by omega
      have hG1 := hG.up hbl
      have g0 := hG1.p0
      have g1 := hG1.p1
      have g2 := hG1.p2
      have g3 := hG1.p3
      have ca0 := hA.c0
      have ca1 := hA.c1
      have ca2 := hA.c2
      have ca3 := hA.c3
      have co0 := hO.c0
      have co1 := hO.c1
      have co2 := hO.c2
      have co3 := hO.c3
      have fz := hO.frozen
      have sz := hbl.size
      have szP := hG.sizeP
      go_wp2_with fail
      refine (M0.out _).mono ?_
      rintro e w' ⟨rfl, rfl⟩
      go_wp2_with fail
      refine (N0.out _).mono ?_
      rintro e w' ⟨rfl, rfl⟩
      go_wp2_with fail
      refine wp_loop_rounds 4 ?_
      rw [rounds_succ]
      go_wp2_with fail
      go_quiet ((go_at_call 102; exact Calls.quiet_of_same ((M1.out _).mono fun e w' h => ⟨h.1, h.2.symm⟩)))
      go_wp2_with fail
      refine (N1.out _).mono ?_
      rintro e w' ⟨rfl, rfl⟩
      go_wp2_with fail
      rw [rounds_succ]
      go_wp2_with fail
      go_quiet ((go_at_call 102; exact Calls.quiet_of_same ((M2.out _).mono fun e w' h => ⟨h.1, h.2.symm⟩)))
      go_wp2_with fail
      refine (N2.out _).mono ?_
      rintro e w' ⟨rfl, rfl⟩
      go_wp2_with fail
      rw [rounds_succ]
      go_wp2_with fail
      go_quiet ((go_at_call 102; exact Calls.quiet_of_same ((M3.out _).mono fun e w' h => ⟨h.1, h.2.symm⟩)))
      go_wp2_with fail
      refine (N3.out _).mono ?_
      rintro e w' ⟨rfl, rfl⟩
      go_wp2_with fail
      rw [rounds_succ]
      go_wp2_with fail
      obtain ⟨T, hw3, hW', hn', hT'⟩ := FIN.out
      rw [hw3]
      refine ⟨⟨k + 1, by omega, by go_num, q0, q1, q2, h3 + c3, ?_, ?_, ?_, ?_, hW', hn', T, hT'⟩, by simp [intOf]; omega⟩
      · exact (((((((hA.drewN _).other (by omega)).drewN _).other (by omega)).drewN _).other (by omega)).other (by omega))
      · exact ((((((hO.drewN _).s0 q0).drewN _).s1 q1).drewN _).s2 q2).s3 (h3 + c3)
      · exact (((((((hZ.drewN _).other (by omega)).drewN _).other (by omega)).drewN _).other (by omega)).other (by omega))
      · have bs : ∀ {x : World} (i : Nat) (v : Value), Below w.heap.size w x → Below w.heap.size w (x.setCell ⟨w.heap.size + 1 + 1 + 1, i, none⟩ v) := fun i v h => h.setCell (by show w.heap.size ≤ w.heap.size + 1 + 1 + 1; omega) v
        exact bs 3 _ (bs 2 _ (below_drewN (bs 1 _ (below_drewN (bs 0 _ (below_drewN hbl _)) _)) _))
    · have : k = 4 := by omega
      subst this
      obtain ⟨o0, o1, o2, o3, hA, hO, hZ, hbl, hW, hR⟩ := hrel
      have HR := hid hR
      clear hR
      have co0 := hO.c0
      have co1 := hO.c1
      have co2 := hO.c2
      have co3 := hO.c3
      have hG1 := hG.up hbl
      have hz := hid hZ
      clear hA hO hZ ha hb hp
      go_wp2_with fail
      refine (fbelow_c o0 o1 o2 o3 _ hW hG1 (hid HR.out.1)).mono ?_
      rintro e w1 ⟨r0, r1, r2, r3, rfl, hr, hlt, hor, hb1⟩
      have R : Hid (W4 r0 r1 r2 r3 ∧ n4 r0 r1 r2 r3 < prm ∧ ∃ T : Int, n4 r0 r1 r2 r3 * 115792089237316195423570985008687907853269984665640564039457584007913129639936 = n4 a0 a1 a2 a3 * n4 b0 b1 b2 b3 + prm * T) := by
        refine ⟨hr, hlt, ?_⟩
        obtain ⟨_, T, hT⟩ := HR.out
        have hT' : n4 o0 o1 o2 o3 * 115792089237316195423570985008687907853269984665640564039457584007913129639936 = n4 a0 a1 a2 a3 * n4 b0 b1 b2 b3 + prm * T := hT
        rcases hor with h | h
        · exact ⟨T, by rw [h]; exact hT'⟩
        · refine ⟨T - 115792089237316195423570985008687907853269984665640564039457584007913129639936, ?_⟩
          rw [← h] at hT'
          generalize n4 r0 r1 r2 r3 = N at *
          generalize n4 a0 a1 a2 a3 * n4 b0 b1 b2 b3 = M at *
          unfold prm at *
          omega
      have hz1 := hz.out.below (hb1.mono (Nat.le_refl _)) (by have := hz.out.size; omega)
      have hbl1 := hbl.trans (hb1.mono hbl.size)
      have z0' := hz1.c0
      have z1' := hz1.c1
      have z2' := hz1.c2
      have z3' := hz1.c3
      have fz := hz1.frozen
      clear hlt hor hb1 hr co0 co1 co2 co3 hbl hW HR hG1 hz hz1 hG
      unfold w4
      go_wp2
      refine bodyPost_ret (by simp [results, Tryz.results71, go_sem, z0', z1', z2', z3']; rfl) rfl ?_
      exact ⟨r0, r1, r2, r3, rfl, R.out.1, R.out.2.1, R.out.2.2, by go_grown⟩
end Go.Proofs.YtdepkfdceidikaaGreatDoor
