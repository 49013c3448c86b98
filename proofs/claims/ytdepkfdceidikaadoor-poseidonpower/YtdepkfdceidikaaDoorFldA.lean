/-
  field.multiplyAdd, field.add, field.subtract: what each call does.
-/
import Derived.Test.YtdepkfdceidikaaDoorLMul
import Derived.Handy
namespace Go.Proofs.YtdepkfdceidikaaDoor
open Go.RowKit
set_option linter.unusedVariables false

/-- Four words as a value; the number that they are. -/
def w4 (a0 a1 a2 a3 : Int) : Value := .agg #[.int .u64 a0, .int .u64 a1, .int .u64 a2, .int .u64 a3]
def n4 (a0 a1 a2 a3 : Int) : Int := a0 + a1 * 18446744073709551616 + a2 * 340282366920938463463374607431768211456 + a3 * 6277101735386680763835789423207666416102355444464034512896
/-- A word. -/
def Wd (a : Int) : Prop := 0 ≤ a ∧ a < 18446744073709551616
structure W4 (a0 a1 a2 a3 : Int) : Prop where
  h0 : Wd a0
  h1 : Wd a1
  h2 : Wd a2
  h3 : Wd a3

theorem add64_e (x y c : Int) (hx : Wd x) (hy : Wd y) (hc0 : 0 ≤ c) (hc : c ≤ 1) : ∃ s d : Int, Hid (s + d * 18446744073709551616 = x + y + c) ∧ Hid (Wd s) ∧ 0 ≤ d ∧ d ≤ 1 ∧
    ∀ w, (callFunc 81 #[.int .u64 x, .int .u64 y, .int .u64 c]).run Tryd.prog w = .ok (.value (.tuple #[.int .u64 s, .int .u64 d])) w := by
  obtain ⟨hx0, hx1⟩ := hx
  obtain ⟨hy0, hy1⟩ := hy
  refine ⟨(x + y + c) % 18446744073709551616, (x + y + c) / 18446744073709551616, ?_, ⟨by omega, by omega⟩, by omega, by omega, add64 x y c hx0 hy0 hc0 hc⟩
  exact hid (by omega)
theorem sub64_e (x y c : Int) (hx : Wd x) (hy : Wd y) (hc0 : 0 ≤ c) (hc : c ≤ 1) : ∃ s d : Int, Hid (s + y + c = x + d * 18446744073709551616) ∧ Hid (Wd s) ∧ 0 ≤ d ∧ d ≤ 1 ∧
    ∀ w, (callFunc 88 #[.int .u64 x, .int .u64 y, .int .u64 c]).run Tryd.prog w = .ok (.value (.tuple #[.int .u64 s, .int .u64 d])) w := by
  obtain ⟨hx0, hx1⟩ := hx
  obtain ⟨hy0, hy1⟩ := hy
  refine ⟨(x - y - c) % 18446744073709551616, bor x (y + c), ?_, ⟨by omega, by omega⟩, bor_nonneg _ _, bor_le _ _, sub64 x y c hx0 hy0 hy1 hc0 hc⟩
  unfold bor
  exact hid (by split <;> omega)

set_option maxHeartbeats 2000000 in
theorem fadd_c (a0 a1 a2 a3 b0 b1 b2 b3 : Int) (w : World) (ha : W4 a0 a1 a2 a3) (hb : W4 b0 b1 b2 b3) :
    Calls Tryd.prog 79 #[w4 a0 a1 a2 a3, w4 b0 b1 b2 b3] w fun e w' => ∃ r0 r1 r2 r3 c : Int, e = .returned (w4 r0 r1 r2 r3) ∧ W4 r0 r1 r2 r3 ∧ 0 ≤ c ∧ c ≤ 1 ∧ n4 r0 r1 r2 r3 + c * 115792089237316195423570985008687907853269984665640564039457584007913129639936 = n4 a0 a1 a2 a3 + n4 b0 b1 b2 b3 ∧ Below w.heap.size w w' := by
  obtain ⟨s0, d0, e0, x0, l0, m0, r0⟩ := add64_e a0 b0 0 ha.h0 hb.h0 (Int.le_refl _) (by decide)
  obtain ⟨s1, d1, e1, x1, l1, m1, r1⟩ := add64_e a1 b1 d0 ha.h1 hb.h1 l0 m0
  obtain ⟨s2, d2, e2, x2, l2, m2, r2⟩ := add64_e a2 b2 d1 ha.h2 hb.h2 l1 m1
  obtain ⟨s3, d3, e3, x3, l3, m3, r3⟩ := add64_e a3 b3 d2 ha.h3 hb.h3 l2 m2
  have R : Hid (W4 s0 s1 s2 s3 ∧ 0 ≤ d3 ∧ d3 ≤ 1 ∧ n4 s0 s1 s2 s3 + d3 * 115792089237316195423570985008687907853269984665640564039457584007913129639936 = n4 a0 a1 a2 a3 + n4 b0 b1 b2 b3) := by
    have e0 := e0.out
    have e1 := e1.out
    have e2 := e2.out
    have e3 := e3.out
    exact ⟨⟨x0.out, x1.out, x2.out, x3.out⟩, l3, m3, by unfold n4; omega⟩
  clear l0 l1 l2 l3 m0 m1 m2 m3
  unfold w4
  go_enter Tryd.func79, Tryd.ntmps79
  go_wp2
  refine wp_loop_rounds 5 ?_
  iterate 4
    rw [rounds_succ]
    go_wp2
    go_region
    go_wp2
  rw [rounds_succ]
  go_wp2
  go_returns
  obtain ⟨h1, h2, h3, h4⟩ := R.out
  exact ⟨s0, s1, s2, s3, d3, rfl, h1, h2, h3, h4, by go_grown⟩

set_option maxHeartbeats 2000000 in
theorem fsubtract_c (a0 a1 a2 a3 b0 b1 b2 b3 : Int) (w : World) (ha : W4 a0 a1 a2 a3) (hb : W4 b0 b1 b2 b3) :
    Calls Tryd.prog 78 #[w4 a0 a1 a2 a3, w4 b0 b1 b2 b3] w fun e w' => ∃ r0 r1 r2 r3 c : Int, e = .returned (.tuple #[w4 r0 r1 r2 r3, .int .u64 c]) ∧ W4 r0 r1 r2 r3 ∧ 0 ≤ c ∧ c ≤ 1 ∧ n4 r0 r1 r2 r3 + n4 b0 b1 b2 b3 = n4 a0 a1 a2 a3 + c * 115792089237316195423570985008687907853269984665640564039457584007913129639936 ∧ Below w.heap.size w w' := by
  obtain ⟨s0, d0, e0, x0, l0, m0, r0⟩ := sub64_e a0 b0 0 ha.h0 hb.h0 (Int.le_refl _) (by decide)
  obtain ⟨s1, d1, e1, x1, l1, m1, r1⟩ := sub64_e a1 b1 d0 ha.h1 hb.h1 l0 m0
  obtain ⟨s2, d2, e2, x2, l2, m2, r2⟩ := sub64_e a2 b2 d1 ha.h2 hb.h2 l1 m1
  obtain ⟨s3, d3, e3, x3, l3, m3, r3⟩ := sub64_e a3 b3 d2 ha.h3 hb.h3 l2 m2
  have R : Hid (W4 s0 s1 s2 s3 ∧ 0 ≤ d3 ∧ d3 ≤ 1 ∧ n4 s0 s1 s2 s3 + n4 b0 b1 b2 b3 = n4 a0 a1 a2 a3 + d3 * 115792089237316195423570985008687907853269984665640564039457584007913129639936) := by
    have e0 := e0.out
    have e1 := e1.out
    have e2 := e2.out
    have e3 := e3.out
    exact ⟨⟨x0.out, x1.out, x2.out, x3.out⟩, l3, m3, by unfold n4; omega⟩
  clear l0 l1 l2 l3 m0 m1 m2 m3
  unfold w4
  go_enter Tryd.func78, Tryd.ntmps78
  go_wp2
  refine wp_loop_rounds 5 ?_
  iterate 4
    rw [rounds_succ]
    go_wp2
    go_region
    go_wp2
  rw [rounds_succ]
  go_wp2
  go_returns
  obtain ⟨h1, h2, h3, h4⟩ := R.out
  exact ⟨s0, s1, s2, s3, d3, rfl, h1, h2, h3, h4, by go_grown⟩

theorem ma_bound (a b c d : Int) (ha : Wd a) (hb : Wd b) (hc : Wd c) (hd : Wd d) : 0 ≤ a * b + c + d ∧ a * b + c + d < 340282366920938463463374607431768211456 := by
  obtain ⟨ha0, ha1⟩ := ha
  obtain ⟨hb0, hb1⟩ := hb
  obtain ⟨hc0, hc1⟩ := hc
  obtain ⟨hd0, hd1⟩ := hd
  obtain ⟨x, rfl⟩ := Int.eq_ofNat_of_zero_le ha0
  obtain ⟨y, rfl⟩ := Int.eq_ofNat_of_zero_le hb0
  have := mul_bound x y (by omega) (by omega)
  have e : (x : Int) * (y : Int) = ((x * y : Nat) : Int) := by simp
  rw [e]
  omega

set_option maxHeartbeats 1000000 in
theorem multiplyAdd_c (a b c d : Int) (ha : Wd a) (hb : Wd b) (hc : Wd c) (hd : Wd d) (w : World) :
    Calls Tryd.prog 59 #[.int .u64 a, .int .u64 b, .int .u64 c, .int .u64 d] w fun e w' => e = .returned (.tuple #[.int .u64 ((a * b + c + d) / 18446744073709551616), .int .u64 ((a * b + c + d) % 18446744073709551616)]) ∧ w = w' := by
  obtain ⟨p0, p1⟩ := ma_bound a b c d ha hb hc hd
  obtain ⟨hl0, hl1⟩ := mulLo_bd a b
  obtain ⟨hh0, hh1⟩ := mulHi_bd a b ha.1 ha.2 hb.1 hb.2
  obtain ⟨hi, hhi⟩ : ∃ h, h = mulHi a b := ⟨_, rfl⟩
  obtain ⟨lo, hlo⟩ : ∃ l, l = mulLo a b := ⟨_, rfl⟩
  have eab : a * b = lo + hi * 18446744073709551616 := by rw [hhi, hlo]; unfold mulHi mulLo; omega
  rw [← hlo] at hl0 hl1
  rw [← hhi] at hh0 hh1
  obtain ⟨s0, d0, e0, x0, l0, m0, r0⟩ := add64_e lo c 0 ⟨hl0, hl1⟩ hc (Int.le_refl _) (by decide)
  obtain ⟨s1, d1, e1, x1, l1, m1, r1⟩ := add64_e s0 d 0 x0.out hd (Int.le_refl _) (by decide)
  have R : Hid (IntKind.u64.wrap (IntKind.u64.wrap (hi + d0) + d1) = (a * b + c + d) / 18446744073709551616 ∧ s1 = (a * b + c + d) % 18446744073709551616) := by
    have e0 := e0.out
    have e1 := e1.out
    obtain ⟨y0, y1⟩ := x1.out
    rw [IntKind.wrap_u64, IntKind.wrap_u64]
    rw [eab] at p0 p1 ⊢
    constructor <;> omega
  have hm := hid (mul64_c a b ha.1 ha.2 hb.1 hb.2)
  rw [← hhi, ← hlo] at hm
  have EAB := hid eab
  clear eab p0 p1 hhi hlo hl0 hl1 hh0 hh1 l0 m0 l1 m1
  go_enter Tryd.func59, Tryd.ntmps59
  go_wp2_with fail
  refine (hm.out _).mono ?_
  rintro e w' ⟨rfl, rfl⟩
  go_wp2
  go_returns
  obtain ⟨h1, h2⟩ := R.out
  exact ⟨by rw [h1, h2]; rfl, rfl⟩
end Go.Proofs.YtdepkfdceidikaaDoor
