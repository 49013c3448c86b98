import Derived.Test.YtfonpmahcdmajaaDoorLSub
import Derived.Shelf.Bits.Mul64
import Derived.Handy
/-
  bits.Mul64, limb.addMultiple, limb.subMultiple: what each call does.
-/
namespace Go.Proofs.YtfonpmahcdmajaaDoor
open Go.RowKit
set_option linter.unusedVariables false

/-- The high and the low word of a product. -/
def mulHi (x y : Int) : Int := x * y / 18446744073709551616
def mulLo (x y : Int) : Int := x * y % 18446744073709551616

set_option maxHeartbeats 1000000 in
theorem mul64_n (x y : Nat) (hx : x < 18446744073709551616) (hy : y < 18446744073709551616) (w : World) :
    Calls Tryd.prog 118 #[.int .u64 x, .int .u64 y] w fun e w' => e = .returned (.tuple #[.int .u64 ((x * y / 18446744073709551616 : Nat) : Int), .int .u64 ((x * y % 18446744073709551616 : Nat) : Int)]) ∧ w = w' := by
  obtain ⟨bd, bt, bw, hhi⟩ := Lib.mul64_hi x y hx hy
  have ba := Lib.half_mul_le (a := x / 4294967296) (b := y / 4294967296) (by omega) (by omega)
  have bb := Lib.half_mul_le (a := x / 4294967296) (b := y % 4294967296) (by omega) (by omega)
  have bc := Lib.half_mul_le (a := x % 4294967296) (b := y / 4294967296) (by omega) (by omega)
  have ba' : x / 4294967296 * (y / 4294967296) < 18446744073709551616 := by omega
  have bb' : x / 4294967296 * (y % 4294967296) < 18446744073709551616 := by omega
  have bc' : x % 4294967296 * (y / 4294967296) < 18446744073709551616 := by omega
  have bh1 : x / 4294967296 * (y / 4294967296) + (x / 4294967296 * (y % 4294967296) + x % 4294967296 * (y % 4294967296) / 4294967296) / 4294967296 < 18446744073709551616 := by omega
  have bh : x / 4294967296 * (y / 4294967296) + (x / 4294967296 * (y % 4294967296) + x % 4294967296 * (y % 4294967296) / 4294967296) / 4294967296 + ((x / 4294967296 * (y % 4294967296) + x % 4294967296 * (y % 4294967296) / 4294967296) % 4294967296 + x % 4294967296 * (y / 4294967296)) / 4294967296 < 18446744073709551616 := by omega
  go_enter Tryd.func118, Tryd.ntmps118
  go_wp2
  simp only [Mul64.maskN x hx, Mul64.maskN y hy, Mul64.divN, Mul64.mulN, Mul64.addN, Mul64.wrapN _ bd, Mul64.wrapN _ bb', Mul64.wrapN _ bt, Mul64.maskN _ bt, Mul64.wrapN _ bc', Mul64.wrapN _ bw, Mul64.wrapN _ ba', Mul64.wrapN _ bh1, Mul64.wrapN _ bh, Mul64.wrapM (x * y)]
  rw [hhi]
  go_ret2
  exact ⟨rfl, rfl⟩
theorem mul64_c (x y : Int) (hx0 : 0 ≤ x) (hx : x < 18446744073709551616) (hy0 : 0 ≤ y) (hy : y < 18446744073709551616) (w : World) :
    Calls Tryd.prog 118 #[.int .u64 x, .int .u64 y] w fun e w' => e = .returned (.tuple #[.int .u64 (mulHi x y), .int .u64 (mulLo x y)]) ∧ w = w' := by
  obtain ⟨x, rfl⟩ := Int.eq_ofNat_of_zero_le hx0
  obtain ⟨y, rfl⟩ := Int.eq_ofNat_of_zero_le hy0
  refine (mul64_n x y (by omega) (by omega) w).mono ?_
  rintro e w' ⟨rfl, rfl⟩
  exact ⟨rfl, rfl⟩

theorem mul_bound (x y : Nat) (hx : x < 18446744073709551616) (hy : y < 18446744073709551616) : x * y ≤ 340282366920938463426481119284349108225 :=
  Nat.mul_le_mul (Nat.le_of_lt_succ hx) (Nat.le_of_lt_succ hy)
theorem mulHi_bd (x y : Int) (hx0 : 0 ≤ x) (hx : x < 18446744073709551616) (hy0 : 0 ≤ y) (hy : y < 18446744073709551616) : 0 ≤ mulHi x y ∧ mulHi x y ≤ 18446744073709551614 := by
  obtain ⟨x, rfl⟩ := Int.eq_ofNat_of_zero_le hx0
  obtain ⟨y, rfl⟩ := Int.eq_ofNat_of_zero_le hy0
  have := mul_bound x y (by omega) (by omega)
  unfold mulHi
  rw [← Int.natCast_mul]
  omega
theorem mulLo_bd (x y : Int) : 0 ≤ mulLo x y ∧ mulLo x y < 18446744073709551616 := by unfold mulLo; omega

theorem getD_drop (l : List Nat) (o k : Nat) : (l.drop o).getD k 0 = l.getD (o + k) 0 := by simp [List.getD_eq_getElem?_getD]
theorem pv_drop_set (W : Nat) (ws : List Nat) (o k s : Nat) (h : o + k < ws.length) : pv W ((ws.set (o + k) s).drop o) (k + 1) = pv W (ws.drop o) k + s * W ^ k := by
  rw [pv_succ, getD_drop, getD_set_eq _ _ _ h]
  congr 1
  exact pv_congr W _ _ k fun i hi => by rw [getD_drop, getD_drop, getD_set_ne _ _ _ _ (by omega)]

/-- The relation of addMultiple's loop. -/
def AMRel (w : World) (b o n : Nat) (ws0 lb : List Nat) (f : Nat) (wr : World) (k c : Nat) : Prop :=
  ∃ ws : List Nat, ws.length = ws0.length ∧ BlkW wr b 22 ws ∧ Below b w wr ∧ (∀ j, (j < o ∨ o + k ≤ j) → ws.getD j 0 = ws0.getD j 0) ∧ c < 18446744073709551616 ∧
    pv 18446744073709551616 (ws.drop o) k + c * 18446744073709551616 ^ k = pv 18446744073709551616 (ws0.drop o) k + f * pv 18446744073709551616 lb k

theorem am_step (W p q r c s c' x y f P : Nat) (h : r + c * P = p + f * q) (e : s + c' * W = x + y * f + c) : (r + s * P) + c' * (P * W) = (p + x * P) + f * (q + y * P) := by
  have : (s + c' * W) * P = (x + y * f + c) * P := by rw [e]
  grind

theorem am_word (o p c : Nat) (ho : o < 18446744073709551616) (hp : p ≤ 340282366920938463426481119284349108225) (hc : c < 18446744073709551616) :
    p / 18446744073709551616 + (p % 18446744073709551616 + c) / 18446744073709551616 + (o + (p % 18446744073709551616 + c) % 18446744073709551616) / 18446744073709551616 < 18446744073709551616 ∧
    (o + (p % 18446744073709551616 + c) % 18446744073709551616) % 18446744073709551616 + (p / 18446744073709551616 + (p % 18446744073709551616 + c) / 18446744073709551616 + (o + (p % 18446744073709551616 + c) % 18446744073709551616) / 18446744073709551616) * 18446744073709551616 = o + p + c := by
  omega

/-- The word that is stored, and the carry that goes on. -/
def amS (o x f c : Int) : Int := (o + (mulLo x f + c)) % 18446744073709551616
def amC (o x f c : Int) : Int := mulHi x f + (mulLo x f + c) / 18446744073709551616 + (o + (mulLo x f + c) % 18446744073709551616) / 18446744073709551616

theorem AMRel.step {w wr : World} {b o n k c f : Nat} {ws0 lb ws : List Nat} (hb : allLt lb) (h0 : allLt ws0) (hf : f < 18446744073709551616) (h : AMRel w b o n ws0 lb f wr k c) (hk : o + k < ws0.length) :
    ∃ c' : Nat, (c' : Int) = amC (at64 ws0 (o + k)) (at64 lb k) f c ∧ AMRel w b o n ws0 lb f (wr.setCell ⟨b, o + k, none⟩ (.int .u64 (amS (at64 ws0 (o + k)) (at64 lb k) f c))) (k + 1) c' := by
  obtain ⟨ws, hl, hB, hb', hj, hc, he⟩ := h
  have h1 := getD_lt _ (by decide) ws0 h0 (o + k)
  have h2 := getD_lt _ (by decide) lb hb k
  have h3 := mul_bound _ _ h2 hf
  obtain ⟨g1, g2⟩ := am_word _ _ c h1 h3 hc
  refine ⟨_, ?_, ws.set (o + k) ((ws0.getD (o + k) 0 + (lb.getD k 0 * f % 18446744073709551616 + c) % 18446744073709551616) % 18446744073709551616), by simp [hl], hB.setI _ _ _ (Nat.mod_lt _ (by decide)) ?_, hb'.setCell (Nat.le_refl _) _, ?_, g1, ?_⟩
  · unfold amC mulHi mulLo at64
    rw [← Int.natCast_mul]; omega
  · unfold amS mulLo at64
    rw [← Int.natCast_mul]; omega
  · intro j hjj
    rw [getD_set_ne _ _ _ _ (by omega)]
    exact hj j (by omega)
  · rw [pv_drop_set _ _ _ _ _ (by omega), pv_succ, pv_succ, Nat.pow_succ, getD_drop]
    exact am_step _ _ _ _ c _ _ _ _ _ _ he g2

set_option maxHeartbeats 1000000 in
theorem addMultiple_c (A Bb : Option Addr) (b o n ca cb : Nat) (ws0 lb : List Nat) (f : Nat) (w : World) (hA : 0 < n → A = some ⟨b, o, none⟩) (hw : BlkW w b 22 ws0) (ho : o + n ≤ ws0.length)
    (hb : Rd w b Bb n lb) (hf : f < 18446744073709551616) (hn : n ≤ 100000) :
    Calls Tryd.prog 108 #[.slice A n ca, .slice Bb n cb, .int .u64 f] w fun e w' => ∃ c : Nat, e = .returned (.int .u64 c) ∧ AMRel w b o n ws0 lb f w' n c := by
  have hf0 : (0 : Int) ≤ f := by omega
  have hf1 : (f : Int) < 18446744073709551616 := by omega
  go_enter Tryd.func108, Tryd.ntmps108
  go_wp2
  go_loopw [7, 15] (fun c i wr => ∃ k q : Nat, k ≤ n ∧ i = .int .i64 k ∧ c = .int .u64 q ∧ AMRel w b o n ws0 lb f wr k q) (fun _ i _ => n - (intOf i).toNat)
  case atStart =>
    exact ⟨0, 0, Nat.zero_le _, rfl, rfl, ws0, rfl, hw, Below.refl _ _, fun _ _ => rfl, by omega, by simp [pv]⟩
  case round =>
    obtain ⟨k, q, hk, rfl, rfl, hrel⟩ := hrel
    by_cases hlt : k < n
    · have hst := AMRel.step (n := n) (ws := ws0) hb.lt hw.lt hf hrel (by omega)
      obtain ⟨ws, hl, hB, hbl, hj, hq, he⟩ := hrel
      have rb := hb.below hbl (Nat.le_refl _)
      obtain ⟨bb, ob, rfl, hbb, hcb⟩ := rb.at_ hlt
      obtain rfl := hA (by omega)
      have hcell := hB.cell (i := o + k) (by omega)
      have hfz := hB.frozen (o + k)
      have hgd : at64 ws (o + k) = at64 ws0 (o + k) := by unfold at64; rw [hj _ (Or.inr (Nat.le_refl _))]
      rw [hgd] at hcell
      have h1 := at64_nonneg lb k
      have h1' := at64_lt hb.lt k
      have h2 := at64_nonneg ws0 (o + k)
      have h2' := at64_lt hw.lt (o + k)
      have q0 : (0 : Int) ≤ q := by omega
      have q1 : (q : Int) < 18446744073709551616 := by omega
      obtain ⟨l0, l1⟩ := mulLo_bd (at64 lb k) f
      obtain ⟨m0, m1⟩ := mulHi_bd (at64 lb k) f h1 h1' hf0 hf1
      clear hl hj he hgd
      go_wp2_with fail
      refine (mul64_c _ _ h1 h1' hf0 hf1 _).mono ?_
      rintro e w' ⟨rfl, rfl⟩
      go_wp2_with (first | simp only [add64_0 _ _ l0 q0] | simp only [add64_0 _ _ h2 (show (0:Int) ≤ (mulLo (at64 lb k) f + q) % 18446744073709551616 by omega)])
      go_roundw
      case rel =>
        obtain ⟨c', e', r'⟩ := hst
        refine ⟨k + 1, c', by omega, by go_num, ?_, r'⟩
        have : c' < 18446744073709551616 := (by obtain ⟨_, _, _, _, _, h, _⟩ := r'; exact h)
        rw [IntKind.wrap_u64, e']
        have e2 : amC (at64 ws0 (o + k)) (at64 lb k) f q % 18446744073709551616 = amC (at64 ws0 (o + k)) (at64 lb k) f q := by omega
        rw [← e2]; rfl
      case measure => simp [intOf]; omega
    · have : k = n := by omega
      subst this
      go_wp2
      go_ret
      exact ⟨q, rfl, hrel⟩
end Go.Proofs.YtfonpmahcdmajaaDoor
/-
  field.multiplyAdd, field.add, field.subtract: what each call does.
-/
namespace Go.Proofs.YtfonpmahcdmajaaDoor
open Go.RowKit
set_option linter.unusedVariables false

/-- Four words as a value; the number that they are. -/
def w4 (a0 a1 a2 a3 : Int) : Value := .agg #[.int .u64 a0, .int .u64 a1, .int .u64 a2, .int .u64 a3]
def n4 (a0 a1 a2 a3 : Int) : Int := a0 + a1 * 18446744073709551616 + a2 * 340282366920938463463374607431768211456 + a3 * 6277101735386680763835789423207666416102355444464034512896
/-- A word. -/
def Wd (a : Int) : Prop := 0 ≤ a ∧ a < 18446744073709551616
structure W4 (a0 a1 a2 a3 : Int) : Prop where
  h0 : Wd a0
  h1 : Wd a1
  h2 : Wd a2
  h3 : Wd a3

theorem add64_e (x y c : Int) (hx : Wd x) (hy : Wd y) (hc0 : 0 ≤ c) (hc : c ≤ 1) : ∃ s d : Int, Hid (s + d * 18446744073709551616 = x + y + c) ∧ Hid (Wd s) ∧ 0 ≤ d ∧ d ≤ 1 ∧
    ∀ w, (callFunc 115 #[.int .u64 x, .int .u64 y, .int .u64 c]).run Tryd.prog w = .ok (.value (.tuple #[.int .u64 s, .int .u64 d])) w := by
  obtain ⟨hx0, hx1⟩ := hx
  obtain ⟨hy0, hy1⟩ := hy
  refine ⟨(x + y + c) % 18446744073709551616, (x + y + c) / 18446744073709551616, ?_, ⟨by omega, by omega⟩, by omega, by omega, add64 x y c hx0 hy0 hc0 hc⟩
  exact hid (by omega)
theorem sub64_e (x y c : Int) (hx : Wd x) (hy : Wd y) (hc0 : 0 ≤ c) (hc : c ≤ 1) : ∃ s d : Int, Hid (s + y + c = x + d * 18446744073709551616) ∧ Hid (Wd s) ∧ 0 ≤ d ∧ d ≤ 1 ∧
    ∀ w, (callFunc 114 #[.int .u64 x, .int .u64 y, .int .u64 c]).run Tryd.prog w = .ok (.value (.tuple #[.int .u64 s, .int .u64 d])) w := by
  obtain ⟨hx0, hx1⟩ := hx
  obtain ⟨hy0, hy1⟩ := hy
  refine ⟨(x - y - c) % 18446744073709551616, bor x (y + c), ?_, ⟨by omega, by omega⟩, bor_nonneg _ _, bor_le _ _, sub64 x y c hx0 hy0 hy1 hc0 hc⟩
  unfold bor
  exact hid (by split <;> omega)

set_option maxHeartbeats 2000000 in
theorem fsubtract_c (a0 a1 a2 a3 b0 b1 b2 b3 : Int) (w : World) (ha : W4 a0 a1 a2 a3) (hb : W4 b0 b1 b2 b3) :
    Calls Tryd.prog 120 #[w4 a0 a1 a2 a3, w4 b0 b1 b2 b3] w fun e w' => ∃ r0 r1 r2 r3 c : Int, e = .returned (.tuple #[w4 r0 r1 r2 r3, .int .u64 c]) ∧ W4 r0 r1 r2 r3 ∧ 0 ≤ c ∧ c ≤ 1 ∧ n4 r0 r1 r2 r3 + n4 b0 b1 b2 b3 = n4 a0 a1 a2 a3 + c * 115792089237316195423570985008687907853269984665640564039457584007913129639936 ∧ Below w.heap.size w w' := by
  obtain ⟨s0, d0, e0, x0, l0, m0, r0⟩ := sub64_e a0 b0 0 ha.h0 hb.h0 (Int.le_refl _) (by decide)
  obtain ⟨s1, d1, e1, x1, l1, m1, r1⟩ := sub64_e a1 b1 d0 ha.h1 hb.h1 l0 m0
  obtain ⟨s2, d2, e2, x2, l2, m2, r2⟩ := sub64_e a2 b2 d1 ha.h2 hb.h2 l1 m1
  obtain ⟨s3, d3, e3, x3, l3, m3, r3⟩ := sub64_e a3 b3 d2 ha.h3 hb.h3 l2 m2
  have R : Hid (W4 s0 s1 s2 s3 ∧ 0 ≤ d3 ∧ d3 ≤ 1 ∧ n4 s0 s1 s2 s3 + n4 b0 b1 b2 b3 = n4 a0 a1 a2 a3 + d3 * 115792089237316195423570985008687907853269984665640564039457584007913129639936) := by
    have e0 := e0.out
    have e1 := e1.out
    have e2 := e2.out
    have e3 := e3.out
    exact ⟨⟨x0.out, x1.out, x2.out, x3.out⟩, l3, m3, by unfold n4; omega⟩
  clear l0 l1 l2 l3 m0 m1 m2 m3
  unfold w4
  go_enter Tryd.func120, Tryd.ntmps120
  go_wp2
  refine wp_loop_rounds 5 ?_
  iterate 4
    rw [rounds_succ]
    go_wp2
    go_region
    go_wp2
  rw [rounds_succ]
  go_wp2
  go_returns
  obtain ⟨h1, h2, h3, h4⟩ := R.out
  exact ⟨s0, s1, s2, s3, d3, rfl, h1, h2, h3, h4, by go_grown⟩

theorem ma_bound (a b c d : Int) (ha : Wd a) (hb : Wd b) (hc : Wd c) (hd : Wd d) : 0 ≤ a * b + c + d ∧ a * b + c + d < 340282366920938463463374607431768211456 := by
  obtain ⟨ha0, ha1⟩ := ha
  obtain ⟨hb0, hb1⟩ := hb
  obtain ⟨hc0, hc1⟩ := hc
  obtain ⟨hd0, hd1⟩ := hd
  obtain ⟨x, rfl⟩ := Int.eq_ofNat_of_zero_le ha0
  obtain ⟨y, rfl⟩ := Int.eq_ofNat_of_zero_le hb0
  have := mul_bound x y (by omega) (by omega)
  have e : (x : Int) * (y : Int) = ((x * y : Nat) : Int) := by simp
  rw [e]
  omega

set_option maxHeartbeats 1000000 in
theorem multiplyAdd_c (a b c d : Int) (ha : Wd a) (hb : Wd b) (hc : Wd c) (hd : Wd d) (w : World) :
    Calls Tryd.prog 112 #[.int .u64 a, .int .u64 b, .int .u64 c, .int .u64 d] w fun e w' => e = .returned (.tuple #[.int .u64 ((a * b + c + d) / 18446744073709551616), .int .u64 ((a * b + c + d) % 18446744073709551616)]) ∧ w = w' := by
  obtain ⟨p0, p1⟩ := ma_bound a b c d ha hb hc hd
  obtain ⟨hl0, hl1⟩ := mulLo_bd a b
  obtain ⟨hh0, hh1⟩ := mulHi_bd a b ha.1 ha.2 hb.1 hb.2
  obtain ⟨hi, hhi⟩ : ∃ h, h = mulHi a b := ⟨_, rfl⟩
  obtain ⟨lo, hlo⟩ : ∃ l, l = mulLo a b := ⟨_, rfl⟩
  have eab : a * b = lo + hi * 18446744073709551616 := by rw [hhi, hlo]; unfold mulHi mulLo; omega
  rw [← hlo] at hl0 hl1
  rw [← hhi] at hh0 hh1
  obtain ⟨s0, d0, e0, x0, l0, m0, r0⟩ := add64_e lo c 0 ⟨hl0, hl1⟩ hc (Int.le_refl _) (by decide)
  obtain ⟨s1, d1, e1, x1, l1, m1, r1⟩ := add64_e s0 d 0 x0.out hd (Int.le_refl _) (by decide)
  have R : Hid (IntKind.u64.wrap (IntKind.u64.wrap (hi + d0) + d1) = (a * b + c + d) / 18446744073709551616 ∧ s1 = (a * b + c + d) % 18446744073709551616) := by
    have e0 := e0.out
    have e1 := e1.out
    obtain ⟨y0, y1⟩ := x1.out
    rw [IntKind.wrap_u64, IntKind.wrap_u64]
    rw [eab] at p0 p1 ⊢
    constructor <;> omega
  have hm := hid (mul64_c a b ha.1 ha.2 hb.1 hb.2)
  rw [← hhi, ← hlo] at hm
  have EAB := hid eab
  clear eab p0 p1 hhi hlo hl0 hl1 hh0 hh1 l0 m0 l1 m1
  go_enter Tryd.func112, Tryd.ntmps112
  go_wp2_with fail
  refine (hm.out _).mono ?_
  rintro e w' ⟨rfl, rfl⟩
  go_wp2
  go_returns
  obtain ⟨h1, h2⟩ := R.out
  exact ⟨by rw [h1, h2]; rfl, rfl⟩
end Go.Proofs.YtfonpmahcdmajaaDoor
