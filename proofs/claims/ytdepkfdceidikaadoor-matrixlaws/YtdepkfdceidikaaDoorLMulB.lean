import Derived.Test.YtdepkfdceidikaaDoorLSub
import Derived.Shelf.Bits.Mul64
/-
  bits.Mul64, limb.addMultiple, limb.subMultiple: what each call does.
-/
namespace Go.Proofs.YtdepkfdceidikaaDoor
open Go.RowKit
set_option linter.unusedVariables false

/-- The high and the low word of a product. -/
def mulHi (x y : Int) : Int := x * y / 18446744073709551616
def mulLo (x y : Int) : Int := x * y % 18446744073709551616

set_option maxHeartbeats 1000000 in
theorem mul64_n (x y : Nat) (hx : x < 18446744073709551616) (hy : y < 18446744073709551616) (w : World) :
    Calls Tryd.prog 80 #[.int .u64 x, .int .u64 y] w fun e w' => e = .returned (.tuple #[.int .u64 ((x * y / 18446744073709551616 : Nat) : Int), .int .u64 ((x * y % 18446744073709551616 : Nat) : Int)]) ∧ w = w' := by
  obtain ⟨bd, bt, bw, hhi⟩ := Lib.mul64_hi x y hx hy
  have ba := Lib.half_mul_le (a := x / 4294967296) (b := y / 4294967296) (by omega) (by omega)
  have bb := Lib.half_mul_le (a := x / 4294967296) (b := y % 4294967296) (by omega) (by omega)
  have bc := Lib.half_mul_le (a := x % 4294967296) (b := y / 4294967296) (by omega) (by omega)
  have ba' : x / 4294967296 * (y / 4294967296) < 18446744073709551616 := by omega
  have bb' : x / 4294967296 * (y % 4294967296) < 18446744073709551616 := by omega
  have bc' : x % 4294967296 * (y / 4294967296) < 18446744073709551616 := by omega
  have bh1 : x / 4294967296 * (y / 4294967296) + (x / 4294967296 * (y % 4294967296) + x % 4294967296 * (y % 4294967296) / 4294967296) / 4294967296 < 18446744073709551616 := by omega
  have bh : x / 4294967296 * (y / 4294967296) + (x / 4294967296 * (y % 4294967296) + x % 4294967296 * (y % 4294967296) / 4294967296) / 4294967296 + ((x / 4294967296 * (y % 4294967296) + x % 4294967296 * (y % 4294967296) / 4294967296) % 4294967296 + x % 4294967296 * (y / 4294967296)) / 4294967296 < 18446744073709551616 := by omega
  go_enter Tryd.func80, Tryd.ntmps80
  go_wp2
  simp only [Mul64.maskN x hx, Mul64.maskN y hy, Mul64.divN, Mul64.mulN, Mul64.addN, Mul64.wrapN _ bd, Mul64.wrapN _ bb', Mul64.wrapN _ bt, Mul64.maskN _ bt, Mul64.wrapN _ bc', Mul64.wrapN _ bw, Mul64.wrapN _ ba', Mul64.wrapN _ bh1, Mul64.wrapN _ bh, Mul64.wrapM (x * y)]
  rw [hhi]
  go_ret2
  exact ⟨rfl, rfl⟩
theorem mul64_c (x y : Int) (hx0 : 0 ≤ x) (hx : x < 18446744073709551616) (hy0 : 0 ≤ y) (hy : y < 18446744073709551616) (w : World) :
    Calls Tryd.prog 80 #[.int .u64 x, .int .u64 y] w fun e w' => e = .returned (.tuple #[.int .u64 (mulHi x y), .int .u64 (mulLo x y)]) ∧ w = w' := by
  obtain ⟨x, rfl⟩ := Int.eq_ofNat_of_zero_le hx0
  obtain ⟨y, rfl⟩ := Int.eq_ofNat_of_zero_le hy0
  refine (mul64_n x y (by omega) (by omega) w).mono ?_
  rintro e w' ⟨rfl, rfl⟩
  exact ⟨rfl, rfl⟩

theorem mul_bound (x y : Nat) (hx : x < 18446744073709551616) (hy : y < 18446744073709551616) : x * y ≤ 340282366920938463426481119284349108225 :=
  Nat.mul_le_mul (Nat.le_of_lt_succ hx) (Nat.le_of_lt_succ hy)
theorem mulHi_bd (x y : Int) (hx0 : 0 ≤ x) (hx : x < 18446744073709551616) (hy0 : 0 ≤ y) (hy : y < 18446744073709551616) : 0 ≤ mulHi x y ∧ mulHi x y ≤ 18446744073709551614 := by
  obtain ⟨x, rfl⟩ := Int.eq_ofNat_of_zero_le hx0
  obtain ⟨y, rfl⟩ := Int.eq_ofNat_of_zero_le hy0
  have := mul_bound x y (by omega) (by omega)
  unfold mulHi
  rw [← Int.natCast_mul]
  omega
theorem mulLo_bd (x y : Int) : 0 ≤ mulLo x y ∧ mulLo x y < 18446744073709551616 := by unfold mulLo; omega

theorem getD_drop (l : List Nat) (o k : Nat) : (l.drop o).getD k 0 = l.getD (o + k) 0 := by simp [List.getD_eq_getElem?_getD]
theorem pv_drop_set (W : Nat) (ws : List Nat) (o k s : Nat) (h : o + k < ws.length) : pv W ((ws.set (o + k) s).drop o) (k + 1) = pv W (ws.drop o) k + s * W ^ k := by
  rw [pv_succ, getD_drop, getD_set_eq _ _ _ h]
  congr 1
  exact pv_congr W _ _ k fun i hi => by rw [getD_drop, getD_drop, getD_set_ne _ _ _ _ (by omega)]

/-- The relation of addMultiple's loop. -/
def AMRel (w : World) (b o n : Nat) (ws0 lb : List Nat) (f : Nat) (wr : World) (k c : Nat) : Prop :=
  ∃ ws : List Nat, ws.length = ws0.length ∧ BlkW wr b 24 ws ∧ Below b w wr ∧ (∀ j, (j < o ∨ o + k ≤ j) → ws.getD j 0 = ws0.getD j 0) ∧ c < 18446744073709551616 ∧
    pv 18446744073709551616 (ws.drop o) k + c * 18446744073709551616 ^ k = pv 18446744073709551616 (ws0.drop o) k + f * pv 18446744073709551616 lb k

theorem am_step (W p q r c s c' x y f P : Nat) (h : r + c * P = p + f * q) (e : s + c' * W = x + y * f + c) : (r + s * P) + c' * (P * W) = (p + x * P) + f * (q + y * P) := by
  have : (s + c' * W) * P = (x + y * f + c) * P := by rw [e]
  grind

theorem am_word (o p c : Nat) (ho : o < 18446744073709551616) (hp : p ≤ 340282366920938463426481119284349108225) (hc : c < 18446744073709551616) :
    p / 18446744073709551616 + (p % 18446744073709551616 + c) / 18446744073709551616 + (o + (p % 18446744073709551616 + c) % 18446744073709551616) / 18446744073709551616 < 18446744073709551616 ∧
    (o + (p % 18446744073709551616 + c) % 18446744073709551616) % 18446744073709551616 + (p / 18446744073709551616 + (p % 18446744073709551616 + c) / 18446744073709551616 + (o + (p % 18446744073709551616 + c) % 18446744073709551616) / 18446744073709551616) * 18446744073709551616 = o + p + c := by
  omega

/-- The word that is stored, and the carry that goes on. -/
def amS (o x f c : Int) : Int := (o + (mulLo x f + c)) % 18446744073709551616
def amC (o x f c : Int) : Int := mulHi x f + (mulLo x f + c) / 18446744073709551616 + (o + (mulLo x f + c) % 18446744073709551616) / 18446744073709551616

theorem AMRel.step {w wr : World} {b o n k c f : Nat} {ws0 lb ws : List Nat} (hb : allLt lb) (h0 : allLt ws0) (hf : f < 18446744073709551616) (h : AMRel w b o n ws0 lb f wr k c) (hk : o + k < ws0.length) :
    ∃ c' : Nat, (c' : Int) = amC (at64 ws0 (o + k)) (at64 lb k) f c ∧ AMRel w b o n ws0 lb f (wr.setCell ⟨b, o + k, none⟩ (.int .u64 (amS (at64 ws0 (o + k)) (at64 lb k) f c))) (k + 1) c' := by
  obtain ⟨ws, hl, hB, hb', hj, hc, he⟩ := h
  have h1 := getD_lt _ (by decide) ws0 h0 (o + k)
  have h2 := getD_lt _ (by decide) lb hb k
  have h3 := mul_bound _ _ h2 hf
  obtain ⟨g1, g2⟩ := am_word _ _ c h1 h3 hc
  refine ⟨_, ?_, ws.set (o + k) ((ws0.getD (o + k) 0 + (lb.getD k 0 * f % 18446744073709551616 + c) % 18446744073709551616) % 18446744073709551616), by simp [hl], hB.setI _ _ _ (Nat.mod_lt _ (by decide)) ?_, hb'.setCell (Nat.le_refl _) _, ?_, g1, ?_⟩
  · unfold amC mulHi mulLo at64
    rw [← Int.natCast_mul]; omega
  · unfold amS mulLo at64
    rw [← Int.natCast_mul]; omega
  · intro j hjj
    rw [getD_set_ne _ _ _ _ (by omega)]
    exact hj j (by omega)
  · rw [pv_drop_set _ _ _ _ _ (by omega), pv_succ, pv_succ, Nat.pow_succ, getD_drop]
    exact am_step _ _ _ _ c _ _ _ _ _ _ he g2

set_option maxHeartbeats 1000000 in
theorem addMultiple_c (A Bb : Option Addr) (b o n ca cb : Nat) (ws0 lb : List Nat) (f : Nat) (w : World) (hA : 0 < n → A = some ⟨b, o, none⟩) (hw : BlkW w b 24 ws0) (ho : o + n ≤ ws0.length)
    (hb : Rd w b Bb n lb) (hf : f < 18446744073709551616) (hn : n ≤ 100000) :
    Calls Tryd.prog 89 #[.slice A n ca, .slice Bb n cb, .int .u64 f] w fun e w' => ∃ c : Nat, e = .returned (.int .u64 c) ∧ AMRel w b o n ws0 lb f w' n c := by
  have hf0 : (0 : Int) ≤ f := by omega
  have hf1 : (f : Int) < 18446744073709551616 := by omega
  go_enter Tryd.func89, Tryd.ntmps89
  go_wp2
  go_loopw [7, 15] (fun c i wr => ∃ k q : Nat, k ≤ n ∧ i = .int .i64 k ∧ c = .int .u64 q ∧ AMRel w b o n ws0 lb f wr k q) (fun _ i _ => n - (intOf i).toNat)
  case atStart =>
    exact ⟨0, 0, Nat.zero_le _, rfl, rfl, ws0, rfl, hw, Below.refl _ _, fun _ _ => rfl, by omega, by simp [pv]⟩
  case round =>
    obtain ⟨k, q, hk, rfl, rfl, hrel⟩ := hrel
    by_cases hlt : k < n
    · have hst := AMRel.step (n := n) (ws := ws0) hb.lt hw.lt hf hrel (by omega)
      obtain ⟨ws, hl, hB, hbl, hj, hq, he⟩ := hrel
      have rb := hb.below hbl (Nat.le_refl _)
      obtain ⟨bb, ob, rfl, hbb, hcb⟩ := rb.at_ hlt
      obtain rfl := hA (by omega)
      have hcell := hB.cell (i := o + k) (by omega)
      have hfz := hB.frozen (o + k)
      have hgd : at64 ws (o + k) = at64 ws0 (o + k) := by unfold at64; rw [hj _ (Or.inr (Nat.le_refl _))]
      rw [hgd] at hcell
      have h1 := at64_nonneg lb k
      have h1' := at64_lt hb.lt k
      have h2 := at64_nonneg ws0 (o + k)
      have h2' := at64_lt hw.lt (o + k)
      have q0 : (0 : Int) ≤ q := by omega
      have q1 : (q : Int) < 18446744073709551616 := by omega
      obtain ⟨l0, l1⟩ := mulLo_bd (at64 lb k) f
      obtain ⟨m0, m1⟩ := mulHi_bd (at64 lb k) f h1 h1' hf0 hf1
      clear hl hj he hgd
      go_wp2_with fail
      refine (mul64_c _ _ h1 h1' hf0 hf1 _).mono ?_
      rintro e w' ⟨rfl, rfl⟩
      go_wp2_with (first | simp only [add64_0 _ _ l0 q0] | simp only [add64_0 _ _ h2 (show (0:Int) ≤ (mulLo (at64 lb k) f + q) % 18446744073709551616 by omega)])
      go_roundw
      case rel =>
        obtain ⟨c', e', r'⟩ := hst
        refine ⟨k + 1, c', by omega, by go_num, ?_, r'⟩
        have : c' < 18446744073709551616 := (by obtain ⟨_, _, _, _, _, h, _⟩ := r'; exact h)
        rw [IntKind.wrap_u64, e']
        have e2 : amC (at64 ws0 (o + k)) (at64 lb k) f q % 18446744073709551616 = amC (at64 ws0 (o + k)) (at64 lb k) f q := by omega
        rw [← e2]; rfl
      case measure => simp [intOf]; omega
    · have : k = n := by omega
      subst this
      go_wp2
      go_ret
      exact ⟨q, rfl, hrel⟩
end Go.Proofs.YtdepkfdceidikaaDoor
/-
  limb.subMultiple, limb.multiply, limb.Mul: what each call does.
-/
namespace Go.Proofs.YtdepkfdceidikaaDoor
open Go.RowKit
set_option linter.unusedVariables false

/-- The relation of subMultiple's loop. -/
def SMRel (w : World) (b o n : Nat) (ws0 lb : List Nat) (f : Nat) (wr : World) (k c : Nat) : Prop :=
  ∃ ws : List Nat, ws.length = ws0.length ∧ BlkW wr b 24 ws ∧ Below b w wr ∧ (∀ j, (j < o ∨ o + k ≤ j) → ws.getD j 0 = ws0.getD j 0) ∧ c < 18446744073709551616 ∧
    pv 18446744073709551616 (ws.drop o) k + f * pv 18446744073709551616 lb k = pv 18446744073709551616 (ws0.drop o) k + c * 18446744073709551616 ^ k

theorem sm_step (W p q r c s c' x y f P : Nat) (h : r + f * q = p + c * P) (e : s + y * f + c = x + c' * W) : (r + s * P) + f * (q + y * P) = (p + x * P) + c' * (P * W) := by
  have : (s + y * f + c) * P = (x + c' * W) * P := by rw [e]
  grind

theorem sm_word (o p c : Nat) (ho : o < 18446744073709551616) (hp : p ≤ 340282366920938463426481119284349108225) (hc : c < 18446744073709551616) :
    p / 18446744073709551616 + (p % 18446744073709551616 + c) / 18446744073709551616 + borN o ((p % 18446744073709551616 + c) % 18446744073709551616) < 18446744073709551616 ∧
    (o + 18446744073709551616 - (p % 18446744073709551616 + c) % 18446744073709551616) % 18446744073709551616 + p + c =
      o + (p / 18446744073709551616 + (p % 18446744073709551616 + c) / 18446744073709551616 + borN o ((p % 18446744073709551616 + c) % 18446744073709551616)) * 18446744073709551616 := by
  unfold borN; split <;> omega

/-- The word that is stored, and the borrow that goes on. -/
def smS (o x f c : Int) : Int := (o - (mulLo x f + c)) % 18446744073709551616
def smC (o x f c : Int) : Int := mulHi x f + (mulLo x f + c) / 18446744073709551616 + bor o ((mulLo x f + c) % 18446744073709551616)

theorem SMRel.step {w wr : World} {b o n k c f : Nat} {ws0 lb ws : List Nat} (hb : allLt lb) (h0 : allLt ws0) (hf : f < 18446744073709551616) (h : SMRel w b o n ws0 lb f wr k c) (hk : o + k < ws0.length) :
    ∃ c' : Nat, (c' : Int) = smC (at64 ws0 (o + k)) (at64 lb k) f c ∧ SMRel w b o n ws0 lb f (wr.setCell ⟨b, o + k, none⟩ (.int .u64 (smS (at64 ws0 (o + k)) (at64 lb k) f c))) (k + 1) c' := by
  obtain ⟨ws, hl, hB, hb', hj, hc, he⟩ := h
  have h1 := getD_lt _ (by decide) ws0 h0 (o + k)
  have h2 := getD_lt _ (by decide) lb hb k
  have h3 := mul_bound _ _ h2 hf
  obtain ⟨g1, g2⟩ := sm_word _ _ c h1 h3 hc
  refine ⟨_, ?_, ws.set (o + k) ((ws0.getD (o + k) 0 + 18446744073709551616 - (lb.getD k 0 * f % 18446744073709551616 + c) % 18446744073709551616) % 18446744073709551616), by simp [hl], hB.setI _ _ _ (Nat.mod_lt _ (by decide)) ?_, hb'.setCell (Nat.le_refl _) _, ?_, g1, ?_⟩
  · unfold smC mulHi mulLo at64
    rw [← Int.natCast_mul, Int.natCast_add, ← bor_nat]
    have e1 : (((lb.getD k 0 * f % 18446744073709551616 + c) % 18446744073709551616 : Nat) : Int) = ((lb.getD k 0 * f : Nat) % 18446744073709551616 + (c : Int)) % 18446744073709551616 := by omega
    rw [e1]
    omega
  · unfold smS mulLo at64
    rw [← Int.natCast_mul]; omega
  · intro j hjj
    rw [getD_set_ne _ _ _ _ (by omega)]
    exact hj j (by omega)
  · rw [pv_drop_set _ _ _ _ _ (by omega), pv_succ, pv_succ, Nat.pow_succ, getD_drop]
    exact sm_step _ _ _ _ c _ _ _ _ _ _ he g2

set_option maxHeartbeats 1000000 in
theorem subMultiple_c (A Bb : Option Addr) (b o n ca cb : Nat) (ws0 lb : List Nat) (f : Nat) (w : World) (hA : 0 < n → A = some ⟨b, o, none⟩) (hw : BlkW w b 24 ws0) (ho : o + n ≤ ws0.length)
    (hb : Rd w b Bb n lb) (hf : f < 18446744073709551616) (hn : n ≤ 100000) :
    Calls Tryd.prog 87 #[.slice A n ca, .slice Bb n cb, .int .u64 f] w fun e w' => ∃ c : Nat, e = .returned (.int .u64 c) ∧ SMRel w b o n ws0 lb f w' n c := by
  have hf0 : (0 : Int) ≤ f := by omega
  have hf1 : (f : Int) < 18446744073709551616 := by omega
  go_enter Tryd.func87, Tryd.ntmps87
  go_wp2
  go_loopw [7, 15] (fun c i wr => ∃ k q : Nat, k ≤ n ∧ i = .int .i64 k ∧ c = .int .u64 q ∧ SMRel w b o n ws0 lb f wr k q) (fun _ i _ => n - (intOf i).toNat)
  case atStart =>
    exact ⟨0, 0, Nat.zero_le _, rfl, rfl, ws0, rfl, hw, Below.refl _ _, fun _ _ => rfl, by omega, by simp [pv]⟩
  case round =>
    obtain ⟨k, q, hk, rfl, rfl, hrel⟩ := hrel
    by_cases hlt : k < n
    · have hst := SMRel.step (n := n) (ws := ws0) hb.lt hw.lt hf hrel (by omega)
      obtain ⟨ws, hl, hB, hbl, hj, hq, he⟩ := hrel
      have rb := hb.below hbl (Nat.le_refl _)
      obtain ⟨bb, ob, rfl, hbb, hcb⟩ := rb.at_ hlt
      obtain rfl := hA (by omega)
      have hcell := hB.cell (i := o + k) (by omega)
      have hfz := hB.frozen (o + k)
      have hgd : at64 ws (o + k) = at64 ws0 (o + k) := by unfold at64; rw [hj _ (Or.inr (Nat.le_refl _))]
      rw [hgd] at hcell
      have h1 := at64_nonneg lb k
      have h1' := at64_lt hb.lt k
      have h2 := at64_nonneg ws0 (o + k)
      have h2' := at64_lt hw.lt (o + k)
      have q0 : (0 : Int) ≤ q := by omega
      have q1 : (q : Int) < 18446744073709551616 := by omega
      obtain ⟨l0, l1⟩ := mulLo_bd (at64 lb k) f
      obtain ⟨m0, m1⟩ := mulHi_bd (at64 lb k) f h1 h1' hf0 hf1
      clear hl hj he hgd
      go_wp2_with fail
      refine (mul64_c _ _ h1 h1' hf0 hf1 _).mono ?_
      rintro e w' ⟨rfl, rfl⟩
      go_wp2_with (first | simp only [add64_0 _ _ l0 q0] | simp only [sub64_0 _ _ h2 (show (0:Int) ≤ (mulLo (at64 lb k) f + q) % 18446744073709551616 by omega) (show (mulLo (at64 lb k) f + q) % 18446744073709551616 < 18446744073709551616 by omega)])
      go_roundw
      case rel =>
        obtain ⟨c', e', r'⟩ := hst
        refine ⟨k + 1, c', by omega, by go_num, ?_, r'⟩
        have : c' < 18446744073709551616 := (by obtain ⟨_, _, _, _, _, h, _⟩ := r'; exact h)
        rw [IntKind.wrap_u64, e']
        have e2 : smC (at64 ws0 (o + k)) (at64 lb k) f q % 18446744073709551616 = smC (at64 ws0 (o + k)) (at64 lb k) f q := by omega
        rw [← e2]; rfl
      case measure => simp [intOf]; omega
    · have : k = n := by omega
      subst this
      go_wp2
      go_ret
      exact ⟨q, rfl, hrel⟩

/-- The relation of multiply's loop. -/
def MRel (w : World) (b N nb : Nat) (la lb : List Nat) (wr : World) (k : Nat) : Prop :=
  ∃ ws : List Nat, ws.length = N ∧ BlkW wr b 24 ws ∧ Below b w wr ∧ (∀ j, k + nb ≤ j → ws.getD j 0 = 0) ∧
    pv 18446744073709551616 ws (k + nb) = pv 18446744073709551616 la k * pv 18446744073709551616 lb nb

theorem m_step (p q r c f v Wi Wn : Nat) (h1 : r + c * Wn = q + f * v) : p + Wi * r + c * (Wi * Wn) = (p + Wi * q) + f * Wi * v := by
  have : (r + c * Wn) * Wi = (q + f * v) * Wi := by rw [h1]
  grind

theorem MRel.step {w wr w2 : World} {b N nb k c : Nat} {la lb ws : List Nat} (hl : ws.length = N) (hz : ∀ j, k + nb ≤ j → ws.getD j 0 = 0) (hbl : Below b w wr)
    (he : pv 18446744073709551616 ws (k + nb) = pv 18446744073709551616 la k * pv 18446744073709551616 lb nb) (h : AMRel wr b k nb ws lb (la.getD k 0) w2 nb c) (hk : k + nb < N) :
    MRel w b N nb la lb (w2.setCell ⟨b, k + nb, none⟩ (.int .u64 (c : Int))) (k + 1) := by
  obtain ⟨ws2, hl2, hB, hb', hj, hc, he2⟩ := h
  refine ⟨ws2.set (k + nb) c, by simp [hl2, hl], hB.set _ _ hc, (hbl.trans hb').setCell (Nat.le_refl _) _, ?_, ?_⟩
  · intro j hjj
    rw [getD_set_ne _ _ _ _ (by omega), hj j (Or.inr (by omega))]
    exact hz j (by omega)
  · rw [show k + 1 + nb = (k + nb) + 1 by omega, pv_set_succ _ _ _ _ (by omega), pv_drop, pv_succ, Nat.add_mul, ← he, pv_drop _ ws]
    have e0 : pv 18446744073709551616 ws2 k = pv 18446744073709551616 ws k := pv_congr _ _ _ _ fun i hi => hj i (Or.inl hi)
    rw [e0, Nat.pow_add]
    exact m_step _ _ _ _ _ _ _ _ he2

end Go.Proofs.YtdepkfdceidikaaDoor
