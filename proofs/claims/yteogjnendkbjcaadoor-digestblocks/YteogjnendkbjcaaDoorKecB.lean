/-
  The steps of Keccak on lanes, and their bits: plain arithmetic, nothing of the program.
-/
import Derived.Test.YteogjnendkbjcaaDoorKecA
namespace Go.Proofs.YteogjnendkbjcaaDoor
set_option linter.unusedVariables false

/-- A lane turned by n. -/
def lrot (n v : Nat) : Nat := (v <<< n ||| v >>> (64 - n)) % 18446744073709551616
theorem lrot_lt (n v : Nat) : lrot n v < 18446744073709551616 := Nat.mod_lt _ (by decide)
theorem lrot_bit {n v z : Nat} (hn : n < 64) (hv : v < 18446744073709551616) (hz : z < 64) : (lrot n v).testBit z = v.testBit ((z + 64 - n) % 64) := by
  unfold lrot
  rw [show (18446744073709551616 : Nat) = 2 ^ 64 by decide] at hv ⊢
  rw [Nat.testBit_mod_two_pow, decide_eq_true hz, Bool.true_and, Nat.testBit_or, Nat.testBit_shiftLeft, Nat.testBit_shiftRight]
  rcases Nat.lt_or_ge z n with h | h
  · rw [decide_eq_false (by omega), Bool.false_and, Bool.false_or]
    congr 1
    omega
  · rw [decide_eq_true h, Bool.true_and, show (z + 64 - n) % 64 = z - n by omega]
    have : v.testBit (64 - n + z) = false := Nat.testBit_lt_two_pow (Nat.lt_of_lt_of_le hv (Nat.pow_le_pow_right (by decide) (by omega)))
    rw [this, Bool.or_false]
/-- The bits of 25 lanes. -/
def kbits (l : List Nat) : KB := fun x y z => (l.getD (x + 5 * y) 0).testBit z
/-- 25 lanes. -/
structure Lanes (l : List Nat) : Prop where
  len : l.length = 25
  lt : ∀ v ∈ l, v < 18446744073709551616
theorem Lanes.at_ {l : List Nat} (h : Lanes l) (i : Nat) : l.getD i 0 < 18446744073709551616 := by
  rcases Nat.lt_or_ge i l.length with hi | hi
  · rw [List.getD_eq_getElem?_getD, List.getElem?_eq_getElem hi]; exact h.lt _ (List.getElem_mem hi)
  · rw [List.getD_eq_getElem?_getD, List.getElem?_eq_none hi]; decide
theorem lanes_ext {l m : List Nat} (hl : Lanes l) (hm : Lanes m) (h : KEq (kbits l) (kbits m)) : l = m := by
  apply List.ext_getElem (by rw [hl.len, hm.len])
  intro i h1 h2
  have hi : i < 25 := by rw [← hl.len]; exact h1
  apply Nat.eq_of_testBit_eq
  intro z
  have e1 : l.getD i 0 = l[i] := by rw [List.getD_eq_getElem?_getD, List.getElem?_eq_getElem h1]; rfl
  have e2 : m.getD i 0 = m[i] := by rw [List.getD_eq_getElem?_getD, List.getElem?_eq_getElem h2]; rfl
  rcases Nat.lt_or_ge z 64 with hz | hz
  · have := h (i % 5) (i / 5) z (Nat.mod_lt _ (by decide)) (by omega) hz
    unfold kbits at this
    rw [show i % 5 + 5 * (i / 5) = i by omega, e1, e2] at this
    exact this
  · have b : ∀ v, v < 18446744073709551616 → v.testBit z = false := fun v hv => Nat.testBit_lt_two_pow (Nat.lt_of_lt_of_le hv (by rw [show (18446744073709551616 : Nat) = 2 ^ 64 by decide]; exact Nat.pow_le_pow_right (by decide) hz))
    rw [b _ (hl.lt _ (List.getElem_mem h1)), b _ (hm.lt _ (List.getElem_mem h2))]
/-- A list by its places. -/
def lane (f : Nat → Nat) : List Nat := (List.range 25).map f
theorem lane_getD (f : Nat → Nat) {i : Nat} (h : i < 25) : (lane f).getD i 0 = f i := by
  unfold lane
  rw [List.getD_eq_getElem?_getD, List.getElem?_map, List.getElem?_range h]
  rfl
theorem lane_lanes {f : Nat → Nat} (h : ∀ i, i < 25 → f i < 18446744073709551616) : Lanes (lane f) := by
  refine ⟨by simp [lane], fun v hv => ?_⟩
  obtain ⟨i, hi, rfl⟩ := List.mem_map.1 hv
  exact h i (List.mem_range.1 hi)
theorem xor_lt {a b : Nat} (ha : a < 18446744073709551616) (hb : b < 18446744073709551616) : a ^^^ b < 18446744073709551616 := by
  rw [show (18446744073709551616 : Nat) = 2 ^ 64 by decide] at *
  exact Nat.xor_lt_two_pow ha hb
theorem and_lt {a : Nat} (b : Nat) (ha : a < 18446744073709551616) : a &&& b < 18446744073709551616 := Nat.lt_of_le_of_lt Nat.and_le_left ha
def lcol (l : List Nat) (x : Nat) : Nat := l.getD x 0 ^^^ (l.getD (x + 5) 0 ^^^ (l.getD (x + 10) 0 ^^^ (l.getD (x + 15) 0 ^^^ l.getD (x + 20) 0)))
def lth (l : List Nat) : List Nat := lane fun i => l.getD i 0 ^^^ (lcol l ((i + 4) % 5) ^^^ lrot 1 (lcol l ((i + 1) % 5)))
def lrh (l : List Nat) : List Nat := lane fun i => lrot (koff.getD i 0) (l.getD i 0)
def lpi (l : List Nat) : List Nat := lane fun i => l.getD ((i % 5 + 3 * (i / 5)) % 5 + 5 * (i % 5)) 0
def lch (l : List Nat) : List Nat := lane fun i => l.getD i 0 ^^^ ((18446744073709551615 ^^^ l.getD ((i + 1) % 5 + 5 * (i / 5)) 0) &&& l.getD ((i + 2) % 5 + 5 * (i / 5)) 0)
def lio (c : Nat) (l : List Nat) : List Nat := lane fun i => if i = 0 then l.getD i 0 ^^^ c else l.getD i 0
def lrd (c : Nat) (l : List Nat) : List Nat := lio c (lch (lpi (lrh (lth l))))
def kconst : List Nat := [0x0000000000000001, 0x0000000000008082, 0x800000000000808A, 0x8000000080008000, 0x000000000000808B, 0x0000000080000001, 0x8000000080008081, 0x8000000000008009, 0x000000000000008A, 0x0000000000000088, 0x0000000080008009, 0x000000008000000A, 0x000000008000808B, 0x800000000000008B, 0x8000000000008089, 0x8000000000008003, 0x8000000000008002, 0x8000000000000080, 0x000000000000800A, 0x800000008000000A, 0x8000000080008081, 0x8000000000008080, 0x0000000080000001, 0x8000000080008008]
def lperm (l : List Nat) : List Nat := kconst.foldl (fun s c => lrd c s) l
theorem lperm_zero : (lperm (List.replicate 25 0)).getD 0 0 = 0xF1258F7940E1DDE7 := by decide +kernel
theorem lcol_lt {l : List Nat} (h : Lanes l) (x : Nat) : lcol l x < 18446744073709551616 := xor_lt (h.at_ _) (xor_lt (h.at_ _) (xor_lt (h.at_ _) (xor_lt (h.at_ _) (h.at_ _))))
theorem lth_lanes {l : List Nat} (h : Lanes l) : Lanes (lth l) := lane_lanes fun i _ => xor_lt (h.at_ _) (xor_lt (lcol_lt h _) (lrot_lt _ _))
theorem lrh_lanes (l : List Nat) : Lanes (lrh l) := lane_lanes fun i _ => lrot_lt _ _
theorem lpi_lanes {l : List Nat} (h : Lanes l) : Lanes (lpi l) := lane_lanes fun i _ => h.at_ _
theorem lch_lanes {l : List Nat} (h : Lanes l) : Lanes (lch l) := lane_lanes fun i _ => xor_lt (h.at_ _) (and_lt _ (xor_lt (by decide) (h.at_ _)))
theorem lio_lanes {c : Nat} {l : List Nat} (hc : c < 18446744073709551616) (h : Lanes l) : Lanes (lio c l) := lane_lanes fun i _ => by
  show (if i = 0 then l.getD i 0 ^^^ c else l.getD i 0) < _
  split
  · exact xor_lt (h.at_ _) hc
  · exact h.at_ _
theorem lrd_lanes {c : Nat} {l : List Nat} (hc : c < 18446744073709551616) (h : Lanes l) : Lanes (lrd c l) := lio_lanes hc (lch_lanes (lpi_lanes (lrh_lanes _)))
theorem kbits_lane (f : Nat → Nat) {x y : Nat} (hx : x < 5) (hy : y < 5) (z : Nat) : kbits (lane f) x y z = (f (x + 5 * y)).testBit z := by
  unfold kbits
  rw [lane_getD f (by omega)]
theorem lcol_bit (l : List Nat) (x z : Nat) : (lcol l x).testBit z = kpar (kbits l) x z := by
  unfold lcol kpar kbits
  rw [Nat.testBit_xor, Nat.testBit_xor, Nat.testBit_xor, Nat.testBit_xor]
  rfl
theorem lth_bits {l : List Nat} (h : Lanes l) : KEq (kbits (lth l)) (kth (kbits l)) := fun x y z hx hy hz => by
  unfold lth
  rw [kbits_lane _ hx hy]
  show (l.getD (x + 5 * y) 0 ^^^ (lcol l ((x + 5 * y + 4) % 5) ^^^ lrot 1 (lcol l ((x + 5 * y + 1) % 5)))).testBit z = _
  rw [Nat.testBit_xor, Nat.testBit_xor, lcol_bit, lrot_bit (by decide) (lcol_lt h _) hz, lcol_bit, show (x + 5 * y + 4) % 5 = (x + 4) % 5 by omega, show (x + 5 * y + 1) % 5 = (x + 1) % 5 by omega, show (z + 64 - 1) % 64 = (z + 63) % 64 by omega]
  rfl
theorem lrh_bits {l : List Nat} (h : Lanes l) : KEq (kbits (lrh l)) (krh (kbits l)) := fun x y z hx hy hz => by
  unfold lrh
  rw [kbits_lane _ hx hy, lrot_bit (koff_lt _) (h.at_ _) hz]
  rfl
theorem lpi_bits (l : List Nat) : KEq (kbits (lpi l)) (kpi (kbits l)) := fun x y z hx hy hz => by
  unfold lpi
  rw [kbits_lane _ hx hy]
  show (l.getD (((x + 5 * y) % 5 + 3 * ((x + 5 * y) / 5)) % 5 + 5 * ((x + 5 * y) % 5)) 0).testBit z = _
  rw [show (x + 5 * y) % 5 = x by omega, show (x + 5 * y) / 5 = y by omega]
  rfl
theorem not_bit {v z : Nat} (hz : z < 64) : (18446744073709551615 ^^^ v).testBit z = !v.testBit z := by
  rw [Nat.testBit_xor, show (18446744073709551615 : Nat) = 2 ^ 64 - 1 by decide, Nat.testBit_two_pow_sub_one, decide_eq_true hz, Bool.true_xor]
theorem lch_bits (l : List Nat) : KEq (kbits (lch l)) (kch (kbits l)) := fun x y z hx hy hz => by
  unfold lch
  rw [kbits_lane _ hx hy]
  show (l.getD (x + 5 * y) 0 ^^^ ((18446744073709551615 ^^^ l.getD ((x + 5 * y + 1) % 5 + 5 * ((x + 5 * y) / 5)) 0) &&& l.getD ((x + 5 * y + 2) % 5 + 5 * ((x + 5 * y) / 5)) 0)).testBit z = _
  rw [Nat.testBit_xor, Nat.testBit_and, not_bit hz, show (x + 5 * y + 1) % 5 = (x + 1) % 5 by omega, show (x + 5 * y + 2) % 5 = (x + 2) % 5 by omega, show (x + 5 * y) / 5 = y by omega]
  rfl
theorem lio_bits (c : Nat) (l : List Nat) : KEq (kbits (lio c l)) (kio (fun z => c.testBit z) (kbits l)) := fun x y z hx hy hz => by
  unfold lio
  rw [kbits_lane _ hx hy]
  unfold kio
  by_cases e : x = 0 ∧ y = 0
  · rw [if_pos e, if_pos (by omega), Nat.testBit_xor]
    rfl
  · rw [if_neg e, if_neg (by omega)]
    rfl
theorem lrd_bits {c : Nat} {l : List Nat} (h : Lanes l) : KEq (kbits (lrd c l)) (krd (fun z => c.testBit z) (kbits l)) :=
  (lio_bits c _).trans (kio_eq _ ((lch_bits _).trans (kch_eq ((lpi_bits _).trans (kpi_eq ((lrh_bits (lth_lanes h)).trans (krh_eq (lth_bits h))))))))
/-- Unlike states stay unlike. -/
theorem lrd_inj {c : Nat} {l m : List Nat} (hl : Lanes l) (hm : Lanes m) (h : lrd c l = lrd c m) : l = m := by
  have hk : KEq (krd (fun z => c.testBit z) (kbits l)) (krd (fun z => c.testBit z) (kbits m)) := ((lrd_bits hl).symm).trans ((by rw [h]; exact KEq.refl _ : KEq (kbits (lrd c l)) (kbits (lrd c m))).trans (lrd_bits hm))
  exact lanes_ext hl hm (krd_inj _ hk)
end Go.Proofs.YteogjnendkbjcaaDoor
