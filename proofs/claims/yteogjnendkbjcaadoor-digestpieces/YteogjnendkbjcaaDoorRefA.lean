import Derived.Test.YteogjnendkbjcaaDoorKecB
import Derived.Test.YteogjnendkbjcaaDoorOwn
import Derived.StillTailTactics
import Derived.Deep.QuietTactic
import Derived.BigQuiet
/-
  The rounds' constants, bit by bit: plain arithmetic, nothing of the program.
-/
namespace Go.Proofs.YteogjnendkbjcaaDoor
set_option linter.unusedVariables false

/-- One bit of a byte turned over. -/
def kflip (r p : Nat) : Nat := if r / p % 2 = 1 then r - p else r + p
/-- The byte R, turned once more. -/
def knext (r : Nat) : Nat := if 256 ≤ r * 2 then kflip (kflip (kflip (kflip (r * 2 - 256) 64) 32) 16) 1 else r * 2
def klf : Nat → Nat
  | 0 => 1
  | n + 1 => knext (klf n)
theorem knext_lt {r : Nat} (h : r < 256) : knext r < 256 := by
  have key : ∀ r : Fin 256, knext r.val < 256 := by decide +kernel
  exact key ⟨r, h⟩
theorem klf_lt : ∀ n, klf n < 256
  | 0 => by decide
  | n + 1 => knext_lt (klf_lt n)
/-- The bit at a place. -/
def krc (t : Nat) : Bool := klf t % 2 == 1
/-- The constants' bits: those at the places 2^j - 1. -/
def kcb (i z : Nat) : Bool := (z == 0 && krc (7 * i)) || ((z == 1 && krc (1 + 7 * i)) || ((z == 3 && krc (2 + 7 * i)) || ((z == 7 && krc (3 + 7 * i)) || ((z == 15 && krc (4 + 7 * i)) || ((z == 31 && krc (5 + 7 * i)) || (z == 63 && krc (6 + 7 * i)))))))
theorem kconst_bits : ((List.range 24).all fun i => (List.range 64).all fun z => (kconst.getD i 0).testBit z == kcb i z) = true := by decide +kernel
theorem kconst_bit {i z : Nat} (hi : i < 24) (hz : z < 64) : (kconst.getD i 0).testBit z = kcb i z := by
  have h := List.all_eq_true.1 (List.all_eq_true.1 kconst_bits i (List.mem_range.2 hi)) z (List.mem_range.2 hz)
  exact eq_of_beq h
theorem kconst_lt (i : Nat) : kconst.getD i 0 < 18446744073709551616 := by
  rcases Nat.lt_or_ge i 24 with h | h
  · have key : ∀ i : Fin 24, kconst.getD i.val 0 < 18446744073709551616 := by decide
    exact key ⟨i, h⟩
  · rw [List.getD_eq_getElem?_getD, List.getElem?_eq_none (by simpa [kconst] using h)]
    decide
end Go.Proofs.YteogjnendkbjcaaDoor
/-
  avouchref01.get, Trim, Same, Words, Digits, Add: what each call does.
-/
namespace Go.Proofs.YteogjnendkbjcaaDoor
open Go.RowKit
set_option linter.unusedVariables false

/-- No digit that is 0 at the end. -/
def Tr (l : List Nat) : Prop := l = [] ∨ l.getD (l.length - 1) 0 ≠ 0
def D32 (l : List Nat) : Prop := ∀ x ∈ l, x < 4294967296

theorem Rd.take {w : World} {B n : Nat} {A : Option Addr} {l : List Nat} (h : Rd w B A n l) (m : Nat) (hm : m ≤ n) : Rd w B A m (l.take m) := by
  refine ⟨by simp [h.len]; omega, fun x hx => h.lt x (List.mem_of_mem_take hx), fun hp => ?_⟩
  obtain ⟨b, off, e, hb, hc⟩ := h.cells (by omega)
  refine ⟨b, off, e, hb, fun i hi => ?_⟩
  rw [hc i (by omega)]
  simp [at64, List.getD_eq_getElem?_getD, hi]

/-- The slice of e is the digits of X: those ahead of zeros at the end. -/
def Dig (w : World) (e : Ending) (w' : World) (X : Nat) : Prop :=
  ∃ A c l, e = .returned (.slice A l.length c) ∧ l.length ≤ c ∧ Rd w' w'.heap.size A l.length l ∧ D32 l ∧ Tr l ∧ val 4294967296 l = X ∧ Below w.heap.size w w'

theorem val_take_zeros (W : Nat) (l : List Nat) (m : Nat) (hm : m ≤ l.length) (h : ∀ j, m ≤ j → l.getD j 0 = 0) : val W (l.take m) = val W l := by
  have e1 : (l.take m).length = m := by simp; omega
  have : pv W l l.length + pv W (l.take m) m = pv W (l.take m) l.length + pv W l m := by
    refine pv_tail W l (l.take m) m l.length (fun j hj => ?_) hm
    rw [h j hj, getD_out _ _ (by omega)]
  rw [pv_take _ _ _ _ (Nat.le_refl _), pv_out _ (l.take m) l.length (by omega)] at this
  unfold val at *
  omega

/-- Behind Trim of a list of digits: the digits of its number. -/
theorem dig_of_trim {w w1 w' : World} {A : Option Addr} {m n c : Nat} {l : List Nat} {e : Ending} (h : Rd w1 w1.heap.size A n l) (hd : D32 l) (hb : Below w.heap.size w w1) (hm : m ≤ n) (hc : n ≤ c)
    (he : e = .returned (.slice A m c)) (hw : w1 = w') (ht : Tr (l.take m)) (hz : ∀ j, m ≤ j → l.getD j 0 = 0) : Dig w e w' (val 4294967296 l) := by
  subst hw
  have e1 : (l.take m).length = m := by simp [h.len]; omega
  refine ⟨A, c, l.take m, by rw [e1]; exact he, by omega, by rw [e1]; exact h.take m hm, fun x hx => hd x (List.mem_of_mem_take hx), ht, val_take_zeros _ _ _ (by rw [h.len]; exact hm) hz, hb⟩

theorem val_append (W : Nat) (l : List Nat) (x : Nat) : val W (l ++ [x]) = val W l + x * W ^ l.length := by
  unfold val
  rw [List.length_append, List.length_singleton, pv_succ]
  congr 1
  · exact pv_congr W _ _ _ fun i hi => by simp [List.getD_eq_getElem?_getD, List.getElem?_append_left hi]
  · simp [List.getD_eq_getElem?_getD]

/-- The relation of Add's loop. -/
def RAddRel (w : World) (la lb : List Nat) (v : Value) (wr : World) (k c : Nat) : Prop :=
  ∃ l : List Nat, l.length = k ∧ OwnW wr w.heap.size v l ∧ D32 l ∧ Below w.heap.size w wr ∧ c ≤ 1 ∧ val 4294967296 l + c * 4294967296 ^ k = pv 4294967296 la k + pv 4294967296 lb k

theorem at64_d32 {l : List Nat} (h : D32 l) (i : Nat) : at64 l i < 4294967296 := by
  have := getD_lt _ (by decide) l h i
  unfold at64; omega

theorem RAddRel.step {w wr w' : World} {la lb l : List Nat} {v' : Value} {k c : Nat} (da : D32 la) (db : D32 lb) (hlen : l.length = k) (hd : D32 l) (hbl : Below w.heap.size w wr) (hc : c ≤ 1)
    (he : val 4294967296 l + c * 4294967296 ^ k = pv 4294967296 la k + pv 4294967296 lb k) (hl : OwnW w' w.heap.size v' (l ++ [(la.getD k 0 + lb.getD k 0 + c) % 4294967296]))
    (hb : Below w.heap.size wr w') : RAddRel w la lb v' w' (k + 1) ((la.getD k 0 + lb.getD k 0 + c) / 4294967296) := by
  have h1 := getD_lt _ (by decide) la da k
  have h2 := getD_lt _ (by decide) lb db k
  refine ⟨l ++ [(la.getD k 0 + lb.getD k 0 + c) % 4294967296], by simp [hlen], hl, ?_, hbl.trans hb, by omega, ?_⟩
  · intro x hx
    rcases List.mem_append.1 hx with h' | h'
    · exact hd x h'
    · simp at h'; omega
  · rw [val_append, hlen, pv_succ, pv_succ, Nat.pow_succ]
    exact add_step _ _ _ _ c _ _ _ _ _ he (by rw [Nat.mul_comm]; exact Nat.mod_add_div _ _)

end Go.Proofs.YteogjnendkbjcaaDoor
