import Derived.Test.YteogjnendkbjcaaDoorOwn
import Derived.StillTailTactics
import Derived.Deep.QuietTactic
import Derived.BigQuiet
import Derived.Test.YteogjnendkbjcaaDoorPrims
/-
  avouchref01.get, Trim, Same, Words, Digits, Add: what each call does.
-/
namespace Go.Proofs.YteogjnendkbjcaaDoor
open Go.RowKit
set_option linter.unusedVariables false

/-- No digit that is 0 at the end. -/
def Tr (l : List Nat) : Prop := l = [] ∨ l.getD (l.length - 1) 0 ≠ 0
def D32 (l : List Nat) : Prop := ∀ x ∈ l, x < 4294967296

theorem Rd.take {w : World} {B n : Nat} {A : Option Addr} {l : List Nat} (h : Rd w B A n l) (m : Nat) (hm : m ≤ n) : Rd w B A m (l.take m) := by
  refine ⟨by simp [h.len]; omega, fun x hx => h.lt x (List.mem_of_mem_take hx), fun hp => ?_⟩
  obtain ⟨b, off, e, hb, hc⟩ := h.cells (by omega)
  refine ⟨b, off, e, hb, fun i hi => ?_⟩
  rw [hc i (by omega)]
  simp [at64, List.getD_eq_getElem?_getD, hi]

/-- The slice of e is the digits of X: those ahead of zeros at the end. -/
def Dig (w : World) (e : Ending) (w' : World) (X : Nat) : Prop :=
  ∃ A c l, e = .returned (.slice A l.length c) ∧ l.length ≤ c ∧ Rd w' w'.heap.size A l.length l ∧ D32 l ∧ Tr l ∧ val 4294967296 l = X ∧ Below w.heap.size w w'

theorem val_take_zeros (W : Nat) (l : List Nat) (m : Nat) (hm : m ≤ l.length) (h : ∀ j, m ≤ j → l.getD j 0 = 0) : val W (l.take m) = val W l := by
  have e1 : (l.take m).length = m := by simp; omega
  have : pv W l l.length + pv W (l.take m) m = pv W (l.take m) l.length + pv W l m := by
    refine pv_tail W l (l.take m) m l.length (fun j hj => ?_) hm
    rw [h j hj, getD_out _ _ (by omega)]
  rw [pv_take _ _ _ _ (Nat.le_refl _), pv_out _ (l.take m) l.length (by omega)] at this
  unfold val at *
  omega

/-- Behind Trim of a list of digits: the digits of its number. -/
theorem dig_of_trim {w w1 w' : World} {A : Option Addr} {m n c : Nat} {l : List Nat} {e : Ending} (h : Rd w1 w1.heap.size A n l) (hd : D32 l) (hb : Below w.heap.size w w1) (hm : m ≤ n) (hc : n ≤ c)
    (he : e = .returned (.slice A m c)) (hw : w1 = w') (ht : Tr (l.take m)) (hz : ∀ j, m ≤ j → l.getD j 0 = 0) : Dig w e w' (val 4294967296 l) := by
  subst hw
  have e1 : (l.take m).length = m := by simp [h.len]; omega
  refine ⟨A, c, l.take m, by rw [e1]; exact he, by omega, by rw [e1]; exact h.take m hm, fun x hx => hd x (List.mem_of_mem_take hx), ht, val_take_zeros _ _ _ (by rw [h.len]; exact hm) hz, hb⟩

theorem val_append (W : Nat) (l : List Nat) (x : Nat) : val W (l ++ [x]) = val W l + x * W ^ l.length := by
  unfold val
  rw [List.length_append, List.length_singleton, pv_succ]
  congr 1
  · exact pv_congr W _ _ _ fun i hi => by simp [List.getD_eq_getElem?_getD, List.getElem?_append_left hi]
  · simp [List.getD_eq_getElem?_getD]

/-- The relation of Add's loop. -/
def RAddRel (w : World) (la lb : List Nat) (v : Value) (wr : World) (k c : Nat) : Prop :=
  ∃ l : List Nat, l.length = k ∧ OwnW wr w.heap.size v l ∧ D32 l ∧ Below w.heap.size w wr ∧ c ≤ 1 ∧ val 4294967296 l + c * 4294967296 ^ k = pv 4294967296 la k + pv 4294967296 lb k

theorem at64_d32 {l : List Nat} (h : D32 l) (i : Nat) : at64 l i < 4294967296 := by
  have := getD_lt _ (by decide) l h i
  unfold at64; omega

theorem RAddRel.step {w wr w' : World} {la lb l : List Nat} {v' : Value} {k c : Nat} (da : D32 la) (db : D32 lb) (hlen : l.length = k) (hd : D32 l) (hbl : Below w.heap.size w wr) (hc : c ≤ 1)
    (he : val 4294967296 l + c * 4294967296 ^ k = pv 4294967296 la k + pv 4294967296 lb k) (hl : OwnW w' w.heap.size v' (l ++ [(la.getD k 0 + lb.getD k 0 + c) % 4294967296]))
    (hb : Below w.heap.size wr w') : RAddRel w la lb v' w' (k + 1) ((la.getD k 0 + lb.getD k 0 + c) / 4294967296) := by
  have h1 := getD_lt _ (by decide) la da k
  have h2 := getD_lt _ (by decide) lb db k
  refine ⟨l ++ [(la.getD k 0 + lb.getD k 0 + c) % 4294967296], by simp [hlen], hl, ?_, hbl.trans hb, by omega, ?_⟩
  · intro x hx
    rcases List.mem_append.1 hx with h' | h'
    · exact hd x h'
    · simp at h'; omega
  · rw [val_append, hlen, pv_succ, pv_succ, Nat.pow_succ]
    exact add_step _ _ _ _ c _ _ _ _ _ he (by rw [Nat.mul_comm]; exact Nat.mod_add_div _ _)

end Go.Proofs.YteogjnendkbjcaaDoor
/-
  limb.wordAt, limb.Add, limb.Sub: what each call does.
-/
namespace Go.Proofs.YteogjnendkbjcaaDoor
open Go.RowKit
set_option linter.unusedVariables false

/-- The relation of Add's loop. -/
def AddRel (w : World) (b n : Nat) (la lb : List Nat) (wr : World) (k c : Nat) : Prop :=
  ∃ ws : List Nat, ws.length = n ∧ BlkW wr b 29 ws ∧ Below b w wr ∧ c ≤ 1 ∧ pv 18446744073709551616 ws k + c * 18446744073709551616 ^ k = pv 18446744073709551616 la k + pv 18446744073709551616 lb k

theorem AddRel.step {w wr : World} {b n k c : Nat} {la lb : List Nat} (ha : allLt la) (hb : allLt lb) (h : AddRel w b n la lb wr k c) (hk : k < n) :
    AddRel w b n la lb (wr.setCell ⟨b, k, none⟩ (.int .u64 ((at64 la k + at64 lb k + (c : Int)) % 18446744073709551616))) (k + 1) ((la.getD k 0 + lb.getD k 0 + c) / 18446744073709551616) := by
  obtain ⟨ws, hl, hB, hb', hc, he⟩ := h
  have h1 := getD_lt _ (by decide) la ha k
  have h2 := getD_lt _ (by decide) lb hb k
  refine ⟨ws.set k ((la.getD k 0 + lb.getD k 0 + c) % 18446744073709551616), by simp [hl], hB.setI k _ _ (Nat.mod_lt _ (by decide)) ?_, hb'.setCell (Nat.le_refl _) _, by omega, ?_⟩
  · unfold at64; omega
  · rw [pv_set_succ _ _ _ _ (by omega), pv_succ, pv_succ, Nat.pow_succ]
    exact add_step _ _ _ _ c _ _ _ _ _ he (by rw [Nat.mul_comm]; exact Nat.mod_add_div _ _)

end Go.Proofs.YteogjnendkbjcaaDoor
/-
  limb.Sub, limb.Cmp: what each call does.
-/
namespace Go.Proofs.YteogjnendkbjcaaDoor
open Go.RowKit
set_option linter.unusedVariables false

def borN (x y : Nat) : Nat := if x < y then 1 else 0
theorem bor_nat (x y : Nat) : bor (x : Int) (y : Int) = ((borN x y : Nat) : Int) := by unfold bor borN; split <;> split <;> omega
theorem borN_le (x y : Nat) : borN x y ≤ 1 := by unfold borN; split <;> omega
theorem sub_word (x y c : Nat) (hx : x < 18446744073709551616) (hy : y < 18446744073709551616) (hc : c ≤ 1) :
    (x + 18446744073709551616 - y - c) % 18446744073709551616 + y + c = x + borN x (y + c) * 18446744073709551616 := by
  unfold borN; split <;> omega
theorem sub_step (W p q r c s c' x y P : Nat) (h : r + q = p + c * P) (e : s + y + c = x + c' * W) : (r + s * P) + (q + y * P) = (p + x * P) + c' * (P * W) := by
  have : (s + y + c) * P = (x + c' * W) * P := by rw [e]
  grind

/-- The relation of Sub's loop. -/
def SubRel (w : World) (b n : Nat) (la lb : List Nat) (wr : World) (k c : Nat) : Prop :=
  ∃ ws : List Nat, ws.length = n ∧ BlkW wr b 29 ws ∧ Below b w wr ∧ c ≤ 1 ∧ pv 18446744073709551616 ws k + pv 18446744073709551616 lb k = pv 18446744073709551616 la k + c * 18446744073709551616 ^ k

theorem SubRel.step {w wr : World} {b n k c : Nat} {la lb : List Nat} (ha : allLt la) (hb : allLt lb) (h : SubRel w b n la lb wr k c) (hk : k < n) :
    SubRel w b n la lb (wr.setCell ⟨b, k, none⟩ (.int .u64 ((at64 la k - at64 lb k - (c : Int)) % 18446744073709551616))) (k + 1) (borN (la.getD k 0) (lb.getD k 0 + c)) := by
  obtain ⟨ws, hl, hB, hb', hc, he⟩ := h
  have h1 := getD_lt _ (by decide) la ha k
  have h2 := getD_lt _ (by decide) lb hb k
  refine ⟨ws.set k ((la.getD k 0 + 18446744073709551616 - lb.getD k 0 - c) % 18446744073709551616), by simp [hl], hB.setI k _ _ (Nat.mod_lt _ (by decide)) ?_, hb'.setCell (Nat.le_refl _) _, borN_le _ _, ?_⟩
  · unfold at64; omega
  · rw [pv_set_succ _ _ _ _ (by omega), pv_succ, pv_succ, Nat.pow_succ]
    exact sub_step _ _ _ _ c _ _ _ _ _ he (sub_word _ _ _ h1 h2 hc)

/-- -1, 0 or 1. -/
def cmpN (x y : Nat) : Int := if x < y then -1 else if y < x then 1 else 0
def cmpI (x y : Int) : Int := if x < y then -1 else if y < x then 1 else 0
theorem cmpI_nat (x y : Nat) : cmpI x y = cmpN x y := by unfold cmpI cmpN; split <;> split <;> (try split) <;> omega

theorem cmpN_lt {x y : Nat} (h : x < y) : cmpN x y = -1 := by unfold cmpN; rw [if_pos h]
theorem cmpN_gt {x y : Nat} (h : y < x) : cmpN x y = 1 := by unfold cmpN; rw [if_neg (by omega), if_pos h]
theorem cmpN_eq (x : Nat) : cmpN x x = 0 := by unfold cmpN; rw [if_neg (by omega), if_neg (by omega)]
theorem cmp_words (la lb : List Nat) (ha : allLt la) (hb : allLt lb) (k n : Nat) (h : ∀ j, k < j → la.getD j 0 = lb.getD j 0) (hk : k < n) (hna : la.length ≤ n) (hnb : lb.length ≤ n)
    (hne : cmpN (la.getD k 0) (lb.getD k 0) ≠ 0) : cmpN (la.getD k 0) (lb.getD k 0) = cmpN (val 18446744073709551616 la) (val 18446744073709551616 lb) := by
  rw [← pv_out _ la n hna, ← pv_out _ lb n hnb]
  rcases Nat.lt_trichotomy (la.getD k 0) (lb.getD k 0) with h' | h' | h'
  · rw [cmpN_lt h', cmpN_lt (pv_less _ (by decide) la lb ha k n h h' hk)]
  · rw [h', cmpN_eq] at hne; exact absurd rfl hne
  · rw [cmpN_gt h', cmpN_gt (pv_less _ (by decide) lb la hb k n (fun j hj => (h j hj).symm) h' hk)]
theorem cmpN_zero {x y : Nat} (h : cmpN x y = 0) : x = y := by
  rcases Nat.lt_trichotomy x y with h' | h' | h'
  · rw [cmpN_lt h'] at h; omega
  · exact h'
  · rw [cmpN_gt h'] at h; omega

end Go.Proofs.YteogjnendkbjcaaDoor
