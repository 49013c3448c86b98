import Derived.Test.YteogjnendkbjcaaDoorPrims
/-
  limb.wordAt, limb.Add, limb.Sub: what each call does.
-/
namespace Go.Proofs.YteogjnendkbjcaaDoor
open Go.RowKit
set_option linter.unusedVariables false

/-- The relation of Add's loop. -/
def AddRel (w : World) (b n : Nat) (la lb : List Nat) (wr : World) (k c : Nat) : Prop :=
  ∃ ws : List Nat, ws.length = n ∧ BlkW wr b 29 ws ∧ Below b w wr ∧ c ≤ 1 ∧ pv 18446744073709551616 ws k + c * 18446744073709551616 ^ k = pv 18446744073709551616 la k + pv 18446744073709551616 lb k

theorem AddRel.step {w wr : World} {b n k c : Nat} {la lb : List Nat} (ha : allLt la) (hb : allLt lb) (h : AddRel w b n la lb wr k c) (hk : k < n) :
    AddRel w b n la lb (wr.setCell ⟨b, k, none⟩ (.int .u64 ((at64 la k + at64 lb k + (c : Int)) % 18446744073709551616))) (k + 1) ((la.getD k 0 + lb.getD k 0 + c) / 18446744073709551616) := by
  obtain ⟨ws, hl, hB, hb', hc, he⟩ := h
  have h1 := getD_lt _ (by decide) la ha k
  have h2 := getD_lt _ (by decide) lb hb k
  refine ⟨ws.set k ((la.getD k 0 + lb.getD k 0 + c) % 18446744073709551616), by simp [hl], hB.setI k _ _ (Nat.mod_lt _ (by decide)) ?_, hb'.setCell (Nat.le_refl _) _, by omega, ?_⟩
  · unfold at64; omega
  · rw [pv_set_succ _ _ _ _ (by omega), pv_succ, pv_succ, Nat.pow_succ]
    exact add_step _ _ _ _ c _ _ _ _ _ he (by rw [Nat.mul_comm]; exact Nat.mod_add_div _ _)

end Go.Proofs.YteogjnendkbjcaaDoor
/-
  limb.Sub, limb.Cmp: what each call does.
-/
namespace Go.Proofs.YteogjnendkbjcaaDoor
open Go.RowKit
set_option linter.unusedVariables false

def borN (x y : Nat) : Nat := if x < y then 1 else 0
theorem bor_nat (x y : Nat) : bor (x : Int) (y : Int) = ((borN x y : Nat) : Int) := by unfold bor borN; split <;> split <;> omega
theorem borN_le (x y : Nat) : borN x y ≤ 1 := by unfold borN; split <;> omega
theorem sub_word (x y c : Nat) (hx : x < 18446744073709551616) (hy : y < 18446744073709551616) (hc : c ≤ 1) :
    (x + 18446744073709551616 - y - c) % 18446744073709551616 + y + c = x + borN x (y + c) * 18446744073709551616 := by
  unfold borN; split <;> omega
theorem sub_step (W p q r c s c' x y P : Nat) (h : r + q = p + c * P) (e : s + y + c = x + c' * W) : (r + s * P) + (q + y * P) = (p + x * P) + c' * (P * W) := by
  have : (s + y + c) * P = (x + c' * W) * P := by rw [e]
  grind

/-- The relation of Sub's loop. -/
def SubRel (w : World) (b n : Nat) (la lb : List Nat) (wr : World) (k c : Nat) : Prop :=
  ∃ ws : List Nat, ws.length = n ∧ BlkW wr b 29 ws ∧ Below b w wr ∧ c ≤ 1 ∧ pv 18446744073709551616 ws k + pv 18446744073709551616 lb k = pv 18446744073709551616 la k + c * 18446744073709551616 ^ k

theorem SubRel.step {w wr : World} {b n k c : Nat} {la lb : List Nat} (ha : allLt la) (hb : allLt lb) (h : SubRel w b n la lb wr k c) (hk : k < n) :
    SubRel w b n la lb (wr.setCell ⟨b, k, none⟩ (.int .u64 ((at64 la k - at64 lb k - (c : Int)) % 18446744073709551616))) (k + 1) (borN (la.getD k 0) (lb.getD k 0 + c)) := by
  obtain ⟨ws, hl, hB, hb', hc, he⟩ := h
  have h1 := getD_lt _ (by decide) la ha k
  have h2 := getD_lt _ (by decide) lb hb k
  refine ⟨ws.set k ((la.getD k 0 + 18446744073709551616 - lb.getD k 0 - c) % 18446744073709551616), by simp [hl], hB.setI k _ _ (Nat.mod_lt _ (by decide)) ?_, hb'.setCell (Nat.le_refl _) _, borN_le _ _, ?_⟩
  · unfold at64; omega
  · rw [pv_set_succ _ _ _ _ (by omega), pv_succ, pv_succ, Nat.pow_succ]
    exact sub_step _ _ _ _ c _ _ _ _ _ he (sub_word _ _ _ h1 h2 hc)

/-- -1, 0 or 1. -/
def cmpN (x y : Nat) : Int := if x < y then -1 else if y < x then 1 else 0
def cmpI (x y : Int) : Int := if x < y then -1 else if y < x then 1 else 0
theorem cmpI_nat (x y : Nat) : cmpI x y = cmpN x y := by unfold cmpI cmpN; split <;> split <;> (try split) <;> omega

theorem cmpN_lt {x y : Nat} (h : x < y) : cmpN x y = -1 := by unfold cmpN; rw [if_pos h]
theorem cmpN_gt {x y : Nat} (h : y < x) : cmpN x y = 1 := by unfold cmpN; rw [if_neg (by omega), if_pos h]
theorem cmpN_eq (x : Nat) : cmpN x x = 0 := by unfold cmpN; rw [if_neg (by omega), if_neg (by omega)]
theorem cmp_words (la lb : List Nat) (ha : allLt la) (hb : allLt lb) (k n : Nat) (h : ∀ j, k < j → la.getD j 0 = lb.getD j 0) (hk : k < n) (hna : la.length ≤ n) (hnb : lb.length ≤ n)
    (hne : cmpN (la.getD k 0) (lb.getD k 0) ≠ 0) : cmpN (la.getD k 0) (lb.getD k 0) = cmpN (val 18446744073709551616 la) (val 18446744073709551616 lb) := by
  rw [← pv_out _ la n hna, ← pv_out _ lb n hnb]
  rcases Nat.lt_trichotomy (la.getD k 0) (lb.getD k 0) with h' | h' | h'
  · rw [cmpN_lt h', cmpN_lt (pv_less _ (by decide) la lb ha k n h h' hk)]
  · rw [h', cmpN_eq] at hne; exact absurd rfl hne
  · rw [cmpN_gt h', cmpN_gt (pv_less _ (by decide) lb la hb k n (fun j hj => (h j hj).symm) h' hk)]
theorem cmpN_zero {x y : Nat} (h : cmpN x y = 0) : x = y := by
  rcases Nat.lt_trichotomy x y with h' | h' | h'
  · rw [cmpN_lt h'] at h; omega
  · exact h'
  · rw [cmpN_gt h'] at h; omega

end Go.Proofs.YteogjnendkbjcaaDoor
