/-
  An item's bytes and what they tell: there and back; neither of two items' bytes begin with the other's.
-/
import Derived.Test.YtokfldecjknamaaItG
namespace Go.Proofs.Ytokfldecjknamaa
set_option linter.unusedVariables false

theorem itb_drop8 (k t c : Nat) (l m : List Nat) : (itb k t c l ++ m).drop 8 = l ++ m := by
  unfold itb
  have h : ([k, t] ++ le 4 c ++ le 2 l.length).length = 8 := by rw [List.length_append, List.length_append, le_len, le_len]; rfl
  rw [List.append_assoc, List.drop_append, h, List.drop_eq_nil_of_le (by omega), Nat.sub_self]
  rfl
theorem itb_hdl {k t c : Nat} {l m : List Nat} (h : l.length < 65536) : hdl (itb k t c l ++ m) = l.length := by
  have e : ((itb k t c l ++ m).drop 6).take 2 = le 2 l.length := by
    have h6 : ([k, t] ++ le 4 c).length = 6 := by rw [List.length_append, le_len]; rfl
    unfold itb
    rw [List.append_assoc ([k, t] ++ le 4 c), List.append_assoc ([k, t] ++ le 4 c), List.drop_append, h6, List.drop_eq_nil_of_le (by omega), Nat.sub_self]
    show ([] ++ (le 2 l.length ++ l ++ m)).take 2 = _
    rw [List.nil_append, List.append_assoc, List.take_append_of_le_length (by rw [le_len]; omega), List.take_of_length_le (by rw [le_len]; omega)]
  unfold hdl
  rw [e, val_le]
  omega
theorem itb_hdc {k t c : Nat} {l m : List Nat} (h : c < 4294967296) : hdc (itb k t c l ++ m) = c := by
  have e : ((itb k t c l ++ m).drop 2).take 4 = le 4 c := by
    unfold itb
    show ((le 4 c ++ le 2 l.length ++ l) ++ m).take 4 = _
    rw [List.append_assoc, List.append_assoc, List.take_append_of_le_length (by rw [le_len]; omega), List.take_of_length_le (by rw [le_len]; omega)]
  unfold hdc
  rw [e, val_le]
  omega
theorem itb_lab {k t c : Nat} {l m : List Nat} (h : l.length < 65536) : lab (itb k t c l ++ m) = l := by
  unfold lab
  rw [itb_hdl h, itb_drop8, List.take_left']
  rfl
theorem itb_rest {k t c : Nat} {l m : List Nat} (h : l.length < 65536) : (itb k t c l ++ m).drop (8 + hdl (itb k t c l ++ m)) = m := by
  rw [itb_hdl h, ← List.drop_drop, itb_drop8, List.drop_left']
  rfl
theorem itb_hdk (k t c : Nat) (l m : List Nat) : hdk (itb k t c l ++ m) = k := rfl
theorem itb_hdt (k t c : Nat) (l m : List Nat) : hdt (itb k t c l ++ m) = t := rfl
/-- Bytes that begin with an item begin with its bytes. -/
theorem itb_back {b : List Nat} (hb : allLt8 b) (h : 8 + hdl b ≤ b.length) : itb (hdk b) (hdt b) (hdc b) (lab b) ++ b.drop (8 + hdl b) = b := by
  have hl : (lab b).length = hdl b := by unfold lab; rw [List.length_take, List.length_drop]; omega
  have e2 : le 2 (lab b).length = (b.drop 6).take 2 := by
    have h2 : ((b.drop 6).take 2).length = 2 := by rw [List.length_take, List.length_drop]; omega
    rw [hl]
    have := le_val ((b.drop 6).take 2) ((hb.drop 6).take 2)
    rw [h2] at this
    exact this
  have e4 : le 4 (hdc b) = (b.drop 2).take 4 := by
    have h4 : ((b.drop 2).take 4).length = 4 := by rw [List.length_take, List.length_drop]; omega
    have := le_val ((b.drop 2).take 4) ((hb.drop 2).take 4)
    rw [h4] at this
    exact this
  have e0 : [hdk b, hdt b] = b.take 2 := by
    match b, h with
    | x :: y :: r, _ => rfl
    | [x], h => have h1 : ([x] : List Nat).length = 1 := rfl; omega
    | [], h => have h1 : ([] : List Nat).length = 0 := rfl; omega
  unfold itb
  rw [e2, e4, e0]
  unfold lab
  have t1 : b.take 2 ++ (b.drop 2).take 4 = b.take 6 := by rw [← List.take_add]
  have t2 : b.take 6 ++ (b.drop 6).take 2 = b.take 8 := by rw [← List.take_add]
  have t3 : b.take 8 ++ (b.drop 8).take (hdl b) = b.take (8 + hdl b) := by rw [← List.take_add]
  rw [t1, t2, t3, List.take_append_drop]
/-- Of two items' bytes, cut to the shorter ones: alike just if the items are. -/
theorem itb_unlike {k t c k' t' c' : Nat} {l l' : List Nat} (h : ck k t c l.length = 0) (h' : ck k' t' c' l'.length = 0) :
    (itb k t c l).take (min (itb k t c l).length (itb k' t' c' l').length) = (itb k' t' c' l').take (min (itb k t c l).length (itb k' t' c' l').length) ↔ k = k' ∧ t = t' ∧ c = c' ∧ l = l' := by
  obtain ⟨a1, a2, a3, a4, a5, a6, a7⟩ := ck_ok h
  obtain ⟨b1, b2, b3, b4, b5, b6, b7⟩ := ck_ok h'
  constructor
  · intro e
    have key : ∀ {k t c k' t' c' : Nat} {l l' m : List Nat}, c < 4294967296 → c' < 4294967296 → l.length < 65536 → l'.length < 65536 → itb k t c l = itb k' t' c' l' ++ m → k = k' ∧ t = t' ∧ c = c' ∧ l = l' := by
      intro k t c k' t' c' l l' m hc hc' hl hl' e
      have e1 : itb k t c l ++ [] = itb k' t' c' l' ++ m := by rw [List.append_nil]; exact e
      refine ⟨?_, ?_, ?_, ?_⟩
      · rw [← itb_hdk k t c l [], e1, itb_hdk]
      · rw [← itb_hdt k t c l [], e1, itb_hdt]
      · rw [← itb_hdc (k := k) (t := t) (l := l) (m := []) hc, e1, itb_hdc hc']
      · rw [← itb_lab (k := k) (t := t) (c := c) (m := []) hl, e1, itb_lab hl']
    rcases Nat.le_total (itb k t c l).length (itb k' t' c' l').length with hh | hh
    · rw [Nat.min_eq_left hh, List.take_of_length_le (Nat.le_refl _)] at e
      have e2 : itb k' t' c' l' = itb k t c l ++ (itb k' t' c' l').drop (itb k t c l).length := by
        conv => lhs; rw [← List.take_append_drop (itb k t c l).length (itb k' t' c' l'), ← e]
      obtain ⟨q1, q2, q3, q4⟩ := key (by omega) (by omega) (by omega) (by omega) e2
      exact ⟨q1.symm, q2.symm, q3.symm, q4.symm⟩
    · rw [Nat.min_eq_right hh, List.take_of_length_le (l := itb k' t' c' l') (Nat.le_refl _)] at e
      have e2 : itb k t c l = itb k' t' c' l' ++ (itb k t c l).drop (itb k' t' c' l').length := by
        conv => lhs; rw [← List.take_append_drop (itb k' t' c' l').length (itb k t c l), e]
      exact key (by omega) (by omega) (by omega) (by omega) e2
  · rintro ⟨rfl, rfl, rfl, rfl⟩
    rfl
end Go.Proofs.Ytokfldecjknamaa
