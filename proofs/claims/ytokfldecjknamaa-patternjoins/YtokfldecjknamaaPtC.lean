/-
  Sums of counts, beginnings, places of labels, lists held against each other: of items' lists, step by step. Pure; nothing of the program.
-/
import Derived.Test.YtokfldecjknamaaPtB
namespace Go.Proofs.Ytokfldecjknamaa
set_option linter.unusedVariables false

/-- What an item counts for, of a kind. -/
def cnt (q : Int) (x : IV) : Nat := if x.k = q ∧ 0 < x.c ∧ x.c ≤ 1048576 then x.c.toNat else 0
theorem cnt_le (q : Int) (x : IV) : cnt q x ≤ 1048576 := by
  unfold cnt
  split <;> omega
def tot (q : Int) : List IV → Nat
  | [] => 0
  | x :: l => cnt q x + tot q l
theorem tot_append (q : Int) : ∀ (l m : List IV), tot q (l ++ m) = tot q l + tot q m
  | [], m => by rw [List.nil_append]; exact (Nat.zero_add _).symm
  | x :: l, m => by
    show cnt q x + tot q (l ++ m) = _
    rw [tot_append q l m]
    exact (Nat.add_assoc _ _ _).symm
theorem tot_le (q : Int) : ∀ (l : List IV), tot q l ≤ l.length * 1048576
  | [] => Nat.zero_le _
  | x :: l => by
    have h1 := tot_le q l
    have h2 := cnt_le q x
    show cnt q x + tot q l ≤ _
    rw [List.length_cons, Nat.succ_mul]
    omega
theorem tot_take (q : Int) (l : List IV) {j : Nat} (h : j < l.length) : tot q (l.take (j + 1)) = tot q (l.take j) + cnt q l[j] := by
  rw [← List.take_append_getElem h, tot_append]
  rfl
theorem byS_take (l : List IV) {j : Nat} (h : j < l.length) : byS (l.take (j + 1)) = byS (l.take j) ++ (l[j]).by_ := by
  rw [← List.take_append_getElem h, byS_append, byS_one]
/-- Alike but for their labels? -/
def sameB (x y : IV) : Bool := x.k == y.k && x.t == y.t && x.c == y.c
theorem sameB_self (x : IV) : sameB x x = true := by simp [sameB]
/-- Does a list begin with another one, but for labels? -/
def preB : List IV → List IV → Bool
  | _, [] => true
  | [], _ :: _ => false
  | x :: l, y :: m => sameB x y && preB l m
theorem preB_nil (l : List IV) : preB l [] = true := by cases l <;> rfl
theorem preB_short (l m : List IV) {j : Nat} (h : j < m.length) (h2 : l.length ≤ j) : preB (l.drop j) (m.drop j) = false := by
  rw [List.drop_eq_nil_of_le h2, List.drop_eq_getElem_cons h]
  rfl
theorem preB_step (l m : List IV) {j : Nat} (h : j < m.length) (h2 : j < l.length) : preB (l.drop j) (m.drop j) = (sameB l[j] m[j] && preB (l.drop (j + 1)) (m.drop (j + 1))) := by
  rw [List.drop_eq_getElem_cons h, List.drop_eq_getElem_cons h2]
  rfl
theorem preB_end (l m : List IV) {j : Nat} (h : m.length ≤ j) : preB (l.drop j) (m.drop j) = true := by
  rw [List.drop_eq_nil_of_le h]
  exact preB_nil _
theorem preB_take : ∀ (l : List IV) (j : Nat), preB l (l.take j) = true
  | [], j => by rw [List.take_nil]; rfl
  | x :: l, 0 => rfl
  | x :: l, j + 1 => by
    show (sameB x x && preB l (l.take j)) = true
    rw [sameB_self, preB_take l j]
    rfl
theorem preB_app : ∀ (l m : List IV), preB (l ++ m) l = true
  | [], m => preB_nil _
  | x :: l, m => by
    show (sameB x x && preB (l ++ m) l) = true
    rw [sameB_self, preB_app l m]
    rfl
/-- All alike, labels and all? -/
def eqV (x y : IV) : Bool := x.k == y.k && x.t == y.t && x.c == y.c && decide (bl x.s = bl y.s)
theorem eqV_iff (x y : IV) : eqV x y = true ↔ x = y := by
  unfold eqV
  constructor
  · intro h
    simp only [Bool.and_eq_true, beq_iff_eq, decide_eq_true_eq] at h
    exact IV.ext_ h.1.1.1 h.1.1.2 h.1.2 (bl_inj h.2)
  · rintro rfl
    simp
def eqS : List IV → List IV → Bool
  | [], [] => true
  | x :: l, y :: m => eqV x y && eqS l m
  | _, _ => false
theorem eqS_iff : ∀ (l m : List IV), eqS l m = true ↔ l = m
  | [], [] => by simp [eqS]
  | [], y :: m => by simp [eqS]
  | x :: l, [] => by simp [eqS]
  | x :: l, y :: m => by
    show (eqV x y && eqS l m) = true ↔ _
    rw [Bool.and_eq_true, eqV_iff, eqS_iff l m, List.cons.injEq]
theorem eqS_self (l : List IV) : eqS l l = true := (eqS_iff l l).2 rfl
theorem eqS_len (l m : List IV) (h : l.length ≠ m.length) : eqS l m = false := by
  rcases hb : eqS l m with _ | _
  · rfl
  · exact absurd (congrArg List.length ((eqS_iff l m).1 hb)) h
theorem eqS_step (l m : List IV) {j : Nat} (h : j < l.length) (h2 : j < m.length) : eqS (l.drop j) (m.drop j) = (eqV l[j] m[j] && eqS (l.drop (j + 1)) (m.drop (j + 1))) := by
  rw [List.drop_eq_getElem_cons h, List.drop_eq_getElem_cons h2]
  rfl
theorem eqS_end (l m : List IV) {j : Nat} (h : l.length ≤ j) (h2 : m.length ≤ j) : eqS (l.drop j) (m.drop j) = true := by
  rw [List.drop_eq_nil_of_le h, List.drop_eq_nil_of_le h2]
  rfl
/-- The place of the first item with a label, from place i on; -1: there is none. -/
def fnd (s : ByteArray) : Nat → List IV → Int
  | _, [] => -1
  | i, x :: l => if bl x.s = bl s then (i : Int) else fnd s (i + 1) l
theorem fnd_step (s : ByteArray) (l : List IV) {j : Nat} (h : j < l.length) : fnd s j (l.drop j) = if bl (l[j]).s = bl s then (j : Int) else fnd s (j + 1) (l.drop (j + 1)) := by
  rw [List.drop_eq_getElem_cons h]
  rfl
theorem fnd_end (s : ByteArray) (l : List IV) {j : Nat} (h : l.length ≤ j) : fnd s j (l.drop j) = -1 := by
  rw [List.drop_eq_nil_of_le h]
  rfl
/-- What is wrong with items, and where: behind j that are right, at the j-th. -/
def sGoes (l : List IV) (j : Nat) : Prop := ∃ h : j < l.length, j ≠ 1024 ∧ (l[j]).ok
theorem sGoes_end {l : List IV} {i j : Nat} (hi : ∀ k, k < i → sGoes l k) (ni : ¬ sGoes l i) (hj : ∀ k, k < j → sGoes l k) (nj : ¬ sGoes l j) : i = j := by
  rcases Nat.lt_trichotomy i j with h | h | h
  · exact absurd (hj i h) ni
  · exact h
  · exact absurd (hi j h) nj
theorem byS_take_len {l : List IV} {j : Nat} (hj : ∀ k, k < j → sGoes l k) : j ≤ l.length ∧ j ≤ 1024 ∧ (byS (l.take j)).length ≤ j * 263 := by
  induction j with
  | zero => exact ⟨Nat.zero_le _, Nat.zero_le _, by rw [List.take_zero]; exact Nat.zero_le _⟩
  | succ j ih =>
    obtain ⟨h1, h2, h3⟩ := ih fun k hk => hj k (by omega)
    obtain ⟨a, b, c⟩ := hj j (Nat.lt_succ_self _)
    refine ⟨a, by omega, ?_⟩
    have hs : (l[j]).s.size ≤ 255 := (ck_ok (show ck _ _ _ _ = 0 from c)).2.2.2.2.2.2
    rw [byS_take l a, List.length_append, IV.by_len c]
    omega
end Go.Proofs.Ytokfldecjknamaa
