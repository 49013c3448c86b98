/-
  Items one behind the other, as bytes: what is read of them, step by step, and that it is what was written. Pure; nothing of the program.
-/
import Derived.Test.YtokfldecjknamaaItK
namespace Go.Proofs.Ytokfldecjknamaa
set_option linter.unusedVariables false

/-- An item's parts. -/
structure IV where
  k : Int
  t : Int
  c : Int
  s : ByteArray
theorem IV.ext_ {x y : IV} (h1 : x.k = y.k) (h2 : x.t = y.t) (h3 : x.c = y.c) (h4 : x.s = y.s) : x = y := by
  cases x; cases y; simp_all
def IV.ok (x : IV) : Prop := ck x.k x.t x.c x.s.size = 0
def IV.err (x : IV) : Nat := ck x.k x.t x.c x.s.size
/-- Its bytes. -/
def IV.by_ (x : IV) : List Nat := iE x.k x.t x.c x.s
/-- The item that bytes begin with. -/
def ivOf (b : List Nat) : IV := ⟨(dK b : Nat), (dT b : Nat), (dC b : Nat), sb (dL b)⟩
theorem ivOf_by {x : IV} (h : x.ok) (m : List Nat) : decE (x.by_ ++ m) = 0 ∧ ivOf (x.by_ ++ m) = x ∧ dR (x.by_ ++ m) = m := by
  obtain ⟨h0, h1, h2, h3, h4, h5⟩ := enc_back h m
  exact ⟨h0, IV.ext_ h1 h2 h3 h4, h5⟩
theorem by_ivOf {b : List Nat} (hb : allLt8 b) (h : decE b = 0) : (ivOf b).ok ∧ (ivOf b).by_ ++ dR b = b := dec_back hb h
theorem IV.by_len {x : IV} (h : x.ok) : x.by_.length = 8 + x.s.size := by
  have h' : ck x.k x.t x.c x.s.size = 0 := h
  unfold IV.by_ iE
  rw [if_pos h', itb_len, bl_len]
theorem IV.by_lt (x : IV) : allLt8 x.by_ := iE_lt _ _ _ _
theorem dR_lt {b : List Nat} (hb : allLt8 b) : allLt8 (dR b) := by
  unfold dR
  split
  · exact hb.drop _
  · intro x hx; cases hx
theorem dR_len {b : List Nat} (hb : allLt8 b) (h : decE b = 0) : (dR b).length + 8 ≤ b.length := by
  obtain ⟨h1, h2⟩ := by_ivOf hb h
  have h3 := congrArg List.length h2
  rw [List.length_append, IV.by_len h1] at h3
  omega
/-- The bytes of items, one behind the other. -/
def byS : List IV → List Nat
  | [] => []
  | x :: l => x.by_ ++ byS l
theorem byS_append : ∀ (l m : List IV), byS (l ++ m) = byS l ++ byS m
  | [], m => rfl
  | x :: l, m => by
    show x.by_ ++ byS (l ++ m) = _
    rw [byS_append l m]
    exact (List.append_assoc _ _ _).symm
theorem byS_one (x : IV) : byS [x] = x.by_ := by
  show x.by_ ++ [] = _
  rw [List.append_nil]
theorem byS_lt : ∀ (l : List IV), allLt8 (byS l)
  | [] => by intro x hx; cases hx
  | x :: l => by
    intro y hy
    rcases List.mem_append.1 hy with h | h
    · exact x.by_lt y h
    · exact byS_lt l y h
/-- No item's bytes are none. -/
theorem byS_len : ∀ {l : List IV}, (∀ x ∈ l, x.ok) → 8 * l.length ≤ (byS l).length
  | [], _ => Nat.zero_le _
  | x :: l, h => by
    have h1 := byS_len (l := l) fun y hy => h y (List.mem_cons_of_mem _ hy)
    have h2 := IV.by_len (h x (List.mem_cons_self ..))
    show _ ≤ (x.by_ ++ byS l).length
    rw [List.length_append, List.length_cons]
    omega
/-- Unlike items have unlike bytes. -/
theorem byS_inj : ∀ {l m : List IV}, (∀ x ∈ l, x.ok) → (∀ x ∈ m, x.ok) → byS l = byS m → l = m
  | [], [], _, _, _ => rfl
  | [], y :: m, _, hm, e => by
    have := congrArg List.length e
    have h2 := byS_len hm
    rw [← this] at h2
    have h3 : (byS []).length = 0 := rfl
    rw [h3, List.length_cons] at h2
    omega
  | x :: l, [], hl, _, e => by
    have := congrArg List.length e
    have h2 := byS_len hl
    rw [this] at h2
    have h3 : (byS []).length = 0 := rfl
    rw [h3, List.length_cons] at h2
    omega
  | x :: l, y :: m, hl, hm, e => by
    have e' : x.by_ ++ byS l = y.by_ ++ byS m := e
    obtain ⟨_, a2, a3⟩ := ivOf_by (hl x (List.mem_cons_self ..)) (byS l)
    obtain ⟨_, b2, b3⟩ := ivOf_by (hm y (List.mem_cons_self ..)) (byS m)
    rw [e', b2] at a2
    rw [e', b3] at a3
    rw [a2, byS_inj (fun z hz => hl z (List.mem_cons_of_mem _ hz)) (fun z hz => hm z (List.mem_cons_of_mem _ hz)) a3.symm]
/-- What is left of bytes behind j items. -/
def rsN (b : List Nat) : Nat → List Nat
  | 0 => b
  | j + 1 => dR (rsN b j)
/-- The first j items. -/
def xsN (b : List Nat) : Nat → List IV
  | 0 => []
  | j + 1 => xsN b j ++ [ivOf (rsN b j)]
theorem xsN_len (b : List Nat) : ∀ j, (xsN b j).length = j
  | 0 => rfl
  | j + 1 => by rw [xsN, List.length_append, xsN_len b j]; rfl
/-- Reading may go on behind j items. -/
def goes (b : List Nat) (j : Nat) : Prop := rsN b j ≠ [] ∧ j ≠ 1024 ∧ decE (rsN b j) = 0
theorem rsN_lt {b : List Nat} (hb : allLt8 b) : ∀ j, allLt8 (rsN b j)
  | 0 => hb
  | j + 1 => dR_lt (rsN_lt hb j)
theorem rsN_len {b : List Nat} (hb : allLt8 b) : ∀ j, (∀ i, i < j → goes b i) → (rsN b j).length + 8 * j ≤ b.length
  | 0, _ => Nat.le_refl _
  | j + 1, h => by
    have h1 := rsN_len hb j fun i hi => h i (by omega)
    have h2 := dR_len (rsN_lt hb j) (h j (Nat.lt_succ_self _)).2.2
    show (dR (rsN b j)).length + 8 * (j + 1) ≤ _
    omega
/-- The items read so far, and what is left, are the bytes. -/
theorem xsN_back {b : List Nat} (hb : allLt8 b) : ∀ j, (∀ i, i < j → goes b i) → (∀ x ∈ xsN b j, x.ok) ∧ byS (xsN b j) ++ rsN b j = b
  | 0, _ => ⟨fun x hx => (List.not_mem_nil hx).elim, rfl⟩
  | j + 1, h => by
    obtain ⟨h1, h2⟩ := xsN_back hb j fun i hi => h i (by omega)
    obtain ⟨g1, g2⟩ := by_ivOf (rsN_lt hb j) (h j (Nat.lt_succ_self _)).2.2
    refine ⟨fun x hx => ?_, ?_⟩
    · rcases List.mem_append.1 hx with hx | hx
      · exact h1 x hx
      · rw [List.mem_singleton.1 hx]; exact g1
    · show byS (xsN b j ++ [ivOf (rsN b j)]) ++ dR (rsN b j) = b
      rw [byS_append, byS_one, List.append_assoc, g2, h2]
/-- What is read of the bytes of items that may be, and of whatever stands behind them. -/
theorem rsN_byS : ∀ (l : List IV) (m : List Nat), (∀ x ∈ l, x.ok) → ∀ j, j ≤ l.length → rsN (byS l ++ m) j = byS (l.drop j) ++ m ∧ xsN (byS l ++ m) j = l.take j
  | l, m, _, 0, _ => by rw [List.drop_zero, List.take_zero]; exact ⟨rfl, rfl⟩
  | l, m, h, j + 1, hj => by
    obtain ⟨h1, h2⟩ := rsN_byS l m h j (by omega)
    have e : l.drop j = l[j] :: l.drop (j + 1) := List.drop_eq_getElem_cons (by omega)
    have e2 : byS (l.drop j) ++ m = (l[j]).by_ ++ (byS (l.drop (j + 1)) ++ m) := by
      rw [e]
      show ((l[j]).by_ ++ byS (l.drop (j + 1))) ++ m = _
      rw [List.append_assoc]
    obtain ⟨_, b2, b3⟩ := ivOf_by (h (l[j]) (List.getElem_mem _)) (byS (l.drop (j + 1)) ++ m)
    refine ⟨?_, ?_⟩
    · show dR (rsN (byS l ++ m) j) = _
      rw [h1, e2, b3]
    · show xsN (byS l ++ m) j ++ [ivOf (rsN (byS l ++ m) j)] = _
      rw [h2, h1, e2, b2, ← List.take_succ_eq_append_getElem (by omega)]
theorem goes_byS (l : List IV) (m : List Nat) (h : ∀ x ∈ l, x.ok) {j : Nat} (hj : j < l.length) (h4 : j ≠ 1024) : goes (byS l ++ m) j := by
  obtain ⟨h1, _⟩ := rsN_byS l m h j (by omega)
  have e : l.drop j = l[j] :: l.drop (j + 1) := List.drop_eq_getElem_cons (by omega)
  have e2 : byS (l.drop j) ++ m = (l[j]).by_ ++ (byS (l.drop (j + 1)) ++ m) := by
    rw [e]
    show ((l[j]).by_ ++ byS (l.drop (j + 1))) ++ m = _
    rw [List.append_assoc]
  have ok := h (l[j]) (List.getElem_mem _)
  obtain ⟨b1, _, _⟩ := ivOf_by ok (byS (l.drop (j + 1)) ++ m)
  refine ⟨?_, h4, ?_⟩
  · rw [h1, e2]
    intro e3
    have := congrArg List.length e3
    rw [List.length_append, IV.by_len ok] at this
    have h0 : ([] : List Nat).length = 0 := rfl
    omega
  · rw [h1, e2]; exact b1
/-- Reading ends at one place alone. -/
theorem goes_end {b : List Nat} {i j : Nat} (hi : ∀ k, k < i → goes b k) (ni : ¬ goes b i) (hj : ∀ k, k < j → goes b k) (nj : ¬ goes b j) : i = j := by
  rcases Nat.lt_trichotomy i j with h | h | h
  · exact absurd (hj i h) ni
  · exact h
  · exact absurd (hi j h) nj
end Go.Proofs.Ytokfldecjknamaa
