/-
  Numbers as lists of digits: plain arithmetic, nothing of the program.
-/
namespace Go.Proofs.Ytokfldecjknamaa

/-- The number of the first k digits of l in base W. -/
def pv (W : Nat) (l : List Nat) : Nat → Nat
  | 0 => 0
  | k + 1 => pv W l k + l.getD k 0 * W ^ k
/-- The number of a list. -/
def val (W : Nat) (l : List Nat) : Nat := pv W l l.length

theorem pv_zero (W : Nat) (l : List Nat) : pv W l 0 = 0 := rfl
theorem pv_succ (W : Nat) (l : List Nat) (k : Nat) : pv W l (k + 1) = pv W l k + l.getD k 0 * W ^ k := rfl
theorem getD_set_ne (l : List Nat) (i j x : Nat) (h : i ≠ j) : (l.set i x).getD j 0 = l.getD j 0 := by
  simp [List.getD_eq_getElem?_getD, List.getElem?_set_ne h]
theorem getD_set_eq (l : List Nat) (i x : Nat) (h : i < l.length) : (l.set i x).getD i 0 = x := by
  simp [List.getD_eq_getElem?_getD, h]
theorem pv_congr (W : Nat) (l l' : List Nat) (k : Nat) (h : ∀ i, i < k → l.getD i 0 = l'.getD i 0) : pv W l k = pv W l' k := by
  induction k with
  | zero => rfl
  | succ k ih => rw [pv_succ, pv_succ, ih (fun i hi => h i (by omega)), h k (by omega)]
theorem pv_set (W : Nat) (l : List Nat) (i x k : Nat) (h : k ≤ i) : pv W (l.set i x) k = pv W l k :=
  pv_congr W _ _ k fun j hj => getD_set_ne l i j x (by omega)
theorem pv_set_succ (W : Nat) (l : List Nat) (i x : Nat) (h : i < l.length) : pv W (l.set i x) (i + 1) = pv W l i + x * W ^ i := by
  rw [pv_succ, pv_set W l i x i (Nat.le_refl _), getD_set_eq l i x h]
theorem getD_out (l : List Nat) (i : Nat) (h : l.length ≤ i) : l.getD i 0 = 0 := by
  rw [List.getD_eq_getElem?_getD, List.getElem?_eq_none h]; rfl
theorem pv_out (W : Nat) (l : List Nat) (k : Nat) (h : l.length ≤ k) : pv W l k = val W l := by
  unfold val
  induction k with
  | zero => have : l.length = 0 := by omega
            rw [this]
  | succ k ih =>
    by_cases hk : l.length ≤ k
    · rw [pv_succ, getD_out l k hk, ih hk]; omega
    · have : l.length = k + 1 := by omega
      rw [this]
theorem getD_lt (W : Nat) (hW : 0 < W) (l : List Nat) (h : ∀ x ∈ l, x < W) (i : Nat) : l.getD i 0 < W := by
  by_cases hi : i < l.length
  · rw [List.getD_eq_getElem?_getD, List.getElem?_eq_getElem hi]; exact h _ (List.getElem_mem hi)
  · rw [getD_out l i (by omega)]; exact hW
theorem pv_lt (W : Nat) (hW : 0 < W) (l : List Nat) (h : ∀ x ∈ l, x < W) (k : Nat) : pv W l k < W ^ k := by
  induction k with
  | zero => simp [pv]
  | succ k ih =>
    have h1 := getD_lt W hW l h k
    have h2 : (l.getD k 0 + 1) * W ^ k ≤ W * W ^ k := Nat.mul_le_mul_right _ h1
    rw [pv_succ, Nat.pow_succ, Nat.mul_comm (W ^ k) W]
    rw [Nat.add_mul] at h2; omega
theorem val_lt (W : Nat) (hW : 0 < W) (l : List Nat) (h : ∀ x ∈ l, x < W) : val W l < W ^ l.length := pv_lt W hW l h _
theorem pv_inj (W : Nat) (hW : 0 < W) (l l' : List Nat) (h : ∀ x ∈ l, x < W) (h' : ∀ x ∈ l', x < W) (k : Nat) (e : pv W l k = pv W l' k) : ∀ i, i < k → l.getD i 0 = l'.getD i 0 := by
  induction k with
  | zero => intro i hi; omega
  | succ k ih =>
    rw [pv_succ, pv_succ] at e
    have b1 := pv_lt W hW l h k
    have b2 := pv_lt W hW l' h' k
    have hp : 0 < W ^ k := Nat.pow_pos hW
    have e1 : l.getD k 0 = l'.getD k 0 := by
      have := congrArg (· / W ^ k) e
      simpa [Nat.add_mul_div_right _ _ hp, Nat.div_eq_of_lt b1, Nat.div_eq_of_lt b2] using this
    have e2 : pv W l k = pv W l' k := by rw [e1] at e; omega
    intro i hi
    by_cases hik : i = k
    · subst hik; exact e1
    · exact ih e2 i (by omega)
theorem val_inj (W : Nat) (hW : 0 < W) (l l' : List Nat) (h : ∀ x ∈ l, x < W) (h' : ∀ x ∈ l', x < W) (hl : l.length = l'.length) (e : val W l = val W l') : l = l' := by
  unfold val at e
  rw [← hl] at e
  have := pv_inj W hW l l' h h' l.length e
  apply List.ext_getElem hl
  intro i h1 h2
  have := this i h1
  simpa [List.getD_eq_getElem?_getD, List.getElem?_eq_getElem h1, List.getElem?_eq_getElem h2] using this
theorem pv_drop (W : Nat) (l : List Nat) (i k : Nat) : pv W l (i + k) = pv W l i + W ^ i * pv W (l.drop i) k := by
  induction k with
  | zero => simp [pv]
  | succ k ih =>
    have e : (l.drop i).getD k 0 = l.getD (i + k) 0 := by simp [List.getD_eq_getElem?_getD]
    rw [show i + (k + 1) = (i + k) + 1 from rfl, pv_succ, ih, pv_succ, e, Nat.mul_add, Nat.pow_add, Nat.add_assoc]
    congr 2
    rw [← Nat.mul_assoc, ← Nat.mul_assoc, Nat.mul_comm (l.getD (i + k) 0)]
theorem pv_take (W : Nat) (l : List Nat) (n k : Nat) (h : k ≤ n) : pv W (l.take n) k = pv W l k :=
  pv_congr W _ _ k fun i hi => by simp [List.getD_eq_getElem?_getD, show i < n by omega]
theorem pv_replicate (W : Nat) (n k : Nat) : pv W (List.replicate n 0) k = 0 := by
  induction k with
  | zero => rfl
  | succ k ih =>
    have : (List.replicate n 0).getD k 0 = 0 := by
      rw [List.getD_eq_getElem?_getD, List.getElem?_replicate]; split <;> rfl
    rw [pv_succ, ih, this]; omega
theorem val_nil (W : Nat) : val W [] = 0 := rfl

theorem pv_tail (W : Nat) (la lb : List Nat) (k m : Nat) (h : ∀ j, k ≤ j → la.getD j 0 = lb.getD j 0) (hm : k ≤ m) : pv W la m + pv W lb k = pv W lb m + pv W la k := by
  induction m with
  | zero => have : k = 0 := by omega
            subst this; omega
  | succ m ih =>
    by_cases hk : k ≤ m
    · have := ih hk
      rw [pv_succ, pv_succ, h m hk]; omega
    · have : k = m + 1 := by omega
      subst this; omega
theorem pv_less (W : Nat) (hW : 0 < W) (la lb : List Nat) (hla : ∀ x ∈ la, x < W) (k m : Nat) (h : ∀ j, k < j → la.getD j 0 = lb.getD j 0) (hk : la.getD k 0 < lb.getD k 0) (hm : k < m) : pv W la m < pv W lb m := by
  have h1 := pv_lt W hW la hla k
  have h2 := pv_tail W la lb (k + 1) m h hm
  have h3 : (la.getD k 0 + 1) * W ^ k ≤ lb.getD k 0 * W ^ k := Nat.mul_le_mul_right _ hk
  rw [pv_succ, pv_succ] at h2
  rw [Nat.add_mul] at h3
  omega

/-- One step of adding. -/
theorem add_step (W p q r c s c' x y P : Nat) (h : r + c * P = p + q) (e : s + c' * W = x + y + c) : (r + s * P) + c' * (P * W) = (p + x * P) + (q + y * P) := by
  have : (s + c' * W) * P = (x + y + c) * P := by rw [e]
  grind
theorem val_append (W : Nat) (l : List Nat) (x : Nat) : val W (l ++ [x]) = val W l + x * W ^ l.length := by
  unfold val
  rw [List.length_append, List.length_singleton, pv_succ]
  congr 1
  · exact pv_congr W _ _ _ fun i hi => by simp [List.getD_eq_getElem?_getD, List.getElem?_append_left hi]
  · simp [List.getD_eq_getElem?_getD]
theorem val_consG (W a : Nat) (l : List Nat) : val W (a :: l) = a + W * val W l := by
  have h := pv_drop W (a :: l) 1 l.length
  show pv W (a :: l) (l.length + 1) = _
  rw [Nat.add_comm l.length 1, h]
  show pv W (a :: l) 0 + a * W ^ 0 + W ^ 1 * pv W l l.length = a + W * val W l
  rw [pv_zero, Nat.pow_zero, Nat.pow_one, Nat.mul_one, Nat.zero_add]
  rfl
end Go.Proofs.Ytokfldecjknamaa
