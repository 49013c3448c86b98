/-
  The steps of Keccak on bits, and that unlike states stay unlike: plain arithmetic, nothing of the program.
-/
namespace Go.Proofs.YteogjnendkbjcaaDoor

/-- A state's bits: of x, y, z. -/
abbrev KB : Type := Nat → Nat → Nat → Bool
/-- The same on all places. -/
def KEq (a b : KB) : Prop := ∀ x y z, x < 5 → y < 5 → z < 64 → a x y z = b x y z
theorem KEq.refl (a : KB) : KEq a a := fun _ _ _ _ _ _ => rfl
theorem KEq.symm {a b : KB} (h : KEq a b) : KEq b a := fun x y z hx hy hz => (h x y z hx hy hz).symm
theorem KEq.trans {a b c : KB} (h : KEq a b) (k : KEq b c) : KEq a c := fun x y z hx hy hz => (h x y z hx hy hz).trans (k x y z hx hy hz)
/-- A column's parity. -/
def kpar (a : KB) (x z : Nat) : Bool := a x 0 z ^^ (a x 1 z ^^ (a x 2 z ^^ (a x 3 z ^^ a x 4 z)))
def kth (a : KB) : KB := fun x y z => a x y z ^^ (kpar a ((x + 4) % 5) z ^^ kpar a ((x + 1) % 5) ((z + 63) % 64))
/-- The offsets. -/
def koff : List Nat := [0, 1, 62, 28, 27, 36, 44, 6, 55, 20, 3, 10, 43, 25, 39, 41, 45, 15, 21, 8, 18, 2, 61, 56, 14]
def krh (a : KB) : KB := fun x y z => a x y ((z + 64 - koff.getD (x + 5 * y) 0) % 64)
def kpi (a : KB) : KB := fun x y z => a ((x + 3 * y) % 5) x z
def kch (a : KB) : KB := fun x y z => a x y z ^^ (!a ((x + 1) % 5) y z && a ((x + 2) % 5) y z)
def kio (c : Nat → Bool) (a : KB) : KB := fun x y z => if x = 0 ∧ y = 0 then a x y z ^^ c z else a x y z
def krd (c : Nat → Bool) (a : KB) : KB := kio c (kch (kpi (krh (kth a))))

theorem kpar_eq {a b : KB} (h : KEq a b) {x z : Nat} (hx : x < 5) (hz : z < 64) : kpar a x z = kpar b x z := by
  unfold kpar
  rw [h x 0 z hx (by omega) hz, h x 1 z hx (by omega) hz, h x 2 z hx (by omega) hz, h x 3 z hx (by omega) hz, h x 4 z hx (by omega) hz]
theorem kth_eq {a b : KB} (h : KEq a b) : KEq (kth a) (kth b) := fun x y z hx hy hz => by
  unfold kth
  rw [h x y z hx hy hz, kpar_eq h (Nat.mod_lt _ (by decide)) hz, kpar_eq h (Nat.mod_lt _ (by decide)) (Nat.mod_lt _ (by decide))]
theorem krh_eq {a b : KB} (h : KEq a b) : KEq (krh a) (krh b) := fun x y z hx hy hz => h _ _ _ hx hy (Nat.mod_lt _ (by decide))
theorem kpi_eq {a b : KB} (h : KEq a b) : KEq (kpi a) (kpi b) := fun x y z hx hy hz => h _ _ _ (Nat.mod_lt _ (by decide)) hx hz
theorem kch_eq {a b : KB} (h : KEq a b) : KEq (kch a) (kch b) := fun x y z hx hy hz => by
  unfold kch
  rw [h x y z hx hy hz, h _ y z (Nat.mod_lt _ (by decide)) hy hz, h _ y z (Nat.mod_lt (x + 2) (by decide)) hy hz]
theorem kio_eq (c : Nat → Bool) {a b : KB} (h : KEq a b) : KEq (kio c a) (kio c b) := fun x y z hx hy hz => by
  unfold kio
  rw [h x y z hx hy hz]
theorem krd_eq (c : Nat → Bool) {a b : KB} (h : KEq a b) : KEq (krd c a) (krd c b) := kio_eq c (kch_eq (kpi_eq (krh_eq (kth_eq h))))

/-- Five bits as they stand side by side, and what theta's columns become of them. -/
def kstep (c : List Bool) : List Bool := [c.getD 4 false ^^ c.getD 3 false, c.getD 0 false ^^ c.getD 4 false, c.getD 1 false ^^ c.getD 0 false, c.getD 2 false ^^ c.getD 1 false, c.getD 3 false ^^ c.getD 2 false]
def kiter : Nat → List Bool → List Bool
  | 0, c => c
  | n + 1, c => kiter n (kstep c)
def kall : List (List Bool) := [false, true].flatMap fun a => [false, true].flatMap fun b => [false, true].flatMap fun c => [false, true].flatMap fun d => [false, true].map fun e => [a, b, c, d, e]
theorem kall_fix : (kall.all fun c => kiter 64 c != c || c == [false, false, false, false, false]) = true := by decide +kernel
theorem mem_kall (a b c d e : Bool) : [a, b, c, d, e] ∈ kall := by
  cases a <;> cases b <;> cases c <;> cases d <;> cases e <;> decide
/-- Columns that go on in themselves are 0. -/
theorem kcol_zero (C : Nat → Nat → Bool) (h : ∀ x z, x < 5 → z < 64 → C x z = (C ((x + 4) % 5) z ^^ C ((x + 1) % 5) ((z + 63) % 64))) : ∀ x z, x < 5 → z < 64 → C x z = false := by
  -- one step back in z
  have st : ∀ z, z < 64 → [C 0 ((z + 63) % 64), C 1 ((z + 63) % 64), C 2 ((z + 63) % 64), C 3 ((z + 63) % 64), C 4 ((z + 63) % 64)] = kstep [C 0 z, C 1 z, C 2 z, C 3 z, C 4 z] := by
    intro z hz
    have h0 := h 0 z (by decide) hz
    have h1 := h 1 z (by decide) hz
    have h2 := h 2 z (by decide) hz
    have h3 := h 3 z (by decide) hz
    have h4 := h 4 z (by decide) hz
    simp only [Nat.reduceAdd, Nat.reduceMod] at h0 h1 h2 h3 h4
    generalize C 0 z = p0 at *
    generalize C 1 z = p1 at *
    generalize C 2 z = p2 at *
    generalize C 3 z = p3 at *
    generalize C 4 z = p4 at *
    generalize C 0 ((z + 63) % 64) = q0 at *
    generalize C 1 ((z + 63) % 64) = q1 at *
    generalize C 2 ((z + 63) % 64) = q2 at *
    generalize C 3 ((z + 63) % 64) = q3 at *
    generalize C 4 ((z + 63) % 64) = q4 at *
    revert h0 h1 h2 h3 h4
    cases p0 <;> cases p1 <;> cases p2 <;> cases p3 <;> cases p4 <;> cases q0 <;> cases q1 <;> cases q2 <;> cases q3 <;> cases q4 <;> decide
  have it : ∀ n z, z < 64 → [C 0 ((z + 63 * n) % 64), C 1 ((z + 63 * n) % 64), C 2 ((z + 63 * n) % 64), C 3 ((z + 63 * n) % 64), C 4 ((z + 63 * n) % 64)] = kiter n [C 0 z, C 1 z, C 2 z, C 3 z, C 4 z] := by
    intro n
    induction n with
    | zero => intro z hz; rw [Nat.mul_zero, Nat.add_zero, Nat.mod_eq_of_lt hz]; rfl
    | succ n ih =>
      intro z hz
      have h1 := ih ((z + 63) % 64) (Nat.mod_lt _ (by decide))
      rw [st z hz] at h1
      have e : ((z + 63) % 64 + 63 * n) % 64 = (z + 63 * (n + 1)) % 64 := by omega
      rw [e] at h1
      exact h1
  intro x z hx hz
  have h1 := it 64 z hz
  rw [show (z + 63 * 64) % 64 = z by omega] at h1
  have h2 := List.all_eq_true.1 kall_fix _ (mem_kall (C 0 z) (C 1 z) (C 2 z) (C 3 z) (C 4 z))
  rw [← h1] at h2
  simp only [bne_self_eq_false, Bool.false_or, beq_iff_eq, List.cons.injEq, and_true] at h2
  obtain ⟨e0, e1, e2, e3, e4⟩ := h2
  match x, hx with
  | 0, _ => exact e0
  | 1, _ => exact e1
  | 2, _ => exact e2
  | 3, _ => exact e3
  | 4, _ => exact e4
theorem kth_inj {a b : KB} (h : KEq (kth a) (kth b)) : KEq a b := by
  -- the difference of the columns
  have hd : ∀ x y z, x < 5 → y < 5 → z < 64 → (a x y z ^^ b x y z) = ((kpar a ((x + 4) % 5) z ^^ kpar b ((x + 4) % 5) z) ^^ (kpar a ((x + 1) % 5) ((z + 63) % 64) ^^ kpar b ((x + 1) % 5) ((z + 63) % 64))) := by
    intro x y z hx hy hz
    have := h x y z hx hy hz
    unfold kth at this
    generalize a x y z = p at *
    generalize b x y z = q at *
    generalize kpar a ((x + 4) % 5) z = r at *
    generalize kpar b ((x + 4) % 5) z = s at *
    generalize kpar a ((x + 1) % 5) ((z + 63) % 64) = t at *
    generalize kpar b ((x + 1) % 5) ((z + 63) % 64) = u at *
    revert this
    cases p <;> cases q <;> cases r <;> cases s <;> cases t <;> cases u <;> decide
  have hz0 := kcol_zero (fun x z => kpar a x z ^^ kpar b x z) (by
    intro x z hx hz
    have h0 := hd x 0 z hx (by decide) hz
    have h1 := hd x 1 z hx (by decide) hz
    have h2 := hd x 2 z hx (by decide) hz
    have h3 := hd x 3 z hx (by decide) hz
    have h4 := hd x 4 z hx (by decide) hz
    show (kpar a x z ^^ kpar b x z) = _
    rw [← h0]
    rw [← h0] at h1 h2 h3 h4
    unfold kpar
    generalize a x 0 z = a0 at *
    generalize a x 1 z = a1 at *
    generalize a x 2 z = a2 at *
    generalize a x 3 z = a3 at *
    generalize a x 4 z = a4 at *
    generalize b x 0 z = b0 at *
    generalize b x 1 z = b1 at *
    generalize b x 2 z = b2 at *
    generalize b x 3 z = b3 at *
    generalize b x 4 z = b4 at *
    clear h0
    revert h1 h2 h3 h4
    cases a0 <;> cases b0 <;> cases a1 <;> cases b1 <;> cases a2 <;> cases b2 <;> cases a3 <;> cases b3 <;> cases a4 <;> cases b4 <;> decide)
  intro x y z hx hy hz
  have h1 := hd x y z hx hy hz
  have e1 : (kpar a ((x + 4) % 5) z ^^ kpar b ((x + 4) % 5) z) = false := hz0 _ z (Nat.mod_lt _ (by decide)) hz
  have e2 : (kpar a ((x + 1) % 5) ((z + 63) % 64) ^^ kpar b ((x + 1) % 5) ((z + 63) % 64)) = false := hz0 _ _ (Nat.mod_lt _ (by decide)) (Nat.mod_lt _ (by decide))
  rw [e1, e2] at h1
  generalize a x y z = p at *
  generalize b x y z = q at *
  revert h1
  cases p <;> cases q <;> decide
theorem koff_lt (i : Nat) : koff.getD i 0 < 64 := by
  rcases Nat.lt_or_ge i 25 with h | h
  · have key : ∀ i : Fin 25, koff.getD i.val 0 < 64 := by decide
    exact key ⟨i, h⟩
  · rw [List.getD_eq_getElem?_getD, List.getElem?_eq_none (by simpa [koff] using h)]
    decide
theorem krh_inj {a b : KB} (h : KEq (krh a) (krh b)) : KEq a b := by
  intro x y z hx hy hz
  have ho := koff_lt (x + 5 * y)
  have := h x y ((z + koff.getD (x + 5 * y) 0) % 64) hx hy (Nat.mod_lt _ (by decide))
  unfold krh at this
  have e : ((z + koff.getD (x + 5 * y) 0) % 64 + 64 - koff.getD (x + 5 * y) 0) % 64 = z := by omega
  rw [e] at this
  exact this
theorem kpi_inj {a b : KB} (h : KEq (kpi a) (kpi b)) : KEq a b := by
  intro x y z hx hy hz
  -- the place (y, 2 x + 3 y)
  have := h y ((2 * x + 3 * y) % 5) z hy (Nat.mod_lt _ (by decide)) hz
  unfold kpi at this
  have e : (y + 3 * ((2 * x + 3 * y) % 5)) % 5 = x := by omega
  rw [e] at this
  exact this
theorem kch_row : ∀ a0 a1 a2 a3 a4 b0 b1 b2 b3 b4 : Bool, (a0 ^^ (!a1 && a2)) = (b0 ^^ (!b1 && b2)) → (a1 ^^ (!a2 && a3)) = (b1 ^^ (!b2 && b3)) → (a2 ^^ (!a3 && a4)) = (b2 ^^ (!b3 && b4)) →
    (a3 ^^ (!a4 && a0)) = (b3 ^^ (!b4 && b0)) → (a4 ^^ (!a0 && a1)) = (b4 ^^ (!b0 && b1)) → a0 = b0 ∧ a1 = b1 ∧ a2 = b2 ∧ a3 = b3 ∧ a4 = b4 := by
  decide
theorem kch_inj {a b : KB} (h : KEq (kch a) (kch b)) : KEq a b := by
  intro x y z hx hy hz
  have h0 := h 0 y z (by decide) hy hz
  have h1 := h 1 y z (by decide) hy hz
  have h2 := h 2 y z (by decide) hy hz
  have h3 := h 3 y z (by decide) hy hz
  have h4 := h 4 y z (by decide) hy hz
  unfold kch at h0 h1 h2 h3 h4
  simp only [Nat.reduceAdd, Nat.reduceMod] at h0 h1 h2 h3 h4
  obtain ⟨e0, e1, e2, e3, e4⟩ := kch_row _ _ _ _ _ _ _ _ _ _ h0 h1 h2 h3 h4
  match x, hx with
  | 0, _ => exact e0
  | 1, _ => exact e1
  | 2, _ => exact e2
  | 3, _ => exact e3
  | 4, _ => exact e4
theorem kio_inj (c : Nat → Bool) {a b : KB} (h : KEq (kio c a) (kio c b)) : KEq a b := by
  intro x y z hx hy hz
  have := h x y z hx hy hz
  unfold kio at this
  split at this
  · generalize a x y z = p at *
    generalize b x y z = q at *
    generalize c z = r at *
    revert this
    cases p <;> cases q <;> cases r <;> decide
  · exact this
/-- Unlike states stay unlike. -/
theorem krd_inj (c : Nat → Bool) {a b : KB} (h : KEq (krd c a) (krd c b)) : KEq a b := kth_inj (krh_inj (kpi_inj (kch_inj (kio_inj c h))))
end Go.Proofs.YteogjnendkbjcaaDoor
