import Derived.Test.YtfonpmahcdmajaaDoorFrob
/-
  Polynomials of the shift, on sequences: plain arithmetic, nothing of the program.
-/
namespace Go.Proofs.YtfonpmahcdmajaaDoor

/-- The shift by k. -/
def sh (k : Nat) (u : Sq) : Sq := fun n => u (n + k)
/-- A list of numbers, as a polynomial of the shift by s. -/
def actS (s : Nat) : List Nat → Sq → Sq
  | [], _ => fun _ => 0
  | c :: l, u => fun n => (c : Int) * u n + actS s l u (n + s)
theorem sh_lin (k : Nat) : Lin (sh k) := ⟨fun _ _ => rfl, fun _ _ => rfl⟩
theorem actS_lin (s : Nat) : ∀ l, Lin (actS s l)
  | [] => ⟨fun _ _ => by funext n; simp [actS], fun _ _ => by funext n; simp [actS]⟩
  | c :: l => ⟨fun u v => by
      funext n
      simp only [actS, (actS_lin s l).add, Int.mul_add]
      omega, fun d u => by
      funext n
      simp only [actS, (actS_lin s l).mul, Int.mul_add]
      rw [Int.mul_left_comm]⟩
theorem sh_sh (a b : Nat) (u : Sq) : sh a (sh b u) = sh (a + b) u := by
  funext n; simp only [sh, Nat.add_assoc]
theorem sh_zero (u : Sq) : sh 0 u = u := rfl
theorem actS_sh (s k : Nat) : ∀ (l : List Nat) (u : Sq), actS s l (sh k u) = sh k (actS s l u)
  | [], _ => rfl
  | c :: l, u => by
    funext n
    simp only [actS, actS_sh s k l u, sh]
    rw [show n + s + k = n + k + s by omega]
theorem actS_comm (s t : Nat) (m : List Nat) : ∀ (l : List Nat) (u : Sq), actS s l (actS t m u) = actS t m (actS s l u)
  | [], u => by
    have h := (actS_lin t m).mul 0 u
    funext n
    have h2 : actS s [] u = fun n => 0 * u n := by funext k; simp [actS]
    rw [h2, h]
    simp [actS]
  | c :: l, u => by
    have e : actS s (c :: l) u = fun n => (c : Int) * u n + sh s (actS s l u) n := rfl
    rw [e, (actS_lin t m).add (fun n => (c : Int) * u n) (sh s (actS s l u)), (actS_lin t m).mul, actS_sh, ← actS_comm s t m l u]
    rfl
theorem itr_sh (k : Nat) (u : Sq) : ∀ n, itr (sh k) n u = sh (k * n) u
  | 0 => rfl
  | n + 1 => by rw [itr, itr_sh k u n, sh_sh, Nat.mul_succ, Nat.add_comm]
theorem itr_two {A B : Sq → Sq} (h : ∀ u, A (B u) = B (A u)) (u : Sq) : ∀ n, itr (fun x => A (B x)) n u = itr A n (itr B n u)
  | 0 => rfl
  | n + 1 => by
    rw [itr, itr_two h u n]
    simp only [itr]
    rw [← itr_comm (fun x => (h x)) n (itr B n u)]
theorem itr_mul (c : Int) (u : Sq) : ∀ n, itr (fun x => fun i => c * x i) n u = fun i => c ^ n * u i
  | 0 => by funext i; simp [itr]
  | n + 1 => by
    funext i
    rw [itr, itr_mul c u n, Int.pow_succ, Int.mul_comm (c ^ n) c, Int.mul_assoc]
theorem mul_lin (c : Int) : Lin (fun x => fun i => c * x i) :=
  ⟨fun u v => by funext i; rw [Int.mul_add], fun d u => by funext i; rw [Int.mul_left_comm]⟩
/-- Fermat's little theorem. -/
theorem fermat_int {r : Nat} (hr : Prm r) : ∀ c : Nat, (r : Int) ∣ (c : Int) ^ r - c
  | 0 => by
    have := hr.1
    obtain ⟨m, rfl⟩ : ∃ m, r = m + 1 := ⟨r - 1, by omega⟩
    simp [Int.pow_succ]
  | c + 1 => by
    have ih := fermat_int hr c
    have h := dream (mul_lin (c : Int)) (mul_lin 1) (fun u => by funext i; rw [Int.mul_left_comm]) hr (fun _ => 1) 0
    have e : (fun x : Sq => fun i => (c : Int) * x i + 1 * x i) = fun x => fun i => ((c + 1 : Nat) : Int) * x i := by
      funext x i; rw [Int.natCast_add, Int.add_mul]; rfl
    rw [e, itr_mul, itr_mul, itr_mul] at h
    simp only [Int.mul_one, Int.one_pow] at h
    have h2 := Int.dvd_add h ih
    have e2 : ∀ a b c : Int, a - (1 + b) + (b - c) = a - (c + 1) := by intros; omega
    rw [e2] at h2
    rw [Int.natCast_add]
    rw [Int.natCast_add] at h2
    exact h2
/-- Frobenius. -/
theorem frob {r : Nat} (hr : Prm r) (s : Nat) : ∀ (l : List Nat) (u : Sq), Alk r (itr (actS s l) r u) (actS (s * r) l u)
  | [], u => by
    have := hr.1
    obtain ⟨m, rfl⟩ : ∃ m, r = m + 1 := ⟨r - 1, by omega⟩
    exact Alk.refl _ _
  | c :: l, u => by
    have h := dream (mul_lin (c : Int)) (B := fun x => sh s (actS s l x))
      ⟨fun u v => by rw [(actS_lin s l).add, (sh_lin s).add], fun c u => by rw [(actS_lin s l).mul, (sh_lin s).mul]⟩
      (fun u => by rw [(actS_lin s l).mul, (sh_lin s).mul]) hr u
    refine Alk.trans h ?_
    rw [itr_mul, itr_two (fun x => (actS_sh s s l x).symm), itr_sh]
    have ih := (frob hr s l u).lin (sh_lin (s * r))
    intro i
    have h1 := ih i
    have h2 : (r : Int) ∣ ((c : Int) ^ r - c) * u i := Int.dvd_trans (fermat_int hr c) (Int.dvd_mul_right _ _)
    rw [Int.sub_mul] at h2
    have h3 := Int.dvd_add h1 h2
    simp only [actS]
    have e : ∀ a b c d : Int, a - b + (c - d) = a + c - (d + b) := by intros; omega
    rw [e] at h3
    exact h3
end Go.Proofs.YtfonpmahcdmajaaDoor
/-
  Polynomials modulo a number and a polynomial, as lists; what they make of sequences that keep the recurrence: plain arithmetic, nothing of the program.
-/
namespace Go.Proofs.YtfonpmahcdmajaaDoor

/-- The sequence keeps the recurrence g, modulo r. -/
def Rec (r : Int) (g : List Nat) (u : Sq) : Prop := Alk r (sh g.length u) (actS 1 g u)
theorem Rec.sh {r : Int} {g : List Nat} {u : Sq} (h : Rec r g u) (k : Nat) : Rec r g (sh k u) := by
  have h1 := Alk.lin (sh_lin k) h
  unfold Rec
  rw [actS_sh, sh_sh, Nat.add_comm, ← sh_sh]
  exact h1
theorem Rec.act {r : Int} {g : List Nat} {u : Sq} (h : Rec r g u) (s : Nat) (l : List Nat) : Rec r g (actS s l u) := by
  have h1 := Alk.lin (actS_lin s l) h
  unfold Rec
  rw [actS_sh, actS_comm] at h1
  exact h1
theorem Rec.frob {r : Nat} (hr : Prm r) {g : List Nat} {u : Sq} (h : Rec r g u) : Alk r (Go.Proofs.YtfonpmahcdmajaaDoor.sh (g.length * r) u) (actS r g u) := by
  have h1 : ∀ n, Alk r (itr (Go.Proofs.YtfonpmahcdmajaaDoor.sh g.length) n u) (itr (actS 1 g) n u) := by
    intro n
    induction n with
    | zero => exact Alk.refl _ _
    | succ n ih =>
      refine Alk.trans (ih.lin (sh_lin _)) ?_
      rw [← itr_comm (fun x => actS_sh 1 g.length g x) n u]
      have h2 := Alk.lin (itr_lin (actS_lin 1 g) n) h
      refine Alk.trans h2 ?_
      rw [itr_comm (fun x => rfl) n u]
      exact Alk.refl _ _
  have h2 := h1 r
  rw [itr_sh] at h2
  have h3 := Go.Proofs.YtfonpmahcdmajaaDoor.frob hr 1 g u
  rw [Nat.one_mul] at h3
  exact h2.trans h3

/-- Sums and multiples of lists, modulo N. -/
def addm (N : Nat) : List Nat → List Nat → List Nat
  | [], m => m
  | a :: l, [] => a :: l
  | a :: l, b :: m => (a + b) % N :: addm N l m
def mulc (N c : Nat) (l : List Nat) : List Nat := l.map fun a => c * a % N
theorem mod_alk {r N : Nat} (hN : r ∣ N) (x : Nat) : ∃ k : Int, ((x % N : Nat) : Int) = (x : Int) + (r : Int) * k := by
  obtain ⟨q, rfl⟩ := hN
  refine ⟨-((q : Int) * ((x / (r * q) : Nat) : Int)), ?_⟩
  have h := Nat.mod_add_div x (r * q)
  have h2 : ((x % (r * q) : Nat) : Int) + ((r * q : Nat) : Int) * ((x / (r * q) : Nat) : Int) = (x : Int) := by
    rw [← Int.natCast_mul, ← Int.natCast_add, h]
  rw [Int.natCast_mul, Int.mul_assoc] at h2
  rw [Int.mul_neg]
  omega
theorem addm_alk {r N : Nat} (hN : r ∣ N) : ∀ (l m : List Nat) (u : Sq), Alk r (actS 1 (addm N l m) u) (fun n => actS 1 l u n + actS 1 m u n)
  | [], m, u => fun n => by simp [addm, actS]
  | a :: l, [], u => fun n => by simp [addm, actS]
  | a :: l, b :: m, u => fun n => by
    have ih := addm_alk hN l m u (n + 1)
    obtain ⟨k, hk⟩ := mod_alk hN (a + b)
    obtain ⟨j, hj⟩ := ih
    have hj : actS 1 (addm N l m) u (n + 1) - (actS 1 l u (n + 1) + actS 1 m u (n + 1)) = r * j := hj
    simp only [addm, actS, hk]
    refine ⟨k * u n + j, ?_⟩
    rw [Int.mul_add (r : Int), ← hj, Int.natCast_add, Int.add_mul, Int.add_mul, Int.mul_assoc]
    omega
theorem mulc_alk {r N : Nat} (hN : r ∣ N) (c : Nat) : ∀ (l : List Nat) (u : Sq), Alk r (actS 1 (mulc N c l) u) (fun n => (c : Int) * actS 1 l u n)
  | [], u => fun n => by simp [mulc, actS]
  | a :: l, u => fun n => by
    obtain ⟨j, hj⟩ := mulc_alk hN c l u (n + 1)
    obtain ⟨k, hk⟩ := mod_alk hN (c * a)
    simp only [mulc, List.map, actS, hk] at *
    refine ⟨k * u n + j, ?_⟩
    rw [Int.mul_add (r : Int), ← hj, Int.natCast_mul, Int.add_mul, Int.mul_assoc (r : Int), Int.mul_add (c : Int), Int.mul_assoc (c : Int)]
    omega
/-- Times x. -/
def mulx (N : Nat) (g l : List Nat) : List Nat := addm N (0 :: l.dropLast) (mulc N (l.getLastD 0) g)
theorem act_last : ∀ (l : List Nat) (u : Sq) (n : Nat), l ≠ [] → actS 1 l u n = actS 1 l.dropLast u n + (l.getLastD 0 : Int) * u (n + (l.length - 1))
  | [], _, _, h => absurd rfl h
  | [a], u, n, _ => by simp [actS]
  | a :: b :: l, u, n, _ => by
    have ih := act_last (b :: l) u (n + 1) (by simp)
    rw [show (a :: b :: l).dropLast = a :: (b :: l).dropLast from rfl]
    have ea : ∀ (l : List Nat), actS 1 (a :: l) u n = (a : Int) * u n + actS 1 l u (n + 1) := fun _ => rfl
    rw [ea, ea, ih]
    rw [show (a :: b :: l).getLastD 0 = (b :: l).getLastD 0 from by simp [List.getLastD]]
    rw [show n + 1 + ((b :: l).length - 1) = n + ((a :: b :: l).length - 1) by simp; omega]
    omega
theorem mulx_alk {r N : Nat} (hN : r ∣ N) {g l : List Nat} (hl : l.length = g.length) (h0 : 0 < g.length) {u : Sq} (h : Rec r g u) :
    Alk r (actS 1 (mulx N g l) u) (Go.Proofs.YtfonpmahcdmajaaDoor.sh 1 (actS 1 l u)) := by
  refine (addm_alk hN _ _ u).trans ?_
  refine Alk.trans (Alk.add (Alk.refl _ _) (mulc_alk hN _ g u)) ?_
  intro n
  have hne : l ≠ [] := by intro e; subst e; simp at hl; omega
  have e := act_last l u (n + 1) hne
  have e2 : Go.Proofs.YtfonpmahcdmajaaDoor.sh 1 (actS 1 l u) n = actS 1 l u (n + 1) := rfl
  rw [e2, e]
  obtain ⟨j, hj⟩ := h n
  have hj : u (n + g.length) - actS 1 g u n = r * j := hj
  rw [show n + 1 + (l.length - 1) = n + g.length by omega]
  refine ⟨-((l.getLastD 0 : Int) * j), ?_⟩
  have e3 : u (n + g.length) = actS 1 g u n + r * j := by omega
  rw [e3, actS, Int.mul_add, Int.mul_neg, Int.mul_left_comm (r : Int)]
  simp only [Int.natCast_zero, Int.zero_mul]
  omega
end Go.Proofs.YtfonpmahcdmajaaDoor
