/-
  Operators on sequences of numbers, and what the power of a prime makes of a sum: plain arithmetic, nothing of the program.
-/
import Derived.Test.YtfonpmahcdmajaaDoorPrm
namespace Go.Proofs.YtfonpmahcdmajaaDoor

/-- Binomial coefficients. -/
def ch : Nat → Nat → Nat
  | _, 0 => 1
  | 0, _ + 1 => 0
  | n + 1, k + 1 => ch n k + ch n (k + 1)
theorem ch_zero (n : Nat) : ch n 0 = 1 := by cases n <;> rfl
theorem ch_mul : ∀ (n k : Nat), (k + 1) * ch (n + 1) (k + 1) = (n + 1) * ch n k
  | 0, 0 => rfl
  | 0, k + 1 => by simp [ch]
  | n + 1, 0 => by
    have ih := ch_mul n 0
    rw [show ch (n + 1 + 1) (0 + 1) = ch (n + 1) 0 + ch (n + 1) (0 + 1) from rfl]
    simp only [ch_zero] at *
    omega
  | n + 1, k + 1 => by
    have ih := ch_mul n (k + 1)
    have ih2 := ch_mul n k
    rw [show ch (n + 1 + 1) (k + 1 + 1) = ch (n + 1) (k + 1) + ch (n + 1) (k + 1 + 1) from rfl, Nat.mul_add, ih, Nat.add_mul (k + 1) 1, ih2]
    rw [show ch (n + 1) (k + 1) = ch n k + ch n (k + 1) from rfl]
    simp only [Nat.add_mul, Nat.mul_add, Nat.one_mul]
    omega
theorem ch_past : ∀ (n k : Nat), n < k → ch n k = 0
  | _, 0, h => by omega
  | 0, k + 1, _ => rfl
  | n + 1, k + 1, h => by
    rw [show ch (n + 1) (k + 1) = ch n k + ch n (k + 1) from rfl, ch_past n k (by omega), ch_past n (k + 1) (by omega)]
theorem ch_self : ∀ n : Nat, ch n n = 1
  | 0 => rfl
  | n + 1 => by
    rw [show ch (n + 1) (n + 1) = ch n n + ch n (n + 1) from rfl, ch_self n, ch_past n (n + 1) (by omega)]
theorem ch_prm {r : Nat} (hr : Prm r) (k : Nat) (h0 : 0 < k) (h1 : k < r) : r ∣ ch r k := by
  have h := ch_mul (r - 1) (k - 1)
  rw [show k - 1 + 1 = k by omega, show r - 1 + 1 = r by omega] at h
  have hd : r ∣ k * ch r k := ⟨_, h⟩
  rcases hr.dvd_mul hd with h2 | h2
  · exact absurd (Nat.le_of_dvd h0 h2) (by omega)
  · exact h2

abbrev Sq := Nat → Int
/-- An operator that keeps sums and multiples. -/
structure Lin (A : Sq → Sq) : Prop where
  add : ∀ u v : Sq, A (fun n => u n + v n) = fun n => A u n + A v n
  mul : ∀ (c : Int) (u : Sq), A (fun n => c * u n) = fun n => c * A u n
/-- Alike modulo r, at each place. -/
def Alk (r : Int) (u v : Sq) : Prop := ∀ n, r ∣ u n - v n
theorem Alk.refl (r : Int) (u : Sq) : Alk r u u := fun n => by rw [Int.sub_self]; exact Int.dvd_zero r
theorem Alk.symm {r : Int} {u v : Sq} (h : Alk r u v) : Alk r v u := fun n => by
  have := (Int.dvd_neg).mpr (h n)
  rwa [Int.neg_sub] at this
theorem Alk.trans {r : Int} {u v x : Sq} (h : Alk r u v) (g : Alk r v x) : Alk r u x := fun n => by
  have := Int.dvd_add (h n) (g n)
  rwa [show u n - v n + (v n - x n) = u n - x n by omega] at this
theorem Alk.add {r : Int} {u v x y : Sq} (h : Alk r u v) (g : Alk r x y) : Alk r (fun n => u n + x n) (fun n => v n + y n) := fun n => by
  have := Int.dvd_add (h n) (g n)
  rwa [show u n - v n + (x n - y n) = u n + x n - (v n + y n) by omega] at this
theorem Alk.lin {A : Sq → Sq} (hA : Lin A) {r : Int} {u v : Sq} (h : Alk r u v) : Alk r (A u) (A v) := by
  have hx : ∃ x : Sq, ∀ n, u n - v n = r * x n := ⟨fun n => (h n).choose, fun n => (h n).choose_spec⟩
  obtain ⟨x, hx⟩ := hx
  have hu : u = fun n => v n + r * x n := funext fun n => by have := hx n; omega
  intro n
  rw [hu, hA.add v (fun n => r * x n), hA.mul r x]
  exact ⟨A x n, by simp only []; omega⟩

/-- An operator, n times. -/
def itr (A : Sq → Sq) : Nat → Sq → Sq
  | 0, u => u
  | n + 1, u => A (itr A n u)
theorem itr_lin {A : Sq → Sq} (hA : Lin A) : ∀ n, Lin (itr A n)
  | 0 => ⟨fun _ _ => rfl, fun _ _ => rfl⟩
  | n + 1 => ⟨fun u v => by simp only [itr, (itr_lin hA n).add, hA.add], fun c u => by simp only [itr, (itr_lin hA n).mul, hA.mul]⟩
theorem itr_comm {A B : Sq → Sq} (h : ∀ u, A (B u) = B (A u)) : ∀ (n : Nat) (u : Sq), itr A n (B u) = B (itr A n u)
  | 0, _ => rfl
  | n + 1, u => by simp only [itr, itr_comm h n u, h]
theorem itr_add (A : Sq → Sq) (m : Nat) (u : Sq) : ∀ n, itr A (m + n) u = itr A n (itr A m u)
  | 0 => rfl
  | n + 1 => by rw [show m + (n + 1) = (m + n) + 1 from rfl]; simp only [itr, itr_add A m u n]

/-- The sum of c k times A k times and B (n - k) times. -/
def hs (A B : Sq → Sq) (c : Nat → Int) (u : Sq) : Nat → Sq
  | 0 => fun i => c 0 * u i
  | n + 1 => fun i => B (hs A B c u n) i + c (n + 1) * itr A (n + 1) u i
/-- The coefficients, moved by one. -/
def mv (c : Nat → Int) : Nat → Int
  | 0 => 0
  | k + 1 => c k
theorem hs_A {A B : Sq → Sq} (hA : Lin A) (hB : Lin B) (hc : ∀ u, A (B u) = B (A u)) (c : Nat → Int) (u : Sq) :
    ∀ n, A (hs A B c u n) = hs A B (mv c) u (n + 1)
  | 0 => by
    funext i
    simp only [hs, mv, itr, hA.mul, hB.mul]
    omega
  | n + 1 => by
    funext i
    rw [hs, hA.add, hc, hs_A hA hB hc c u n, hA.mul]
    rfl
theorem hs_B (A B : Sq → Sq) (c : Nat → Int) (u : Sq) (n : Nat) (h : c (n + 1) = 0) : B (hs A B c u n) = hs A B c u (n + 1) := by
  funext i
  simp only [hs, h, Int.zero_mul, Int.add_zero]
theorem hs_add {A B : Sq → Sq} (hB : Lin B) (c d : Nat → Int) (u : Sq) :
    ∀ n, hs A B (fun k => c k + d k) u n = fun i => hs A B c u n i + hs A B d u n i
  | 0 => by funext i; simp only [hs, Int.add_mul]
  | n + 1 => by
    funext i
    simp only [hs, hs_add hB c d u n, hB.add, Int.add_mul]
    omega
theorem binom {A B : Sq → Sq} (hA : Lin A) (hB : Lin B) (hc : ∀ u, A (B u) = B (A u)) (u : Sq) :
    ∀ n, itr (fun x => fun i => A x i + B x i) n u = hs A B (fun k => (ch n k : Int)) u n
  | 0 => by funext i; simp [itr, hs, ch]
  | n + 1 => by
    rw [itr, binom hA hB hc u n, hs_A hA hB hc, hs_B A B _ u n (by rw [ch_past n (n + 1) (by omega)]; rfl), ← hs_add hB]
    congr 1
    funext k
    cases k with
    | zero => simp [mv, ch_zero]
    | succ k => simp [mv, ch]
theorem hs_alk {A B : Sq → Sq} (hB : Lin B) {r : Int} (c : Nat → Int) (u : Sq) :
    ∀ n, (∀ k, 0 < k → k ≤ n → r ∣ c k) → Alk r (hs A B c u n) (itr B n (fun i => c 0 * u i))
  | 0, _ => Alk.refl _ _
  | n + 1, h => by
    have ih := (hs_alk (A := A) hB c u n fun k h0 h1 => h k h0 (by omega)).lin hB
    intro i
    have h2 := Int.dvd_add (ih i) (Int.dvd_trans (h (n + 1) (by omega) (by omega)) (Int.dvd_mul_right (c (n + 1)) (itr A (n + 1) u i)))
    simp only [hs, itr]
    rwa [show ∀ a b d : Int, a - b + d = a + d - b by intros; omega] at h2
/-- The freshman's dream. -/
theorem dream {A B : Sq → Sq} (hA : Lin A) (hB : Lin B) (hc : ∀ u, A (B u) = B (A u)) {r : Nat} (hr : Prm r) (u : Sq) :
    Alk r (itr (fun x => fun i => A x i + B x i) r u) (fun i => itr B r u i + itr A r u i) := by
  obtain ⟨m, rfl⟩ : ∃ m, r = m + 1 := ⟨r - 1, by have := hr.1; omega⟩
  rw [binom hA hB hc]
  have h1 := (hs_alk (A := A) hB (fun k => (ch (m + 1) k : Int)) u m fun k h0 h1 => Int.natCast_dvd_natCast.mpr (ch_prm hr k h0 (by omega))).lin hB
  intro i
  have := h1 i
  simp only [hs, ch_self, ch_zero, itr] at *
  simp only [Int.natCast_one, Int.one_mul] at *
  rwa [show ∀ a b d : Int, a + d - (b + d) = a - b by intros; omega]
end Go.Proofs.YtfonpmahcdmajaaDoor
