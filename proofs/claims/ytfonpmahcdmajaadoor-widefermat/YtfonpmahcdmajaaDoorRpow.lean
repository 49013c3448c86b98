/-
  Products and powers of polynomials modulo a number and a polynomial: plain arithmetic, nothing of the program.
-/
import Derived.Test.YtfonpmahcdmajaaDoorRlst
namespace Go.Proofs.YtfonpmahcdmajaaDoor

theorem addm_len (N : Nat) : ∀ l m : List Nat, l.length = m.length → (addm N l m).length = m.length
  | [], m, _ => by simp [addm]
  | a :: l, [], h => by simp at h
  | a :: l, b :: m, h => by simp only [addm, List.length_cons] at *; rw [addm_len N l m (by omega)]
theorem mulc_len (N c : Nat) (l : List Nat) : (mulc N c l).length = l.length := by simp [mulc]
theorem mulx_len (N : Nat) {g l : List Nat} (hl : l.length = g.length) (h0 : 0 < g.length) : (mulx N g l).length = g.length := by
  unfold mulx
  rw [addm_len _ _ _ (by rw [mulc_len]; simp; omega), mulc_len]
/-- Nothing, as long as a list. -/
def zrs (l : List Nat) : List Nat := l.map fun _ => 0
theorem zrs_act : ∀ (l : List Nat) (u : Sq) (n : Nat), actS 1 (zrs l) u n = 0
  | [], _, _ => rfl
  | a :: l, u, n => by
    have := zrs_act l u (n + 1)
    simp only [zrs, List.map, actS] at *
    rw [this]; simp
def mulm (N : Nat) (g : List Nat) : List Nat → List Nat → List Nat
  | [], b => zrs b
  | c :: a, b => addm N (mulc N c b) (mulx N g (mulm N g a b))
theorem mulm_len (N : Nat) {g b : List Nat} (hb : b.length = g.length) (h0 : 0 < g.length) : ∀ a, (mulm N g a b).length = g.length
  | [] => by simp [mulm, zrs, hb]
  | c :: a => by
    have ih := mulm_len N hb h0 a
    rw [mulm, addm_len _ _ _ (by rw [mulc_len, mulx_len N ih h0, hb]), mulx_len N ih h0]
theorem mulm_alk {r N : Nat} (hN : r ∣ N) {g b : List Nat} (hb : b.length = g.length) (h0 : 0 < g.length) {u : Sq} (h : Rec r g u) :
    ∀ a, Alk r (actS 1 (mulm N g a b) u) (actS 1 a (actS 1 b u))
  | [] => fun n => by rw [mulm, zrs_act]; simp [actS]
  | c :: a => by
    have ih := mulm_alk hN hb h0 h a
    rw [mulm]
    refine (addm_alk hN _ _ u).trans ?_
    refine Alk.trans (Alk.add (mulc_alk hN c b u) ((mulx_alk hN (mulm_len N hb h0 a) h0 h).trans (ih.lin (sh_lin 1)))) ?_
    exact Alk.refl _ _
def one (g : List Nat) : List Nat := match g with
  | [] => []
  | _ :: t => 1 :: zrs t
theorem one_len (g : List Nat) : (one g).length = g.length := by cases g <;> simp [one, zrs]
theorem one_act {g : List Nat} (h0 : 0 < g.length) (u : Sq) : actS 1 (one g) u = u := by
  cases g with
  | nil => simp at h0
  | cons a t =>
    funext n
    simp only [one, actS, zrs_act]
    simp
def xl (g : List Nat) : List Nat := match g with
  | _ :: _ :: t => 0 :: 1 :: zrs t
  | _ => []
theorem xl_len {g : List Nat} (h : 2 ≤ g.length) : (xl g).length = g.length := by
  match g, h with
  | _ :: _ :: t, _ => simp [xl, zrs]
theorem xl_act {g : List Nat} (h : 2 ≤ g.length) (u : Sq) : actS 1 (xl g) u = sh 1 u := by
  match g, h with
  | _ :: _ :: t, _ =>
    funext n
    simp only [xl, actS, zrs_act, sh]
    simp
/-- Powers, by the bits of e. -/
def pwm (N : Nat) (g : List Nat) : Nat → List Nat → Nat → List Nat
  | 0, _, _ => one g
  | f + 1, b, e => if e % 2 = 1 then mulm N g b (pwm N g f (mulm N g b b) (e / 2)) else pwm N g f (mulm N g b b) (e / 2)
theorem pwm_len (N : Nat) {g : List Nat} (h0 : 0 < g.length) : ∀ (f : Nat) (b : List Nat) (e : Nat), b.length = g.length → (pwm N g f b e).length = g.length
  | 0, _, _, _ => one_len g
  | f + 1, b, e, hb => by
    have ih := pwm_len N h0 f (mulm N g b b) (e / 2) (mulm_len N hb h0 b)
    rw [pwm]
    split
    · exact mulm_len N ih h0 b
    · exact ih
theorem Rec.itr {r : Int} {g : List Nat} {u : Sq} (h : Rec r g u) (l : List Nat) : ∀ n, Rec r g (itr (actS 1 l) n u)
  | 0 => h
  | n + 1 => (Rec.itr h l n).act 1 l
theorem itr_sq {r N : Nat} (hN : r ∣ N) {g b : List Nat} (hb : b.length = g.length) (h0 : 0 < g.length) {u : Sq} (h : Rec r g u) :
    ∀ k, Alk r (itr (actS 1 (mulm N g b b)) k u) (itr (actS 1 b) (2 * k) u)
  | 0 => Alk.refl _ _
  | k + 1 => by
    have ih := (itr_sq hN hb h0 h k).lin (actS_lin 1 (mulm N g b b))
    have h2 := mulm_alk hN hb h0 (h.itr b (2 * k)) b
    exact ih.trans h2
theorem pwm_alk {r N : Nat} (hN : r ∣ N) {g : List Nat} (h0 : 0 < g.length) {u : Sq} (h : Rec r g u) :
    ∀ (f : Nat) (b : List Nat) (e : Nat), b.length = g.length → e < 2 ^ f → Alk r (actS 1 (pwm N g f b e) u) (itr (actS 1 b) e u)
  | 0, b, e, _, he => by
    have : e = 0 := by simpa using he
    subst this
    rw [pwm, one_act h0]
    exact Alk.refl _ _
  | f + 1, b, e, hb, he => by
    have ih := pwm_alk hN h0 h f (mulm N g b b) (e / 2) (mulm_len N hb h0 b) (by rw [Nat.pow_succ] at he; omega)
    have h2 := ih.trans (itr_sq hN hb h0 h (e / 2))
    have hl := pwm_len N h0 f (mulm N g b b) (e / 2) (mulm_len N hb h0 b)
    rw [pwm]
    split
    · rename_i ho
      refine (mulm_alk hN hl h0 h b).trans ((h2.lin (actS_lin 1 b)).trans ?_)
      obtain ⟨k, hk⟩ : ∃ k, e / 2 = k := ⟨_, rfl⟩
      rw [show e = 2 * (e / 2) + 1 by omega, hk, show (2 * k + 1) / 2 = k by omega]
      exact Alk.refl _ _
    · rename_i ho
      rwa [show 2 * (e / 2) = e by omega] at h2
theorem pwx_alk {r N : Nat} (hN : r ∣ N) {g : List Nat} (h2 : 2 ≤ g.length) {u : Sq} (h : Rec r g u) (f e : Nat) (he : e < 2 ^ f) :
    Alk r (actS 1 (pwm N g f (xl g) e) u) (sh e u) := by
  have h1 := pwm_alk hN (by omega) h f (xl g) e (xl_len h2) he
  have e1 : actS 1 (xl g) = sh 1 := funext fun u => xl_act h2 u
  rwa [e1, itr_sh, Nat.one_mul] at h1
end Go.Proofs.YtfonpmahcdmajaaDoor
