import Derived.Test.YtfonpmahcdmajaaDoorRlst
/-
  Products and powers of polynomials modulo a number and a polynomial: plain arithmetic, nothing of the program.
-/
namespace Go.Proofs.YtfonpmahcdmajaaDoor

theorem addm_len (N : Nat) : ∀ l m : List Nat, l.length = m.length → (addm N l m).length = m.length
  | [], m, _ => by simp [addm]
  | a :: l, [], h => by simp at h
  | a :: l, b :: m, h => by simp only [addm, List.length_cons] at *; rw [addm_len N l m (by omega)]
theorem mulc_len (N c : Nat) (l : List Nat) : (mulc N c l).length = l.length := by simp [mulc]
theorem mulx_len (N : Nat) {g l : List Nat} (hl : l.length = g.length) (h0 : 0 < g.length) : (mulx N g l).length = g.length := by
  unfold mulx
  rw [addm_len _ _ _ (by rw [mulc_len]; simp; omega), mulc_len]
/-- Nothing, as long as a list. -/
def zrs (l : List Nat) : List Nat := l.map fun _ => 0
theorem zrs_act : ∀ (l : List Nat) (u : Sq) (n : Nat), actS 1 (zrs l) u n = 0
  | [], _, _ => rfl
  | a :: l, u, n => by
    have := zrs_act l u (n + 1)
    simp only [zrs, List.map, actS] at *
    rw [this]; simp
def mulm (N : Nat) (g : List Nat) : List Nat → List Nat → List Nat
  | [], b => zrs b
  | c :: a, b => addm N (mulc N c b) (mulx N g (mulm N g a b))
theorem mulm_len (N : Nat) {g b : List Nat} (hb : b.length = g.length) (h0 : 0 < g.length) : ∀ a, (mulm N g a b).length = g.length
  | [] => by simp [mulm, zrs, hb]
  | c :: a => by
    have ih := mulm_len N hb h0 a
    rw [mulm, addm_len _ _ _ (by rw [mulc_len, mulx_len N ih h0, hb]), mulx_len N ih h0]
theorem mulm_alk {r N : Nat} (hN : r ∣ N) {g b : List Nat} (hb : b.length = g.length) (h0 : 0 < g.length) {u : Sq} (h : Rec r g u) :
    ∀ a, Alk r (actS 1 (mulm N g a b) u) (actS 1 a (actS 1 b u))
  | [] => fun n => by rw [mulm, zrs_act]; simp [actS]
  | c :: a => by
    have ih := mulm_alk hN hb h0 h a
    rw [mulm]
    refine (addm_alk hN _ _ u).trans ?_
    refine Alk.trans (Alk.add (mulc_alk hN c b u) ((mulx_alk hN (mulm_len N hb h0 a) h0 h).trans (ih.lin (sh_lin 1)))) ?_
    exact Alk.refl _ _
def one (g : List Nat) : List Nat := match g with
  | [] => []
  | _ :: t => 1 :: zrs t
theorem one_len (g : List Nat) : (one g).length = g.length := by cases g <;> simp [one, zrs]
theorem one_act {g : List Nat} (h0 : 0 < g.length) (u : Sq) : actS 1 (one g) u = u := by
  cases g with
  | nil => simp at h0
  | cons a t =>
    funext n
    simp only [one, actS, zrs_act]
    simp
def xl (g : List Nat) : List Nat := match g with
  | _ :: _ :: t => 0 :: 1 :: zrs t
  | _ => []
theorem xl_len {g : List Nat} (h : 2 ≤ g.length) : (xl g).length = g.length := by
  match g, h with
  | _ :: _ :: t, _ => simp [xl, zrs]
theorem xl_act {g : List Nat} (h : 2 ≤ g.length) (u : Sq) : actS 1 (xl g) u = sh 1 u := by
  match g, h with
  | _ :: _ :: t, _ =>
    funext n
    simp only [xl, actS, zrs_act, sh]
    simp
/-- Powers, by the bits of e. -/
def pwm (N : Nat) (g : List Nat) : Nat → List Nat → Nat → List Nat
  | 0, _, _ => one g
  | f + 1, b, e => if e % 2 = 1 then mulm N g b (pwm N g f (mulm N g b b) (e / 2)) else pwm N g f (mulm N g b b) (e / 2)
theorem pwm_len (N : Nat) {g : List Nat} (h0 : 0 < g.length) : ∀ (f : Nat) (b : List Nat) (e : Nat), b.length = g.length → (pwm N g f b e).length = g.length
  | 0, _, _, _ => one_len g
  | f + 1, b, e, hb => by
    have ih := pwm_len N h0 f (mulm N g b b) (e / 2) (mulm_len N hb h0 b)
    rw [pwm]
    split
    · exact mulm_len N ih h0 b
    · exact ih
theorem Rec.itr {r : Int} {g : List Nat} {u : Sq} (h : Rec r g u) (l : List Nat) : ∀ n, Rec r g (itr (actS 1 l) n u)
  | 0 => h
  | n + 1 => (Rec.itr h l n).act 1 l
theorem itr_sq {r N : Nat} (hN : r ∣ N) {g b : List Nat} (hb : b.length = g.length) (h0 : 0 < g.length) {u : Sq} (h : Rec r g u) :
    ∀ k, Alk r (itr (actS 1 (mulm N g b b)) k u) (itr (actS 1 b) (2 * k) u)
  | 0 => Alk.refl _ _
  | k + 1 => by
    have ih := (itr_sq hN hb h0 h k).lin (actS_lin 1 (mulm N g b b))
    have h2 := mulm_alk hN hb h0 (h.itr b (2 * k)) b
    exact ih.trans h2
theorem pwm_alk {r N : Nat} (hN : r ∣ N) {g : List Nat} (h0 : 0 < g.length) {u : Sq} (h : Rec r g u) :
    ∀ (f : Nat) (b : List Nat) (e : Nat), b.length = g.length → e < 2 ^ f → Alk r (actS 1 (pwm N g f b e) u) (itr (actS 1 b) e u)
  | 0, b, e, _, he => by
    have : e = 0 := by simpa using he
    subst this
    rw [pwm, one_act h0]
    exact Alk.refl _ _
  | f + 1, b, e, hb, he => by
    have ih := pwm_alk hN h0 h f (mulm N g b b) (e / 2) (mulm_len N hb h0 b) (by rw [Nat.pow_succ] at he; omega)
    have h2 := ih.trans (itr_sq hN hb h0 h (e / 2))
    have hl := pwm_len N h0 f (mulm N g b b) (e / 2) (mulm_len N hb h0 b)
    rw [pwm]
    split
    · rename_i ho
      refine (mulm_alk hN hl h0 h b).trans ((h2.lin (actS_lin 1 b)).trans ?_)
      obtain ⟨k, hk⟩ : ∃ k, e / 2 = k := ⟨_, rfl⟩
      rw [show e = 2 * (e / 2) + 1 by omega, hk, show (2 * k + 1) / 2 = k by omega]
      exact Alk.refl _ _
    · rename_i ho
      rwa [show 2 * (e / 2) = e by omega] at h2
theorem pwx_alk {r N : Nat} (hN : r ∣ N) {g : List Nat} (h2 : 2 ≤ g.length) {u : Sq} (h : Rec r g u) (f e : Nat) (he : e < 2 ^ f) :
    Alk r (actS 1 (pwm N g f (xl g) e) u) (sh e u) := by
  have h1 := pwm_alk hN (by omega) h f (xl g) e (xl_len h2) he
  have e1 : actS 1 (xl g) = sh 1 := funext fun u => xl_act h2 u
  rwa [e1, itr_sh, Nat.one_mul] at h1
end Go.Proofs.YtfonpmahcdmajaaDoor
/-
  Products of polynomials in a second letter, whose coefficients are polynomials of the shift: plain arithmetic, nothing of the program.
-/
namespace Go.Proofs.YtfonpmahcdmajaaDoor

theorem Rec.add {r : Int} {g : List Nat} {u v : Sq} (h : Rec r g u) (k : Rec r g v) : Rec r g (fun n => u n + v n) := by
  have h1 := Alk.add h k
  unfold Rec
  rw [(sh_lin _).add, (actS_lin 1 g).add]
  exact h1
theorem act_zero (s : Nat) : ∀ (l : List Nat) (n : Nat), actS s l (fun _ => 0) n = 0
  | [], _ => rfl
  | a :: l, n => by simp only [actS, act_zero s l]; simp
theorem Rec.zero (r : Int) (g : List Nat) : Rec r g (fun _ => 0) := fun n => by
  rw [act_zero]; simp [Go.Proofs.YtfonpmahcdmajaaDoor.sh]
/-- A polynomial of the shift by s, whose coefficients are polynomials of the shift. -/
def evT (s : Nat) : List (List Nat) → Sq → Sq
  | [], _ => fun _ => 0
  | a :: L, u => fun n => actS 1 a u n + evT s L u (n + s)
theorem Rec.ev {r : Int} {g : List Nat} {u : Sq} (h : Rec r g u) (s : Nat) : ∀ L, Rec r g (evT s L u)
  | [] => Rec.zero r g
  | a :: L => Rec.add (h.act 1 a) ((Rec.ev h s L).sh s)
/-- Times T + p, and prev. -/
def mt (N : Nat) (g p : List Nat) : List Nat → List (List Nat) → List (List Nat)
  | prev, [] => [prev]
  | prev, a :: L => addm N prev (mulm N g p a) :: mt N g p a L
theorem mt_len (N : Nat) {g p : List Nat} (h0 : 0 < g.length) : ∀ (L : List (List Nat)) (prev : List Nat), prev.length = g.length → (∀ a ∈ L, a.length = g.length) →
    ∀ a ∈ mt N g p prev L, a.length = g.length
  | [], prev, hp, _ => by intro a ha; simp [mt] at ha; rw [ha, hp]
  | b :: L, prev, hp, hL => by
    intro a ha
    have hb := hL b (by simp)
    simp only [mt, List.mem_cons] at ha
    rcases ha with rfl | ha
    · rw [addm_len _ _ _ (by rw [mulm_len N hb h0, hp]), mulm_len N hb h0]
    · exact mt_len N h0 L b hb (fun c hc => hL c (by simp [hc])) a ha
theorem mt_alk {r N : Nat} (hN : r ∣ N) {g p : List Nat} (h0 : 0 < g.length) (s : Nat) {u : Sq} (h : Rec r g u) :
    ∀ (L : List (List Nat)) (prev : List Nat), (∀ a ∈ L, a.length = g.length) →
      Alk r (evT s (mt N g p prev L) u) (fun n => actS 1 prev u n + (evT s L u (n + s) + actS 1 p (evT s L u) n))
  | [], prev, _ => fun n => by
    simp only [mt, evT, act_zero]; simp
  | a :: L, prev, hL => by
    have hb := hL a (by simp)
    have ih := (mt_alk hN (p := p) h0 s h L a (fun c hc => hL c (by simp [hc]))).lin (sh_lin s)
    have h1 := (addm_alk hN prev (mulm N g p a) u).trans (Alk.add (Alk.refl _ _) (mulm_alk hN hb h0 h p))
    intro n
    have h2 := Int.dvd_add (h1 n) (ih n)
    have e : actS 1 p (evT s (a :: L) u) n = actS 1 p (actS 1 a u) n + actS 1 p (evT s L u) (n + s) := by
      have e1 : evT s (a :: L) u = fun n => actS 1 a u n + sh s (evT s L u) n := rfl
      rw [e1, (actS_lin 1 p).add, actS_sh]; rfl
    simp only [mt]
    rw [e]
    simp only [evT, sh] at *
    have e2 : ∀ a b c d e f g h : Int, a - (b + c) + (d - (e + (f + g))) = a + d - (b + (e + f + (c + g))) := by intros; omega
    rw [e2 _ _ _ _ _ _ _ 0] at h2
    exact h2
/-- The product of all T + p. -/
def prT (N : Nat) (g : List Nat) : List (List Nat) → List (List Nat)
  | [] => [one g]
  | p :: ps => mt N g p (zrs g) (prT N g ps)
theorem prT_len (N : Nat) {g : List Nat} (h0 : 0 < g.length) : ∀ ps, ∀ a ∈ prT N g ps, a.length = g.length
  | [] => by intro a ha; simp [prT] at ha; rw [ha, one_len]
  | p :: ps => mt_len N h0 (prT N g ps) (zrs g) (by simp [zrs]) (prT_len N h0 ps)
/-- Like 0. -/
abbrev Nil (r : Int) (u : Sq) : Prop := ∀ n, r ∣ u n
theorem prT_nil {r N : Nat} (hN : r ∣ N) {g : List Nat} (h0 : 0 < g.length) (s : Nat) {u : Sq} (h : Rec r g u) :
    ∀ ps : List (List Nat), (∀ p ∈ ps, ∀ w, Rec r g w → Nil r (fun n => sh s w n + actS 1 p w n) → Nil r w) → Nil r (evT s (prT N g ps) u) → Nil r u
  | [], _, hz => fun n => by
    have := hz n
    simp only [prT, evT, one_act h0, Int.add_zero] at this
    exact this
  | p :: ps, hp, hz => by
    refine prT_nil hN h0 s h ps (fun q hq => hp q (by simp [hq])) ?_
    refine hp p (by simp) _ (h.ev s _) ?_
    intro n
    have h1 := mt_alk hN (p := p) h0 s h (prT N g ps) (zrs g) (prT_len N h0 ps) n
    have h2 := hz n
    simp only [prT] at h2
    simp only [zrs_act] at h1
    have h3 := Int.dvd_sub h2 h1
    have e : ∀ a b : Int, a - (a - (0 + b)) = b := by intros; omega
    rw [e] at h3
    exact h3
/-- The recurrence, as a polynomial: T to the power of its length, less each. -/
def cst (N : Nat) (g : List Nat) : List Nat → List (List Nat)
  | [] => [one g]
  | c :: l => ((N - c) :: zrs g.tail) :: cst N g l
theorem cst_alk {r N : Nat} (hN : r ∣ N) {g : List Nat} (h0 : 0 < g.length) (s : Nat) (u : Sq) :
    ∀ (l : List Nat) (n : Nat), (∀ c ∈ l, c ≤ N) → (r : Int) ∣ evT s (cst N g l) u n + actS s l u n - u (n + l.length * s)
  | [], n, _ => by simp [cst, evT, one_act h0, actS]
  | c :: l, n, hl => by
    have ih := cst_alk hN h0 s u l (n + s) (fun d hd => hl d (by simp [hd]))
    have hc := hl c (by simp)
    obtain ⟨q, hq⟩ := hN
    have e1 : ((N - c : Nat) : Int) = (r : Int) * q - c := by rw [Int.ofNat_sub hc, hq, Int.natCast_mul]
    have h2 := Int.dvd_add ih (Int.dvd_mul_right (r : Int) (q * u n))
    simp only [cst, evT, actS, zrs_act, e1]
    rw [show n + (c :: l).length * s = n + s + l.length * s by rw [List.length_cons, Nat.add_mul, Nat.one_mul]; omega]
    rw [Int.sub_mul, Int.mul_assoc]
    have e : ∀ a b c d e : Int, a + b - c + d = d - e + 0 + a + (e + b) - c := by intros; omega
    rw [e _ _ _ _ ((c : Int) * u n)] at h2
    exact h2
end Go.Proofs.YtfonpmahcdmajaaDoor
