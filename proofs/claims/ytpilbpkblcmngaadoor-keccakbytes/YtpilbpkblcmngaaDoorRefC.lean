import Derived.Test.YtpilbpkblcmngaaDoorRefA
import Derived.Test.YtpilbpkblcmngaaDoorLSub
/-
  avouchref01.Same, Cmp, Words: what each call does.
-/
namespace Go.Proofs.YtpilbpkblcmngaaDoor
open Go.RowKit
set_option linter.unusedVariables false

/-- No block has turned, at any number. -/
def Still (w w' : World) : Prop := ∀ B, Below B w w'
theorem Still.refl (w : World) : Still w w := fun B => Below.refl B w
theorem Still.drewN {w w' : World} (h : Still w w') (n : Nat) : Still w (w'.drewN n) := fun B => below_drewN (h B) n
theorem Still.trans {a b c : World} (h : Still a b) (k : Still b c) : Still a c := fun B => (h B).trans (k B)

theorem same_of_all {la lb : List Nat} (hl : la.length = lb.length) (h : ∀ j, j < la.length → la.getD j 0 = lb.getD j 0) : la = lb := by
  apply List.ext_getElem hl
  intro i h1 h2
  have := h i h1
  simpa [List.getD_eq_getElem?_getD, List.getElem?_eq_getElem h1, List.getElem?_eq_getElem h2] using this

end Go.Proofs.YtpilbpkblcmngaaDoor
/-
  avouchref01.Words, Digits, Sub: what each call does.
-/
namespace Go.Proofs.YtpilbpkblcmngaaDoor
open Go.RowKit
set_option linter.unusedVariables false

theorem Rd.drewN {w : World} {B n : Nat} {A : Option Addr} {l : List Nat} (h : Rd w B A n l) (k : Nat) : Rd (w.drewN k) B A n l := ⟨h.len, h.lt, h.cells⟩
/-- The slice of e is new, has n words, and reads as a list whose number is X. -/
def Wds (w : World) (e : Ending) (w' : World) (n X : Nat) : Prop :=
  ∃ A c l, e = .returned (.slice A n c) ∧ n ≤ c ∧ Rd w' w'.heap.size A n l ∧ val 18446744073709551616 l = X ∧ Below w.heap.size w w'

theorem pv_mod (W : Nat) (hW : 0 < W) (l : List Nat) (h : ∀ x ∈ l, x < W) (k : Nat) : pv W l k = val W l % W ^ k := by
  by_cases hk : l.length ≤ k
  · have b := val_lt W hW l h
    have : W ^ l.length ≤ W ^ k := Nat.pow_le_pow_right hW hk
    rw [pv_out W l k hk, Nat.mod_eq_of_lt (by omega)]
  · have e := pv_drop W l k (l.length - k)
    rw [show k + (l.length - k) = l.length by omega] at e
    have b := pv_lt W hW l h k
    unfold val
    rw [e, Nat.add_mul_mod_self_left, Nat.mod_eq_of_lt b]

theorem words_step (v p x y P : Nat) (h : v = p) : v + (x + y * 4294967296) * P = (p + x * P) + y * (P * 4294967296) := by subst h; grind
theorem pow64 (k : Nat) : 18446744073709551616 ^ k = 4294967296 ^ (2 * k) := by
  rw [Nat.pow_mul]

end Go.Proofs.YtpilbpkblcmngaaDoor
