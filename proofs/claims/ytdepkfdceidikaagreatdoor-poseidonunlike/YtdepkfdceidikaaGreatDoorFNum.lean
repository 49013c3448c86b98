import Derived.Test.YtdepkfdceidikaaGreatDoorLMul
import Derived.Test.YtdepkfdceidikaaGreatDoorFldN
/-
  Powers modulo a number, reckoned by squaring: plain arithmetic, nothing of the program.
-/
namespace Go.Proofs.YtdepkfdceidikaaGreatDoor

/-- b to the power of e modulo m, by the bits of e (at most as many as the first number says). -/
def pm (m : Nat) : Nat → Nat → Nat → Nat
  | 0, _, _ => 1 % m
  | f + 1, b, e => if e % 2 = 1 then b * pm m f (b * b % m) (e / 2) % m else pm m f (b * b % m) (e / 2)
theorem pm_eq (m : Nat) : ∀ (f b e : Nat), e < 2 ^ f → pm m f b e = b ^ e % m
  | 0, b, e, h => by
    have : e = 0 := by simpa using h
    subst this
    simp [pm]
  | f + 1, b, e, h => by
    have h2 : e / 2 < 2 ^ f := by rw [Nat.pow_succ] at h; omega
    have ih := pm_eq m f (b * b % m) (e / 2) h2
    have e1 : (b * b % m) ^ (e / 2) % m = b ^ (2 * (e / 2)) % m := by
      rw [← Nat.pow_mod, Nat.pow_mul, Nat.pow_two]
    unfold pm
    rw [ih, e1]
    split
    · rename_i ho
      rw [Nat.mul_mod_mod, ← Nat.pow_succ', show (2 * (e / 2)).succ = e by omega]
    · rename_i he
      rw [show 2 * (e / 2) = e by omega]
end Go.Proofs.YtdepkfdceidikaaGreatDoor
/-
  Powers modulo a number, reckoned by squaring: plain arithmetic, nothing of the program.
-/
namespace Go.Proofs.YtdepkfdceidikaaGreatDoor

/-- The inverse of 2. -/
theorem inv_two : 2 ^ (pN - 2) % pN = 10944121435919637611123202872628637544274182200208017171849102093287904247809 := by
  rw [← pm_eq pN 254 2 (pN - 2) (by decide)]
  kernel_rfl
end Go.Proofs.YtdepkfdceidikaaGreatDoor
