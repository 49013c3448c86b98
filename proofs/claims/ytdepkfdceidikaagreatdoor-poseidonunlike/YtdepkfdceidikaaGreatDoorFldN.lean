/-
  Numbers modulo the field's prime, and their multiples by 2^256: plain arithmetic, nothing of the program.
-/
import Derived.KernelRfl
namespace Go.Proofs.YtdepkfdceidikaaGreatDoor

/-- The prime; 2^256; what gives 1 with it. -/
def pN : Nat := 21888242871839275222246405745257275088548364400416034343698204186575808495617
def rN : Nat := 115792089237316195423570985008687907853269984665640564039457584007913129639936
def iN : Nat := 9915499612839321149637521777990102151350674507940716049588462388200839649614
theorem pN_pos : 0 < pN := by decide
theorem r_i : rN * iN % pN = 1 := by decide
/-- The form in which a number is kept. -/
def mo (x : Nat) : Nat := x * rN % pN
theorem mo_lt (x : Nat) : mo x < pN := Nat.mod_lt _ pN_pos
theorem mod_cancel {N M : Nat} (hN : N < pN) (hM : M < pN) (h : N * rN % pN = M * rN % pN) : N = M := by
  have e : ∀ X : Nat, X < pN → (X * rN % pN) * iN % pN = X := fun X hX => by
    rw [Nat.mod_mul_mod, Nat.mul_assoc, Nat.mul_mod, r_i, Nat.mul_one, Nat.mod_mod, Nat.mod_eq_of_lt hX]
  rw [← e N hN, ← e M hM, h]
theorem mo_mod (x : Nat) : mo (x % pN) = mo x := by unfold mo; rw [Nat.mod_mul_mod]
theorem mo_inj {x y : Nat} (hx : x < pN) (hy : y < pN) (h : mo x = mo y) : x = y := mod_cancel hx hy h
theorem mo_add (x y : Nat) : (mo x + mo y) % pN = mo ((x + y) % pN) := by
  rw [mo_mod]; unfold mo; rw [← Nat.add_mod, Nat.add_mul]
/-- Of numbers below the prime: the sum, once or not at all lessened by the prime. -/
theorem mo_sum {x y N : Nat} (hN : N < pN) (h : N = mo x + mo y ∨ N + pN = mo x + mo y) : N = mo ((x + y) % pN) := by
  rw [← mo_add]
  rcases h with h | h
  · rw [← h, Nat.mod_eq_of_lt hN]
  · rw [← h, Nat.add_mod_right, Nat.mod_eq_of_lt hN]
theorem mo_diff {x y N : Nat} (hy : y < pN) (hN : N < pN) (h : N + mo y = mo x ∨ N + mo y = mo x + pN) : N = mo ((x + (pN - y)) % pN) := by
  have e : (mo y + mo (pN - y)) % pN = 0 := by
    rw [mo_add, show y + (pN - y) = pN by omega, Nat.mod_self]; rfl
  have h2 : (N + mo y) % pN = mo x := by
    rcases h with h | h
    · rw [h, Nat.mod_eq_of_lt (mo_lt x)]
    · rw [h, Nat.add_mod_right, Nat.mod_eq_of_lt (mo_lt x)]
  have h3 : (N + (mo y + mo (pN - y))) % pN = N := by
    rw [Nat.add_mod, e, Nat.add_zero, Nat.mod_mod, Nat.mod_eq_of_lt hN]
  rw [← mo_add, ← h2, Nat.mod_add_mod, Nat.add_assoc, h3]
theorem mo_prod {x y N : Nat} (hN : N < pN) (h : N * rN % pN = mo x * mo y % pN) : N = mo (x * y % pN) := by
  refine mod_cancel hN (mo_lt _) ?_
  rw [h, mo_mod]
  unfold mo
  rw [Nat.mod_mul_mod, Nat.mul_mod_mod, Nat.mod_mul_mod]
  rw [Nat.mul_mul_mul_comm x rN y rN, Nat.mul_assoc (x * y) rN rN]
/-- A number's form, made by the product with the rest of 2^512. -/
theorem mo_raise {x N : Nat} (hN : N < pN) (h : N * rN % pN = x * 944936681149208446651664254269745548490766851729442924617792859073125903783 % pN) : N = mo x := by
  refine mod_cancel hN (mo_lt _) ?_
  rw [h]
  unfold mo
  rw [Nat.mod_mul_mod, Nat.mul_assoc, show (944936681149208446651664254269745548490766851729442924617792859073125903783 : Nat) = rN * rN % pN by decide, Nat.mul_mod_mod]
/-- Back: the product with 1. -/
theorem mo_back {x N : Nat} (hN : N < pN) (hx : x < pN) (h : N * rN % pN = mo x * 1 % pN) : N = x := by
  refine mod_cancel hN hx ?_
  rw [h, Nat.mul_one, Nat.mod_eq_of_lt (mo_lt x)]; rfl
/-- From the whole numbers, with a multiple of the prime. -/
theorem int_mod {N A B : Nat} {T : Int} (h : (N : Int) * 115792089237316195423570985008687907853269984665640564039457584007913129639936 = (A : Int) * (B : Int) + 21888242871839275222246405745257275088548364400416034343698204186575808495617 * T) : N * rN % pN = A * B % pN := by
  have e1 : ((N * rN : Nat) : Int) = (N : Int) * 115792089237316195423570985008687907853269984665640564039457584007913129639936 := by rw [Int.natCast_mul]; rfl
  have e2 : ((A * B : Nat) : Int) = (A : Int) * (B : Int) := by simp
  have : ((N * rN % pN : Nat) : Int) = ((A * B % pN : Nat) : Int) := by
    rw [Int.natCast_emod, Int.natCast_emod, e1, e2, h]
    exact Int.add_mul_emod_self_left _ _ _
  exact_mod_cast this
end Go.Proofs.YtdepkfdceidikaaGreatDoor
