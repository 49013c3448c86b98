import Derived.KernelRfl
import Derived.Test.YtfonpmahcdmajaaDoorFldB
import Derived.Laws.StructEq
import Derived.Laws.Tables
/-
  Numbers modulo the field's prime, and their multiples by 2^256: plain arithmetic, nothing of the program.
-/
namespace Go.Proofs.YtfonpmahcdmajaaDoor

/-- The prime; 2^256; what gives 1 with it. -/
def pN : Nat := 21888242871839275222246405745257275088548364400416034343698204186575808495617
def rN : Nat := 115792089237316195423570985008687907853269984665640564039457584007913129639936
def iN : Nat := 9915499612839321149637521777990102151350674507940716049588462388200839649614
theorem pN_pos : 0 < pN := by decide
theorem r_i : rN * iN % pN = 1 := by decide
/-- The form in which a number is kept. -/
def mo (x : Nat) : Nat := x * rN % pN
theorem mo_lt (x : Nat) : mo x < pN := Nat.mod_lt _ pN_pos
theorem mod_cancel {N M : Nat} (hN : N < pN) (hM : M < pN) (h : N * rN % pN = M * rN % pN) : N = M := by
  have e : ∀ X : Nat, X < pN → (X * rN % pN) * iN % pN = X := fun X hX => by
    rw [Nat.mod_mul_mod, Nat.mul_assoc, Nat.mul_mod, r_i, Nat.mul_one, Nat.mod_mod, Nat.mod_eq_of_lt hX]
  rw [← e N hN, ← e M hM, h]
theorem mo_mod (x : Nat) : mo (x % pN) = mo x := by unfold mo; rw [Nat.mod_mul_mod]
theorem mo_inj {x y : Nat} (hx : x < pN) (hy : y < pN) (h : mo x = mo y) : x = y := mod_cancel hx hy h
theorem mo_add (x y : Nat) : (mo x + mo y) % pN = mo ((x + y) % pN) := by
  rw [mo_mod]; unfold mo; rw [← Nat.add_mod, Nat.add_mul]
/-- Of numbers below the prime: the sum, once or not at all lessened by the prime. -/
theorem mo_sum {x y N : Nat} (hN : N < pN) (h : N = mo x + mo y ∨ N + pN = mo x + mo y) : N = mo ((x + y) % pN) := by
  rw [← mo_add]
  rcases h with h | h
  · rw [← h, Nat.mod_eq_of_lt hN]
  · rw [← h, Nat.add_mod_right, Nat.mod_eq_of_lt hN]
theorem mo_diff {x y N : Nat} (hy : y < pN) (hN : N < pN) (h : N + mo y = mo x ∨ N + mo y = mo x + pN) : N = mo ((x + (pN - y)) % pN) := by
  have e : (mo y + mo (pN - y)) % pN = 0 := by
    rw [mo_add, show y + (pN - y) = pN by omega, Nat.mod_self]; rfl
  have h2 : (N + mo y) % pN = mo x := by
    rcases h with h | h
    · rw [h, Nat.mod_eq_of_lt (mo_lt x)]
    · rw [h, Nat.add_mod_right, Nat.mod_eq_of_lt (mo_lt x)]
  have h3 : (N + (mo y + mo (pN - y))) % pN = N := by
    rw [Nat.add_mod, e, Nat.add_zero, Nat.mod_mod, Nat.mod_eq_of_lt hN]
  rw [← mo_add, ← h2, Nat.mod_add_mod, Nat.add_assoc, h3]
theorem mo_prod {x y N : Nat} (hN : N < pN) (h : N * rN % pN = mo x * mo y % pN) : N = mo (x * y % pN) := by
  refine mod_cancel hN (mo_lt _) ?_
  rw [h, mo_mod]
  unfold mo
  rw [Nat.mod_mul_mod, Nat.mul_mod_mod, Nat.mod_mul_mod]
  rw [Nat.mul_mul_mul_comm x rN y rN, Nat.mul_assoc (x * y) rN rN]
/-- A number's form, made by the product with the rest of 2^512. -/
theorem mo_raise {x N : Nat} (hN : N < pN) (h : N * rN % pN = x * 944936681149208446651664254269745548490766851729442924617792859073125903783 % pN) : N = mo x := by
  refine mod_cancel hN (mo_lt _) ?_
  rw [h]
  unfold mo
  rw [Nat.mod_mul_mod, Nat.mul_assoc, show (944936681149208446651664254269745548490766851729442924617792859073125903783 : Nat) = rN * rN % pN by decide, Nat.mul_mod_mod]
/-- Back: the product with 1. -/
theorem mo_back {x N : Nat} (hN : N < pN) (hx : x < pN) (h : N * rN % pN = mo x * 1 % pN) : N = x := by
  refine mod_cancel hN hx ?_
  rw [h, Nat.mul_one, Nat.mod_eq_of_lt (mo_lt x)]; rfl
/-- From the whole numbers, with a multiple of the prime. -/
theorem int_mod {N A B : Nat} {T : Int} (h : (N : Int) * 115792089237316195423570985008687907853269984665640564039457584007913129639936 = (A : Int) * (B : Int) + 21888242871839275222246405745257275088548364400416034343698204186575808495617 * T) : N * rN % pN = A * B % pN := by
  have e1 : ((N * rN : Nat) : Int) = (N : Int) * 115792089237316195423570985008687907853269984665640564039457584007913129639936 := by rw [Int.natCast_mul]; rfl
  have e2 : ((A * B : Nat) : Int) = (A : Int) * (B : Int) := by simp
  have : ((N * rN % pN : Nat) : Int) = ((A * B % pN : Nat) : Int) := by
    rw [Int.natCast_emod, Int.natCast_emod, e1, e2, h]
    exact Int.add_mul_emod_self_left _ _ _
  exact_mod_cast this
end Go.Proofs.YtfonpmahcdmajaaDoor
/-
  field.sum, field.difference; the elements, by the numbers that they are (El).
-/
namespace Go.Proofs.YtfonpmahcdmajaaDoor
open Go.RowKit
set_option linter.unusedVariables false

theorem prime4 : W4 4891460686036598785 2896914383306846353 13281191951274694749 3486998266802970665 := ⟨⟨by decide, by decide⟩, ⟨by decide, by decide⟩, ⟨by decide, by decide⟩, ⟨by decide, by decide⟩⟩
theorem n4_prime : n4 4891460686036598785 2896914383306846353 13281191951274694749 3486998266802970665 = prm := by decide
theorem n4_lt {a0 a1 a2 a3 : Int} (h : W4 a0 a1 a2 a3) : n4 a0 a1 a2 a3 < 115792089237316195423570985008687907853269984665640564039457584007913129639936 := by
  obtain ⟨⟨x0, y0⟩, ⟨x1, y1⟩, ⟨x2, y2⟩, ⟨x3, y3⟩⟩ := h
  unfold n4; omega

end Go.Proofs.YtfonpmahcdmajaaDoor
/-
  The elements by the numbers that they are (El): Add, Sub, Neg, Mul, Square, Equal, IsZero.
-/
namespace Go.Proofs.YtfonpmahcdmajaaDoor
open Go.RowKit
set_option linter.unusedVariables false

/-- The element of the number x. -/
structure El (v : Value) (x : Nat) : Prop where
  ex : ∃ r0 r1 r2 r3 : Int, v = w4 r0 r1 r2 r3 ∧ W4 r0 r1 r2 r3 ∧ x < pN ∧ n4 r0 r1 r2 r3 = ((mo x : Nat) : Int)
theorem prm_eq : prm = ((pN : Nat) : Int) := rfl
theorem El.lt {v : Value} {x : Nat} (h : El v x) : x < pN := by obtain ⟨_, _, _, _, _, _, h, _⟩ := h; exact h
theorem mo_prm (x : Nat) : ((mo x : Nat) : Int) < prm := by rw [prm_eq]; exact Int.ofNat_lt.mpr (mo_lt x)
theorem El.of {r0 r1 r2 r3 : Int} {x : Nat} (hW : W4 r0 r1 r2 r3) (hx : x < pN) (h : n4 r0 r1 r2 r3 = ((mo x : Nat) : Int)) : El (w4 r0 r1 r2 r3) x := ⟨r0, r1, r2, r3, rfl, hW, hx, h⟩
theorem El.zero : El (w4 0 0 0 0) 0 := ⟨0, 0, 0, 0, rfl, ⟨⟨by decide, by decide⟩, ⟨by decide, by decide⟩, ⟨by decide, by decide⟩, ⟨by decide, by decide⟩⟩, by decide, by decide⟩
theorem nat_of {N : Int} (h0 : 0 ≤ N) (h1 : N < prm) : ∃ n : Nat, N = (n : Int) ∧ n < pN := by
  obtain ⟨n, rfl⟩ := Int.eq_ofNat_of_zero_le h0
  exact ⟨n, rfl, Int.ofNat_lt.mp (by rw [prm_eq] at h1; exact h1)⟩

theorem el_sum {r0 r1 r2 r3 : Int} {x y : Nat} (hW : W4 r0 r1 r2 r3) (h1 : n4 r0 r1 r2 r3 < prm) (h : n4 r0 r1 r2 r3 = ((mo x : Nat) : Int) + ((mo y : Nat) : Int) ∨ n4 r0 r1 r2 r3 + prm = ((mo x : Nat) : Int) + ((mo y : Nat) : Int)) : El (w4 r0 r1 r2 r3) ((x + y) % pN) := by
  obtain ⟨n, e, hn⟩ := nat_of (n4_nonneg hW) h1
  refine El.of hW (Nat.mod_lt _ pN_pos) ?_
  rw [e] at h ⊢
  rw [prm_eq] at h
  exact_mod_cast mo_sum hn (by omega)
theorem el_diff {r0 r1 r2 r3 : Int} {x y : Nat} (hy : y < pN) (hW : W4 r0 r1 r2 r3) (h1 : n4 r0 r1 r2 r3 < prm) (h : n4 r0 r1 r2 r3 + ((mo y : Nat) : Int) = ((mo x : Nat) : Int) ∨ n4 r0 r1 r2 r3 + ((mo y : Nat) : Int) = ((mo x : Nat) : Int) + prm) : El (w4 r0 r1 r2 r3) ((x + (pN - y)) % pN) := by
  obtain ⟨n, e, hn⟩ := nat_of (n4_nonneg hW) h1
  refine El.of hW (Nat.mod_lt _ pN_pos) ?_
  rw [e] at h ⊢
  rw [prm_eq] at h
  exact_mod_cast mo_diff hy hn (by omega)
theorem el_prod {r0 r1 r2 r3 : Int} {x y : Nat} (hW : W4 r0 r1 r2 r3) (h1 : n4 r0 r1 r2 r3 < prm) {A B : Int} (hA : A = ((mo x : Nat) : Int)) (hB : B = ((mo y : Nat) : Int))
    (h : ∃ T : Int, n4 r0 r1 r2 r3 * 115792089237316195423570985008687907853269984665640564039457584007913129639936 = A * B + prm * T) : El (w4 r0 r1 r2 r3) (x * y % pN) := by
  obtain ⟨n, e, hn⟩ := nat_of (n4_nonneg hW) h1
  refine El.of hW (Nat.mod_lt _ pN_pos) ?_
  obtain ⟨T, h⟩ := h
  rw [e, hA, hB] at h
  rw [e]
  exact_mod_cast mo_prod hn (int_mod h)

theorem eq4 (a0 a1 a2 a3 b0 b1 b2 b3 : Int) (w : World) : (Op.equalIn 9999 64 (.agg #[.int .u64 a0, .int .u64 a1, .int .u64 a2, .int .u64 a3]) (.agg #[.int .u64 b0, .int .u64 b1, .int .u64 b2, .int .u64 b3])).run Tryd.prog w = .ok (a0 == b0 && a1 == b1 && a2 == b2 && a3 == b3) w := by
  have u3 := Tryd.underlying22
  have a3' := Tryd.isAgg22
  have z3 := Tryd.sizeOf22
  rw [show (9999 : Nat) = 9998 + 1 from rfl, Op.equalIn]
  simp only [Sem.run_bind, run_underlying Tryd.underlying64, Result.andThen_ok]
  simp only [Std.Legacy.Range.forIn_eq_forIn_range', Std.Legacy.Range.size, Nat.sub_zero, Nat.add_sub_cancel, Nat.div_one, List.range'_succ, List.range'_zero, List.forIn_cons, List.forIn_nil]
  go_simp
  by_cases h0 : a0 = b0 <;> by_cases h1 : a1 = b1 <;> by_cases h2 : a2 = b2 <;> by_cases h3 : a3 = b3 <;> simp [h0, h1, h2, h3]
theorem n4_inj {a0 a1 a2 a3 b0 b1 b2 b3 : Int} (ha : W4 a0 a1 a2 a3) (hb : W4 b0 b1 b2 b3) (h : n4 a0 a1 a2 a3 = n4 b0 b1 b2 b3) : a0 = b0 ∧ a1 = b1 ∧ a2 = b2 ∧ a3 = b3 := by
  obtain ⟨⟨x0, y0⟩, ⟨x1, y1⟩, ⟨x2, y2⟩, ⟨x3, y3⟩⟩ := ha
  obtain ⟨⟨u0, v0⟩, ⟨u1, v1⟩, ⟨u2, v2⟩, ⟨u3, v3⟩⟩ := hb
  unfold n4 at h
  refine ⟨?_, ?_, ?_, ?_⟩ <;> omega
/-- Whether two elements are the same, by their words. -/
theorem el_eq {a0 a1 a2 a3 b0 b1 b2 b3 : Int} {x y : Nat} (ha : El (w4 a0 a1 a2 a3) x) (hb : El (w4 b0 b1 b2 b3) y) : (a0 == b0 && a1 == b1 && a2 == b2 && a3 == b3) = decide (x = y) := by
  obtain ⟨c0, c1, c2, c3, e1, ha, hx, ea⟩ := ha
  obtain ⟨d0, d1, d2, d3, e2, hb, hy, eb⟩ := hb
  simp only [w4, Value.agg.injEq, Array.mk.injEq, List.cons.injEq, Value.int.injEq, true_and, and_true] at e1 e2
  obtain ⟨rfl, rfl, rfl, rfl⟩ := e1
  obtain ⟨rfl, rfl, rfl, rfl⟩ := e2
  by_cases hxy : x = y
  · subst hxy
    obtain ⟨h0, h1, h2, h3⟩ := n4_inj ha hb (ea.trans eb.symm)
    subst h0 h1 h2 h3
    simp
  · have hne : ¬ (a0 = b0 ∧ a1 = b1 ∧ a2 = b2 ∧ a3 = b3) := by
      rintro ⟨rfl, rfl, rfl, rfl⟩
      rw [ea] at eb
      exact hxy (mo_inj hx hy (by exact_mod_cast eb))
    rw [decide_eq_false hxy]
    simp only [Bool.and_eq_false_imp, beq_iff_eq, Bool.and_eq_true]
    simp
    intro h0 h1 h2 h3
    exact hne ⟨h0, h1, h2, h3⟩

end Go.Proofs.YtfonpmahcdmajaaDoor
