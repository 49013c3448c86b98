import Derived.KernelRfl
import Derived.Test.YtjohbepdmnigcaaDoorFldB
/-
  Numbers modulo the field's prime, and their multiples by 2^256: plain arithmetic, nothing of the program.
-/
namespace Go.Proofs.YtjohbepdmnigcaaDoor

/-- The prime; 2^256; what gives 1 with it. -/
def pN : Nat := 21888242871839275222246405745257275088548364400416034343698204186575808495617
def rN : Nat := 115792089237316195423570985008687907853269984665640564039457584007913129639936
def iN : Nat := 9915499612839321149637521777990102151350674507940716049588462388200839649614
theorem pN_pos : 0 < pN := by decide
theorem r_i : rN * iN % pN = 1 := by decide
/-- The form in which a number is kept. -/
def mo (x : Nat) : Nat := x * rN % pN
theorem mo_lt (x : Nat) : mo x < pN := Nat.mod_lt _ pN_pos
theorem mod_cancel {N M : Nat} (hN : N < pN) (hM : M < pN) (h : N * rN % pN = M * rN % pN) : N = M := by
  have e : ∀ X : Nat, X < pN → (X * rN % pN) * iN % pN = X := fun X hX => by
    rw [Nat.mod_mul_mod, Nat.mul_assoc, Nat.mul_mod, r_i, Nat.mul_one, Nat.mod_mod, Nat.mod_eq_of_lt hX]
  rw [← e N hN, ← e M hM, h]
theorem mo_mod (x : Nat) : mo (x % pN) = mo x := by unfold mo; rw [Nat.mod_mul_mod]
theorem mo_inj {x y : Nat} (hx : x < pN) (hy : y < pN) (h : mo x = mo y) : x = y := mod_cancel hx hy h
theorem mo_add (x y : Nat) : (mo x + mo y) % pN = mo ((x + y) % pN) := by
  rw [mo_mod]; unfold mo; rw [← Nat.add_mod, Nat.add_mul]
/-- Of numbers below the prime: the sum, once or not at all lessened by the prime. -/
theorem mo_sum {x y N : Nat} (hN : N < pN) (h : N = mo x + mo y ∨ N + pN = mo x + mo y) : N = mo ((x + y) % pN) := by
  rw [← mo_add]
  rcases h with h | h
  · rw [← h, Nat.mod_eq_of_lt hN]
  · rw [← h, Nat.add_mod_right, Nat.mod_eq_of_lt hN]
theorem mo_diff {x y N : Nat} (hy : y < pN) (hN : N < pN) (h : N + mo y = mo x ∨ N + mo y = mo x + pN) : N = mo ((x + (pN - y)) % pN) := by
  have e : (mo y + mo (pN - y)) % pN = 0 := by
    rw [mo_add, show y + (pN - y) = pN by omega, Nat.mod_self]; rfl
  have h2 : (N + mo y) % pN = mo x := by
    rcases h with h | h
    · rw [h, Nat.mod_eq_of_lt (mo_lt x)]
    · rw [h, Nat.add_mod_right, Nat.mod_eq_of_lt (mo_lt x)]
  have h3 : (N + (mo y + mo (pN - y))) % pN = N := by
    rw [Nat.add_mod, e, Nat.add_zero, Nat.mod_mod, Nat.mod_eq_of_lt hN]
  rw [← mo_add, ← h2, Nat.mod_add_mod, Nat.add_assoc, h3]
theorem mo_prod {x y N : Nat} (hN : N < pN) (h : N * rN % pN = mo x * mo y % pN) : N = mo (x * y % pN) := by
  refine mod_cancel hN (mo_lt _) ?_
  rw [h, mo_mod]
  unfold mo
  rw [Nat.mod_mul_mod, Nat.mul_mod_mod, Nat.mod_mul_mod]
  rw [Nat.mul_mul_mul_comm x rN y rN, Nat.mul_assoc (x * y) rN rN]
/-- A number's form, made by the product with the rest of 2^512. -/
theorem mo_raise {x N : Nat} (hN : N < pN) (h : N * rN % pN = x * 944936681149208446651664254269745548490766851729442924617792859073125903783 % pN) : N = mo x := by
  refine mod_cancel hN (mo_lt _) ?_
  rw [h]
  unfold mo
  rw [Nat.mod_mul_mod, Nat.mul_assoc, show (944936681149208446651664254269745548490766851729442924617792859073125903783 : Nat) = rN * rN % pN by decide, Nat.mul_mod_mod]
/-- Back: the product with 1. -/
theorem mo_back {x N : Nat} (hN : N < pN) (hx : x < pN) (h : N * rN % pN = mo x * 1 % pN) : N = x := by
  refine mod_cancel hN hx ?_
  rw [h, Nat.mul_one, Nat.mod_eq_of_lt (mo_lt x)]; rfl
/-- From the whole numbers, with a multiple of the prime. -/
theorem int_mod {N A B : Nat} {T : Int} (h : (N : Int) * 115792089237316195423570985008687907853269984665640564039457584007913129639936 = (A : Int) * (B : Int) + 21888242871839275222246405745257275088548364400416034343698204186575808495617 * T) : N * rN % pN = A * B % pN := by
  have e1 : ((N * rN : Nat) : Int) = (N : Int) * 115792089237316195423570985008687907853269984665640564039457584007913129639936 := by rw [Int.natCast_mul]; rfl
  have e2 : ((A * B : Nat) : Int) = (A : Int) * (B : Int) := by simp
  have : ((N * rN % pN : Nat) : Int) = ((A * B % pN : Nat) : Int) := by
    rw [Int.natCast_emod, Int.natCast_emod, e1, e2, h]
    exact Int.add_mul_emod_self_left _ _ _
  exact_mod_cast this
end Go.Proofs.YtjohbepdmnigcaaDoor
/-
  field.sum, field.difference; the elements, by the numbers that they are (El).
-/
namespace Go.Proofs.YtjohbepdmnigcaaDoor
open Go.RowKit
set_option linter.unusedVariables false

theorem prime4 : W4 4891460686036598785 2896914383306846353 13281191951274694749 3486998266802970665 := ⟨⟨by decide, by decide⟩, ⟨by decide, by decide⟩, ⟨by decide, by decide⟩, ⟨by decide, by decide⟩⟩
theorem n4_prime : n4 4891460686036598785 2896914383306846353 13281191951274694749 3486998266802970665 = prm := by decide
theorem n4_lt {a0 a1 a2 a3 : Int} (h : W4 a0 a1 a2 a3) : n4 a0 a1 a2 a3 < 115792089237316195423570985008687907853269984665640564039457584007913129639936 := by
  obtain ⟨⟨x0, y0⟩, ⟨x1, y1⟩, ⟨x2, y2⟩, ⟨x3, y3⟩⟩ := h
  unfold n4; omega

set_option maxRecDepth 20000 in
theorem fsum_c (a0 a1 a2 a3 b0 b1 b2 b3 : Int) (w : World) (ha : W4 a0 a1 a2 a3) (hb : W4 b0 b1 b2 b3) (hG : Glob w) (hp : Hid (n4 a0 a1 a2 a3 < prm)) (hq : Hid (n4 b0 b1 b2 b3 < prm)) :
    Calls Tryd.prog 69 #[w4 a0 a1 a2 a3, w4 b0 b1 b2 b3] w fun e w' => ∃ r0 r1 r2 r3 : Int, e = .returned (w4 r0 r1 r2 r3) ∧ W4 r0 r1 r2 r3 ∧ n4 r0 r1 r2 r3 < prm ∧
      (n4 r0 r1 r2 r3 = n4 a0 a1 a2 a3 + n4 b0 b1 b2 b3 ∨ n4 r0 r1 r2 r3 + prm = n4 a0 a1 a2 a3 + n4 b0 b1 b2 b3) ∧ Below w.heap.size w w' := by
  unfold w4
  go_enter Tryd.func69, Tryd.ntmps69
  go_wp2_with fail
  refine (fadd_c a0 a1 a2 a3 b0 b1 b2 b3 _ ha hb).mono ?_
  rintro e w1 ⟨s0, s1, s2, s3, c, rfl, hs, hc0, hc1, he, hb1⟩
  obtain ⟨hA1, hB1, hZ1, hl1, hs1⟩ := box2 (ta := 38) (tb := 38) (tz := 38) hb1
  have HE : Hid (n4 s0 s1 s2 s3 = n4 a0 a1 a2 a3 + n4 b0 b1 b2 b3 ∧ n4 s0 s1 s2 s3 < 2 * prm) := by
    have h1 := hp.out
    have h2 := hq.out
    have h3 := n4_nonneg hs
    generalize n4 s0 s1 s2 s3 = N at *
    generalize n4 a0 a1 a2 a3 = A at *
    generalize n4 b0 b1 b2 b3 = B at *
    unfold prm at *
    constructor <;> omega
  have hG1 := hG.up hl1
  clear he hc0 hc1 hb1 hA1 hB1
  unfold w4
  go_wp2_with fail
  refine (fbelow_c s0 s1 s2 s3 _ hs hG1 (hid HE.out.2)).mono ?_
  rintro e w2 ⟨r0, r1, r2, r3, rfl, hr, hlt, hor, hb2⟩
  have hZ2 := hZ1.below hb2 hZ1.size
  have hl2 := hl1.trans (hb2.mono hl1.size)
  have R : Hid (W4 r0 r1 r2 r3 ∧ n4 r0 r1 r2 r3 < prm ∧ (n4 r0 r1 r2 r3 = n4 a0 a1 a2 a3 + n4 b0 b1 b2 b3 ∨ n4 r0 r1 r2 r3 + prm = n4 a0 a1 a2 a3 + n4 b0 b1 b2 b3)) := by
    rw [← HE.out.1]; exact ⟨hr, hlt, hor⟩
  have z0 := hZ2.c0
  have z1 := hZ2.c1
  have z2 := hZ2.c2
  have z3 := hZ2.c3
  have fz := hZ2.frozen
  clear hlt hor hr hs hb2 hZ1 hZ2 hG1 hG
  unfold w4
  go_wp2
  refine bodyPost_ret (by simp [results, Tryd.results69, go_sem, z0, z1, z2, z3]; rfl) rfl ?_
  exact ⟨r0, r1, r2, r3, rfl, R.out.1, R.out.2.1, R.out.2.2, by go_grown⟩

set_option maxRecDepth 20000 in
theorem fdiff_c (a0 a1 a2 a3 b0 b1 b2 b3 : Int) (w : World) (ha : W4 a0 a1 a2 a3) (hb : W4 b0 b1 b2 b3) (hG : Glob w) (hp : Hid (n4 a0 a1 a2 a3 < prm)) (hq : Hid (n4 b0 b1 b2 b3 < prm)) :
    Calls Tryd.prog 70 #[w4 a0 a1 a2 a3, w4 b0 b1 b2 b3] w fun e w' => ∃ r0 r1 r2 r3 : Int, e = .returned (w4 r0 r1 r2 r3) ∧ W4 r0 r1 r2 r3 ∧ n4 r0 r1 r2 r3 < prm ∧
      (n4 r0 r1 r2 r3 + n4 b0 b1 b2 b3 = n4 a0 a1 a2 a3 ∨ n4 r0 r1 r2 r3 + n4 b0 b1 b2 b3 = n4 a0 a1 a2 a3 + prm) ∧ Below w.heap.size w w' := by
  unfold w4
  go_enter Tryd.func70, Tryd.ntmps70
  go_wp2_with fail
  refine (fsubtract_c a0 a1 a2 a3 b0 b1 b2 b3 _ ha hb).mono ?_
  rintro e w1 ⟨s0, s1, s2, s3, c, rfl, hs, hc0, hc1, he, hb1⟩
  obtain ⟨hA1, hB1, hZ1, hl1, hs1⟩ := box2 (ta := 38) (tb := 38) (tz := 38) hb1
  have hG1 := hG.up hl1
  have hZ2 := hZ1.alloc (o4 38 s0 s1 s2 s3)
  have hG2 := hG1.up ((Below.refl _ _).alloc (Nat.le_refl _) (o4 38 s0 s1 s2 s3))
  have hl2 := hl1.alloc (by omega) (o4 38 s0 s1 s2 s3)
  clear hb1 hA1 hB1
  by_cases hc : c = 0
  · subst hc
    have z0 : (w1.alloc (.cells #[.int .u64 s0, .int .u64 s1, .int .u64 s2, .int .u64 s3] 38)).cell? ⟨w.heap.size + 1 + 1, 0, none⟩ = some (.int .u64 0) := hZ2.c0
    have z1 : (w1.alloc (.cells #[.int .u64 s0, .int .u64 s1, .int .u64 s2, .int .u64 s3] 38)).cell? ⟨w.heap.size + 1 + 1, 1, none⟩ = some (.int .u64 0) := hZ2.c1
    have z2 : (w1.alloc (.cells #[.int .u64 s0, .int .u64 s1, .int .u64 s2, .int .u64 s3] 38)).cell? ⟨w.heap.size + 1 + 1, 2, none⟩ = some (.int .u64 0) := hZ2.c2
    have z3 : (w1.alloc (.cells #[.int .u64 s0, .int .u64 s1, .int .u64 s2, .int .u64 s3] 38)).cell? ⟨w.heap.size + 1 + 1, 3, none⟩ = some (.int .u64 0) := hZ2.c3
    have fz : ∀ i, (w1.alloc (.cells #[.int .u64 s0, .int .u64 s1, .int .u64 s2, .int .u64 s3] 38)).frozen? ⟨w.heap.size + 1 + 1, i, none⟩ = false := hZ2.frozen
    have R : Hid (W4 s0 s1 s2 s3 ∧ n4 s0 s1 s2 s3 < prm ∧ (n4 s0 s1 s2 s3 + n4 b0 b1 b2 b3 = n4 a0 a1 a2 a3 ∨ n4 s0 s1 s2 s3 + n4 b0 b1 b2 b3 = n4 a0 a1 a2 a3 + prm)) := by
      have h1 := hp.out
      have h2 := n4_nonneg hb
      exact ⟨hs, by omega, Or.inl (by omega)⟩
    clear he hZ1 hZ2 hG1 hG2
    unfold w4
    go_wp2
    refine bodyPost_ret (by simp [results, Tryd.results70, go_sem, z0, z1, z2, z3]; rfl) rfl ?_
    exact ⟨s0, s1, s2, s3, rfl, R.out.1, R.out.2.1, R.out.2.2, by go_grown⟩
  · have hc' : (c == 0) = false := by simpa using hc
    have g0 : (w1.alloc (.cells #[.int .u64 s0, .int .u64 s1, .int .u64 s2, .int .u64 s3] 38)).cell? ⟨2, 0, none⟩ = some (.int .u64 4891460686036598785) := hG2.p0
    have g1 : (w1.alloc (.cells #[.int .u64 s0, .int .u64 s1, .int .u64 s2, .int .u64 s3] 38)).cell? ⟨2, 1, none⟩ = some (.int .u64 2896914383306846353) := hG2.p1
    have g2 : (w1.alloc (.cells #[.int .u64 s0, .int .u64 s1, .int .u64 s2, .int .u64 s3] 38)).cell? ⟨2, 2, none⟩ = some (.int .u64 13281191951274694749) := hG2.p2
    have g3 : (w1.alloc (.cells #[.int .u64 s0, .int .u64 s1, .int .u64 s2, .int .u64 s3] 38)).cell? ⟨2, 3, none⟩ = some (.int .u64 3486998266802970665) := hG2.p3
    have h1 : c = 1 := by omega
    subst h1
    have HE := hid he
    clear he
    unfold w4
    go_wp2_with fail
    refine (fadd_c s0 s1 s2 s3 _ _ _ _ _ hs prime4).mono ?_
    rintro e w2 ⟨r0, r1, r2, r3, d, rfl, hr, hd0, hd1, he2, hb2⟩
    have hZ3 := hZ2.below hb2 hZ2.size
    have hl3 := hl2.trans (hb2.mono hl2.size)
    have z0 := hZ3.c0
    have z1 := hZ3.c1
    have z2 := hZ3.c2
    have z3 := hZ3.c3
    have fz := hZ3.frozen
    have R : Hid (W4 r0 r1 r2 r3 ∧ n4 r0 r1 r2 r3 < prm ∧ (n4 r0 r1 r2 r3 + n4 b0 b1 b2 b3 = n4 a0 a1 a2 a3 ∨ n4 r0 r1 r2 r3 + n4 b0 b1 b2 b3 = n4 a0 a1 a2 a3 + prm)) := by
      have h0 := HE.out
      have h1 := hp.out
      have h2 := hq.out
      have h3 := n4_nonneg hr
      have h4 := n4_lt hr
      have h5 := n4_lt hs
      have h6 := n4_nonneg ha
      rw [n4_prime] at he2
      refine ⟨hr, ?_, Or.inr ?_⟩ <;>
      · generalize n4 r0 r1 r2 r3 = N at *
        generalize n4 s0 s1 s2 s3 = M at *
        generalize n4 a0 a1 a2 a3 = A at *
        generalize n4 b0 b1 b2 b3 = B at *
        unfold prm at *
        omega
    clear hZ1 hZ2 hZ3 hG1 hG2 g0 g1 g2 g3 hb2 he2 hd0 hd1 hr
    unfold w4
    go_wp2
    refine bodyPost_ret (by simp [results, Tryd.results70, go_sem, z0, z1, z2, z3]; rfl) rfl ?_
    exact ⟨r0, r1, r2, r3, rfl, R.out.1, R.out.2.1, R.out.2.2, by go_grown⟩
end Go.Proofs.YtjohbepdmnigcaaDoor
