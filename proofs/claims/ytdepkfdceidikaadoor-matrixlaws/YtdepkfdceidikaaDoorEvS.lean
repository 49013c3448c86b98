import Derived.Test.YtdepkfdceidikaaDoorEvZ
/-
  Inverses as integers modulo the prime; matrices of three rows: plain arithmetic.
-/
namespace Go.Proofs.YtdepkfdceidikaaDoor
set_option linter.unusedVariables false

theorem zmul_congr {a b : Int} (c : Int) (h : a % pZ = b % pZ) : (c * a) % pZ = (c * b) % pZ := by
  rw [Int.mul_emod c a, Int.mul_emod c b, h]
theorem zmul_congr2 {a b c d : Int} (h : a % pZ = b % pZ) (k : c % pZ = d % pZ) : (a * c) % pZ = (b * d) % pZ := by
  rw [Int.mul_emod a c, Int.mul_emod b d, h, k]
theorem zadd_congr {a b c d : Int} (h : a % pZ = b % pZ) (k : c % pZ = d % pZ) : (a + c) % pZ = (b + d) % pZ := by
  rw [Int.add_emod a c, Int.add_emod b d, h, k]
theorem zsub_congr {a b c d : Int} (h : a % pZ = b % pZ) (k : c % pZ = d % pZ) : (a - c) % pZ = (b - d) % pZ := by
  rw [Int.sub_emod a c, Int.sub_emod b d, h, k]
theorem zone : (1 : Int) % pZ = 1 := by decide
theorem invZ_mul {X : Int} (h : X % pZ ≠ 0) : (X * invZ X) % pZ = 1 := by
  obtain ⟨x, hx⟩ := Int.eq_ofNat_of_zero_le (Int.emod_nonneg X (show pZ ≠ 0 by decide))
  have hlt : x < pN := by
    have := Int.emod_lt_of_pos X pZ_pos
    rw [hx] at this
    exact Int.ofNat_lt.mp this
  have h0 : 0 < x := by
    rcases Nat.eq_zero_or_pos x with e | e
    · exact absurd (by rw [hx, e]; rfl) h
    · exact e
  have hi := inv_p h0 hlt
  rw [← invZ_of (x := x) hx.symm, zmul_congr2 (b := (x : Int)) (hx.trans (z_nat hlt)) rfl, ← Int.natCast_mul]
  show ((x * (x ^ (pN - 2) % pN) : Nat) : Int) % (pN : Int) = 1
  rw [← Int.natCast_emod, hi]
  rfl
theorem invZ_uniq {X Y : Int} (h : (X * Y) % pZ = 1) : invZ X % pZ = Y % pZ := by
  have hx : X % pZ ≠ 0 := by
    intro e
    rw [Int.mul_emod, e, Int.zero_mul] at h
    revert h
    decide
  have h1 := zmul_congr (invZ X) (h.trans zone.symm)
  have h2 := zmul_congr Y ((invZ_mul hx).trans zone.symm)
  rw [Int.mul_one] at h1 h2
  rw [← h1, ← h2]
  congr 1
  grind

/-- Matrices of three rows, by rows and columns. -/
abbrev MZ : Type := Nat → Nat → Int
def mzMul (a b : MZ) : MZ := fun i j => a i 0 * b 0 j + a i 1 * b 1 j + a i 2 * b 2 j
def mzApply (a : MZ) (v : Nat → Int) : Nat → Int := fun i => a i 0 * v 0 + a i 1 * v 1 + a i 2 * v 2
def mzUnit : MZ := fun i j => if i = j then 1 else 0
def mzDet (m : MZ) : Int := m 0 0 * (m 1 1 * m 2 2 - m 1 2 * m 2 1) - m 0 1 * (m 1 0 * m 2 2 - m 1 2 * m 2 0) + m 0 2 * (m 1 0 * m 2 1 - m 1 1 * m 2 0)
theorem mzMul_assoc (a b c : MZ) (i j : Nat) : mzMul (mzMul a b) c i j = mzMul a (mzMul b c) i j := by
  unfold mzMul
  grind
theorem mzApply_mul (a b : MZ) (v : Nat → Int) (i : Nat) : mzApply (mzMul a b) v i = mzApply a (mzApply b v) i := by
  unfold mzApply mzMul
  grind
theorem mzMul_unit (a : MZ) {i j : Nat} (hj : j < 3) : mzMul a mzUnit i j = a i j := by
  match j, hj with
  | 0, _ => simp [mzMul, mzUnit]
  | 1, _ => simp [mzMul, mzUnit]
  | 2, _ => simp [mzMul, mzUnit]
theorem mzDet_mul (a b : MZ) : mzDet (mzMul a b) = mzDet a * mzDet b := by
  unfold mzDet mzMul
  grind
theorem mzDet_unit : mzDet mzUnit = 1 := by decide
/-- Rows changed, laid alike, multiplied. -/
def mzTurn (m : MZ) (x y : Nat) : MZ := fun i => if i = x then m y else if i = y then m x else m i
def mzLike (m : MZ) (x y : Nat) : MZ := fun i => if i = x then m y else m i
def mzTimes (m : MZ) (x : Nat) (e : Int) : MZ := fun i j => if i = x then m x j * e else m i j
theorem mz_rows (m : MZ) (e : Int) {x y : Nat} (hx : x < 3) (hy : y < 3) (h : x ≠ y) : mzDet (mzTurn m x y) = -mzDet m ∧ mzDet (mzLike m x y) = 0 ∧ mzDet (mzTimes m x e) = mzDet m * e := by
  match x, hx, y, hy with
  | 0, _, 0, _ => exact absurd rfl h
  | 0, _, 1, _ => simp only [mzDet, mzTurn, mzLike, mzTimes]; refine ⟨?_, ?_, ?_⟩ <;> simp <;> grind
  | 0, _, 2, _ => simp only [mzDet, mzTurn, mzLike, mzTimes]; refine ⟨?_, ?_, ?_⟩ <;> simp <;> grind
  | 1, _, 0, _ => simp only [mzDet, mzTurn, mzLike, mzTimes]; refine ⟨?_, ?_, ?_⟩ <;> simp <;> grind
  | 1, _, 1, _ => exact absurd rfl h
  | 1, _, 2, _ => simp only [mzDet, mzTurn, mzLike, mzTimes]; refine ⟨?_, ?_, ?_⟩ <;> simp <;> grind
  | 2, _, 0, _ => simp only [mzDet, mzTurn, mzLike, mzTimes]; refine ⟨?_, ?_, ?_⟩ <;> simp <;> grind
  | 2, _, 1, _ => simp only [mzDet, mzTurn, mzLike, mzTimes]; refine ⟨?_, ?_, ?_⟩ <;> simp <;> grind
  | 2, _, 2, _ => exact absurd rfl h
end Go.Proofs.YtdepkfdceidikaaDoor
/-
  Sums of field elements, as integers modulo the prime.
-/
namespace Go.Proofs.YtdepkfdceidikaaDoor
open Go.RowKit
set_option linter.unusedVariables false

def isum (L : List Int) : Nat → Int
  | 0 => 0
  | k + 1 => isum L k + L.getD k 0
/-- A slice of elements that is read, as integers. -/
structure RdEz (w : World) (B : Nat) (A : Option Addr) (n : Nat) (L : List Int) : Prop where
  ex : ∃ l, RdE w B A n l ∧ ∀ i, i < n → ((l.getD i 0 : Nat) : Int) = L.getD i 0 % pZ
theorem psum_z {l : List Nat} {L : List Int} {n : Nat} (h : ∀ i, i < n → ((l.getD i 0 : Nat) : Int) = L.getD i 0 % pZ) : ∀ k, k ≤ n → ((psum l k : Nat) : Int) % pZ = isum L k % pZ
  | 0, _ => rfl
  | k + 1, hk => by
    show ((psum l k + l.getD k 0 : Nat) : Int) % pZ = (isum L k + L.getD k 0) % pZ
    rw [Int.natCast_add]
    refine zadd_congr (psum_z h k (by omega)) ?_
    rw [h k (by omega), Int.emod_emod]
/-- The inverses that Cauchy's matrix is made of. -/
def cz : List Int := [14592161914559516814830937163504850059032242933610689562465469457717205663745, 16416182153879456416684804308942956316411273300312025757773653139931856371713, 8755297148735710088898562298102910035419345760166413737479281674630323398247, 18240202393199396018538671454381062573790303667013361953081836822146507079681, 3126891838834182174606629392179610726935480628630862049099743455225115499374]
theorem cz_inv {k : Nat} (h : k < 5) : invZ ((k + 3 : Nat) : Int) % pZ = cz.getD k 0 % pZ := by
  match k, h with
  | 0, _ => exact invZ_uniq (by decide +kernel)
  | 1, _ => exact invZ_uniq (by decide +kernel)
  | 2, _ => exact invZ_uniq (by decide +kernel)
  | 3, _ => exact invZ_uniq (by decide +kernel)
  | 4, _ => exact invZ_uniq (by decide +kernel)
end Go.Proofs.YtdepkfdceidikaaDoor
