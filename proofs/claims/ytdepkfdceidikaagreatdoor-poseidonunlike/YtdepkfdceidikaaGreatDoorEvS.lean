import Derived.Test.YtdepkfdceidikaaGreatDoorFldJ
import Derived.Test.YtdepkfdceidikaaGreatDoorRef2C
import Derived.Test.YtdepkfdceidikaaGreatDoorRef2H
import Derived.Test.YtdepkfdceidikaaGreatDoorFPrime
/-
  Field elements, and the document's numbers, as integers modulo the prime: what each call does to these.
-/
namespace Go.Proofs.YtdepkfdceidikaaGreatDoor
open Go.RowKit
set_option linter.unusedVariables false

def pZ : Int := (pN : Int)
theorem pZ_pos : (0 : Int) < pZ := by decide
theorem z_nat {x : Nat} (h : x < pN) : (x : Int) = (x : Int) % pZ := (Int.emod_eq_of_lt (Int.natCast_nonneg x) (Int.ofNat_lt.mpr h)).symm
theorem z_mod (x : Nat) : ((x % pN : Nat) : Int) = (x : Int) % pZ := Int.natCast_emod x pN
theorem z_add {x y : Nat} {X Y : Int} (hx : (x : Int) = X % pZ) (hy : (y : Int) = Y % pZ) : (((x + y) % pN : Nat) : Int) = (X + Y) % pZ := by
  rw [z_mod, Int.natCast_add, hx, hy]
  exact (Int.add_emod X Y pZ).symm
theorem z_mul {x y : Nat} {X Y : Int} (hx : (x : Int) = X % pZ) (hy : (y : Int) = Y % pZ) : (((x * y) % pN : Nat) : Int) = (X * Y) % pZ := by
  rw [z_mod, Int.natCast_mul, hx, hy]
  exact (Int.mul_emod X Y pZ).symm
theorem z_sub {x y : Nat} {X Y : Int} (hy' : y ≤ pN) (hx : (x : Int) = X % pZ) (hy : (y : Int) = Y % pZ) : (((x + (pN - y)) % pN : Nat) : Int) = (X - Y) % pZ := by
  have e : ((x + (pN - y) : Nat) : Int) = (x : Int) - (y : Int) + pZ := by
    unfold pZ
    omega
  rw [z_mod, e, Int.add_emod_right, hx, hy]
  exact (Int.sub_emod X Y pZ).symm
theorem z_neg {x : Nat} {X : Int} (hx' : x ≤ pN) (hx : (x : Int) = X % pZ) : (((pN - x) % pN : Nat) : Int) = (-X) % pZ := by
  have h := z_sub (x := 0) (X := 0) hx' rfl hx
  rw [Nat.zero_add, Int.zero_sub] at h
  exact h
theorem z_inj {x y : Nat} {X : Int} (hx : (x : Int) = X % pZ) (hy : (y : Int) = X % pZ) : x = y := Int.ofNat.inj (hx.trans hy.symm)

/-- The value v is the element of the integer X. -/
structure Ez (v : Value) (X : Int) : Prop where
  ex : ∃ x : Nat, El v x ∧ (x : Int) = X % pZ
/-- Digits of the number that X leaves modulo the prime. -/
structure Dz (w : World) (v : Value) (X : Int) : Prop where
  ex : ∃ x : Nat, Dg w v x ∧ x < pN ∧ (x : Int) = X % pZ
theorem Ez.of {v : Value} {x : Nat} (h : El v x) : Ez v (x : Int) := ⟨⟨x, h, z_nat h.lt⟩⟩
theorem Ez.eq {v : Value} {X Y : Int} (h : Ez v X) (e : X = Y) : Ez v Y := e ▸ h
theorem Ez.cong {v : Value} {X Y : Int} (h : Ez v X) (e : X % pZ = Y % pZ) : Ez v Y := by
  obtain ⟨x, hx, ex⟩ := h.ex
  exact ⟨⟨x, hx, ex.trans e⟩⟩
theorem Dz.eq {w : World} {v : Value} {X Y : Int} (h : Dz w v X) (e : X = Y) : Dz w v Y := e ▸ h
theorem Dz.up {w w' : World} {v : Value} {X : Int} (h : Dz w v X) (hb : Below w.heap.size w w') : Dz w' v X := by
  obtain ⟨x, hx, hl, ex⟩ := h.ex
  exact ⟨⟨x, hx.up hb, hl, ex⟩⟩
theorem Dg.empty (w : World) (A : Option Addr) (c : Nat) : Dg w (.slice A 0 c) 0 := ⟨A, c, [], rfl, Nat.zero_le _, by decide, Rd.nil _ _ _, by intro x hx; simp at hx, Or.inl rfl, rfl⟩
theorem Dz.empty (w : World) (A : Option Addr) (c : Nat) : Dz w (.slice A 0 c) 0 := ⟨⟨0, Dg.empty w A c, pN_pos, rfl⟩⟩
theorem Ez.words {v : Value} {X : Int} (h : Ez v X) : ∃ r0 r1 r2 r3 : Int, v = w4 r0 r1 r2 r3 := by
  obtain ⟨x, ⟨r0, r1, r2, r3, e, _⟩, _⟩ := h.ex
  exact ⟨r0, r1, r2, r3, e⟩
theorem Ez.zero : Ez (w4 0 0 0 0) 0 := ⟨⟨0, El.zero, rfl⟩⟩

theorem eaddZ_c (u v : Value) (X Y : Int) (w : World) (hu : Ez u X) (hv : Ez v Y) (hG : Glob w) :
    Calls Tryz.prog 21 #[u, v] w fun e w' => ∃ r, e = .returned r ∧ Ez r (X + Y) ∧ Below w.heap.size w w' := by
  obtain ⟨x, hx, ex⟩ := hu.ex
  obtain ⟨y, hy, ey⟩ := hv.ex
  refine (eadd_c u v x y w hx hy hG).mono ?_
  rintro e w' ⟨r, he, hr, hb⟩
  exact ⟨r, he, ⟨⟨_, hr, z_add ex ey⟩⟩, hb⟩
theorem emulZ_c (u v : Value) (X Y : Int) (w : World) (hu : Ez u X) (hv : Ez v Y) (hG : Glob w) :
    Calls Tryz.prog 45 #[u, v] w fun e w' => ∃ r, e = .returned r ∧ Ez r (X * Y) ∧ Below w.heap.size w w' := by
  obtain ⟨x, hx, ex⟩ := hu.ex
  obtain ⟨y, hy, ey⟩ := hv.ex
  refine (emul_c u v x y w hx hy hG).mono ?_
  rintro e w' ⟨r, he, hr, hb⟩
  exact ⟨r, he, ⟨⟨_, hr, z_mul ex ey⟩⟩, hb⟩
theorem esquareZ_c (u : Value) (X : Int) (w : World) (hu : Ez u X) (hG : Glob w) :
    Calls Tryz.prog 44 #[u] w fun e w' => ∃ r, e = .returned r ∧ Ez r (X * X) ∧ Below w.heap.size w w' := by
  obtain ⟨x, hx, ex⟩ := hu.ex
  refine (esquare_c u x w hx hG).mono ?_
  rintro e w' ⟨r, he, hr, hb⟩
  exact ⟨r, he, ⟨⟨_, hr, z_mul ex ex⟩⟩, hb⟩
theorem eequalZ_c (u v : Value) (X Y : Int) (w : World) (hu : Ez u X) (hv : Ez v Y) :
    Calls Tryz.prog 20 #[u, v] w fun e w' => e = .returned (.bool (decide (X % pZ = Y % pZ))) ∧ Below w.heap.size w w' := by
  obtain ⟨x, hx, ex⟩ := hu.ex
  obtain ⟨y, hy, ey⟩ := hv.ex
  refine (eequal_c u v x y w hx hy).mono ?_
  rintro e w' ⟨he, hb⟩
  refine ⟨?_, hb⟩
  rw [he, ← ex, ← ey]
  congr 2
  exact decide_eq_decide.2 ⟨fun h => by rw [h], fun h => Int.ofNat.inj h⟩
theorem eisZeroZ_c (u : Value) (X : Int) (w : World) (hu : Ez u X) :
    Calls Tryz.prog 25 #[u] w fun e w' => e = .returned (.bool (decide (X % pZ = 0))) ∧ Below w.heap.size w w' := by
  obtain ⟨x, hx, ex⟩ := hu.ex
  refine (eisZero_c u x w hx).mono ?_
  rintro e w' ⟨he, hb⟩
  refine ⟨?_, hb⟩
  rw [he, ← ex]
  congr 2
  exact decide_eq_decide.2 ⟨fun h => by rw [h]; rfl, fun h => Int.ofNat.inj h⟩
theorem fromUint64Z_c (v : Nat) (w : World) (hv : v < 18446744073709551616) (hG : Glob w) :
    Calls Tryz.prog 26 #[.int .u64 (v : Int)] w fun e w' => ∃ r, e = .returned r ∧ Ez r (v : Int) ∧ Below w.heap.size w w' := by
  refine (fromUint64_c v w hv hG).mono ?_
  rintro e w' ⟨r, he, hr, hb⟩
  exact ⟨r, he, Ez.of hr, hb⟩
theorem fromWideZ_c (A : Option Addr) (n c : Nat) (b : List Nat) (w : World) (ha : Rd8 w w.heap.size A n b) (hn : n ≤ 1000) (hG : Glob w) :
    Calls Tryz.prog 30 #[.slice A n c] w fun e w' => ∃ r, e = .returned r ∧ Ez r ((val 256 b : Nat) : Int) ∧ Below w.heap.size w w' := by
  refine (fromWide_c A n c b w ha hn hG).mono ?_
  rintro e w' ⟨r, he, hr, hb⟩
  exact ⟨r, he, ⟨⟨_, hr, z_mod _⟩⟩, hb⟩
/-- The inverse, as a number. -/
def invZ (X : Int) : Int := (((X % pZ).toNat ^ (pN - 2) % pN : Nat) : Int)
theorem invZ_of {x : Nat} {X : Int} (ex : (x : Int) = X % pZ) : ((x ^ (pN - 2) % pN : Nat) : Int) = invZ X := by
  unfold invZ
  rw [← ex]
  rfl
theorem einverseZ_c (u : Value) (X : Int) (w : World) (hu : Ez u X) (hG : Glob w) :
    Calls Tryz.prog 48 #[u] w fun e w' => ∃ r, e = .returned r ∧ Ez r (invZ X) ∧ Below w.heap.size w w' := by
  obtain ⟨x, hx, ex⟩ := hu.ex
  refine (einverse_c u x w hx hG).mono ?_
  rintro e w' ⟨r, he, hr, hb⟩
  exact ⟨r, he, (Ez.of hr).eq (invZ_of ex), hb⟩

theorem dAddZ_c (u v : Value) (X Y : Int) (w : World) (hu : Dz w u X) (hv : Dz w v Y) :
    Calls Tryz.prog 38 #[u, v] w fun e w' => ∃ r, e = .returned r ∧ Dz w' r (X + Y) ∧ Below w.heap.size w w' := by
  obtain ⟨x, hx, lx, ex⟩ := hu.ex
  obtain ⟨y, hy, ly, ey⟩ := hv.ex
  refine (dAddP_c u v x y w hx hy (hid lx) (hid ly)).mono ?_
  rintro e w' ⟨r, he, hr, hb⟩
  exact ⟨r, he, ⟨⟨_, hr, Nat.mod_lt _ pN_pos, z_add ex ey⟩⟩, hb⟩
theorem dMulZ_c (u v : Value) (X Y : Int) (w : World) (hu : Dz w u X) (hv : Dz w v Y) :
    Calls Tryz.prog 69 #[u, v] w fun e w' => ∃ r, e = .returned r ∧ Dz w' r (X * Y) ∧ Below w.heap.size w w' := by
  obtain ⟨x, hx, lx, ex⟩ := hu.ex
  obtain ⟨y, hy, ly, ey⟩ := hv.ex
  refine (ref2Mul_c u v x y w hx hy (hid lx) (hid ly)).mono ?_
  rintro e w' ⟨r, he, hr, hb⟩
  exact ⟨r, he, ⟨⟨_, hr, Nat.mod_lt _ pN_pos, z_mul ex ey⟩⟩, hb⟩
theorem dInvZ_c (u : Value) (X : Int) (w : World) (hu : Dz w u X) :
    Calls Tryz.prog 54 #[u] w fun e w' => ∃ r, e = .returned r ∧ Dz w' r (invZ X) ∧ Below w.heap.size w w' := by
  obtain ⟨x, hx, lx, ex⟩ := hu.ex
  refine (dInvP_c u x w hx (hid lx)).mono ?_
  rintro e w' ⟨r, he, hr, hb⟩
  refine ⟨r, he, ⟨⟨_, hr, Nat.mod_lt _ pN_pos, ?_⟩⟩, hb⟩
  rw [← invZ_of ex]
  exact z_nat (Nat.mod_lt _ pN_pos)
theorem dModZ_c (u : Value) (X : Nat) (w : World) (hu : Dg w u X) (hX : X < 4294967296 ^ 30) :
    Calls Tryz.prog 31 #[u] w fun e w' => ∃ r, e = .returned r ∧ Dz w' r (X : Int) ∧ Below w.heap.size w w' := by
  refine (dMod_c u X w hu hX).mono ?_
  rintro e w' ⟨r, he, hr, hb⟩
  exact ⟨r, he, ⟨⟨_, hr, Nat.mod_lt _ pN_pos, z_mod X⟩⟩, hb⟩
theorem isZ_c (u v : Value) (X Y : Int) (w : World) (hu : Ez u X) (hv : Dz w v Y) (hG : Glob w) :
    Calls Tryz.prog 18 #[u, v] w fun e w' => e = .returned (.bool (decide (X % pZ = Y % pZ))) ∧ Below w.heap.size w w' := by
  obtain ⟨x, hx, ex⟩ := hu.ex
  obtain ⟨y, hy, ly, ey⟩ := hv.ex
  refine (is_c u v x y w hx hy (Nat.lt_trans ly (by decide)) hG).mono ?_
  rintro e w' ⟨he, hb⟩
  refine ⟨?_, hb⟩
  rw [he, ← ex, ← ey]
  congr 2
  exact decide_eq_decide.2 ⟨fun h => by rw [h], fun h => Int.ofNat.inj h⟩
end Go.Proofs.YtdepkfdceidikaaGreatDoor
/-
  Inverses as integers modulo the prime; matrices of three rows: plain arithmetic.
-/
namespace Go.Proofs.YtdepkfdceidikaaGreatDoor
set_option linter.unusedVariables false

theorem zmul_congr {a b : Int} (c : Int) (h : a % pZ = b % pZ) : (c * a) % pZ = (c * b) % pZ := by
  rw [Int.mul_emod c a, Int.mul_emod c b, h]
theorem zmul_congr2 {a b c d : Int} (h : a % pZ = b % pZ) (k : c % pZ = d % pZ) : (a * c) % pZ = (b * d) % pZ := by
  rw [Int.mul_emod a c, Int.mul_emod b d, h, k]
theorem zadd_congr {a b c d : Int} (h : a % pZ = b % pZ) (k : c % pZ = d % pZ) : (a + c) % pZ = (b + d) % pZ := by
  rw [Int.add_emod a c, Int.add_emod b d, h, k]
theorem zsub_congr {a b c d : Int} (h : a % pZ = b % pZ) (k : c % pZ = d % pZ) : (a - c) % pZ = (b - d) % pZ := by
  rw [Int.sub_emod a c, Int.sub_emod b d, h, k]
theorem zone : (1 : Int) % pZ = 1 := by decide
theorem invZ_mul {X : Int} (h : X % pZ ≠ 0) : (X * invZ X) % pZ = 1 := by
  obtain ⟨x, hx⟩ := Int.eq_ofNat_of_zero_le (Int.emod_nonneg X (show pZ ≠ 0 by decide))
  have hlt : x < pN := by
    have := Int.emod_lt_of_pos X pZ_pos
    rw [hx] at this
    exact Int.ofNat_lt.mp this
  have h0 : 0 < x := by
    rcases Nat.eq_zero_or_pos x with e | e
    · exact absurd (by rw [hx, e]; rfl) h
    · exact e
  have hi := inv_p h0 hlt
  rw [← invZ_of (x := x) hx.symm, zmul_congr2 (b := (x : Int)) (hx.trans (z_nat hlt)) rfl, ← Int.natCast_mul]
  show ((x * (x ^ (pN - 2) % pN) : Nat) : Int) % (pN : Int) = 1
  rw [← Int.natCast_emod, hi]
  rfl
theorem invZ_uniq {X Y : Int} (h : (X * Y) % pZ = 1) : invZ X % pZ = Y % pZ := by
  have hx : X % pZ ≠ 0 := by
    intro e
    rw [Int.mul_emod, e, Int.zero_mul] at h
    revert h
    decide
  have h1 := zmul_congr (invZ X) (h.trans zone.symm)
  have h2 := zmul_congr Y ((invZ_mul hx).trans zone.symm)
  rw [Int.mul_one] at h1 h2
  rw [← h1, ← h2]
  congr 1
  grind

/-- Matrices of three rows, by rows and columns. -/
abbrev MZ : Type := Nat → Nat → Int
def mzMul (a b : MZ) : MZ := fun i j => a i 0 * b 0 j + a i 1 * b 1 j + a i 2 * b 2 j
def mzApply (a : MZ) (v : Nat → Int) : Nat → Int := fun i => a i 0 * v 0 + a i 1 * v 1 + a i 2 * v 2
def mzUnit : MZ := fun i j => if i = j then 1 else 0
def mzDet (m : MZ) : Int := m 0 0 * (m 1 1 * m 2 2 - m 1 2 * m 2 1) - m 0 1 * (m 1 0 * m 2 2 - m 1 2 * m 2 0) + m 0 2 * (m 1 0 * m 2 1 - m 1 1 * m 2 0)
theorem mzMul_assoc (a b c : MZ) (i j : Nat) : mzMul (mzMul a b) c i j = mzMul a (mzMul b c) i j := by
  unfold mzMul
  grind
theorem mzApply_mul (a b : MZ) (v : Nat → Int) (i : Nat) : mzApply (mzMul a b) v i = mzApply a (mzApply b v) i := by
  unfold mzApply mzMul
  grind
theorem mzMul_unit (a : MZ) {i j : Nat} (hj : j < 3) : mzMul a mzUnit i j = a i j := by
  match j, hj with
  | 0, _ => simp [mzMul, mzUnit]
  | 1, _ => simp [mzMul, mzUnit]
  | 2, _ => simp [mzMul, mzUnit]
theorem mzDet_mul (a b : MZ) : mzDet (mzMul a b) = mzDet a * mzDet b := by
  unfold mzDet mzMul
  grind
theorem mzDet_unit : mzDet mzUnit = 1 := by decide
/-- Rows changed, laid alike, multiplied. -/
def mzTurn (m : MZ) (x y : Nat) : MZ := fun i => if i = x then m y else if i = y then m x else m i
def mzLike (m : MZ) (x y : Nat) : MZ := fun i => if i = x then m y else m i
def mzTimes (m : MZ) (x : Nat) (e : Int) : MZ := fun i j => if i = x then m x j * e else m i j
theorem mz_rows (m : MZ) (e : Int) {x y : Nat} (hx : x < 3) (hy : y < 3) (h : x ≠ y) : mzDet (mzTurn m x y) = -mzDet m ∧ mzDet (mzLike m x y) = 0 ∧ mzDet (mzTimes m x e) = mzDet m * e := by
  match x, hx, y, hy with
  | 0, _, 0, _ => exact absurd rfl h
  | 0, _, 1, _ => simp only [mzDet, mzTurn, mzLike, mzTimes]; refine ⟨?_, ?_, ?_⟩ <;> simp <;> grind
  | 0, _, 2, _ => simp only [mzDet, mzTurn, mzLike, mzTimes]; refine ⟨?_, ?_, ?_⟩ <;> simp <;> grind
  | 1, _, 0, _ => simp only [mzDet, mzTurn, mzLike, mzTimes]; refine ⟨?_, ?_, ?_⟩ <;> simp <;> grind
  | 1, _, 1, _ => exact absurd rfl h
  | 1, _, 2, _ => simp only [mzDet, mzTurn, mzLike, mzTimes]; refine ⟨?_, ?_, ?_⟩ <;> simp <;> grind
  | 2, _, 0, _ => simp only [mzDet, mzTurn, mzLike, mzTimes]; refine ⟨?_, ?_, ?_⟩ <;> simp <;> grind
  | 2, _, 1, _ => simp only [mzDet, mzTurn, mzLike, mzTimes]; refine ⟨?_, ?_, ?_⟩ <;> simp <;> grind
  | 2, _, 2, _ => exact absurd rfl h
end Go.Proofs.YtdepkfdceidikaaGreatDoor
/-
  Sums of field elements, as integers modulo the prime.
-/
namespace Go.Proofs.YtdepkfdceidikaaGreatDoor
open Go.RowKit
set_option linter.unusedVariables false

def isum (L : List Int) : Nat → Int
  | 0 => 0
  | k + 1 => isum L k + L.getD k 0
/-- A slice of elements that is read, as integers. -/
structure RdEz (w : World) (B : Nat) (A : Option Addr) (n : Nat) (L : List Int) : Prop where
  ex : ∃ l, RdE w B A n l ∧ ∀ i, i < n → ((l.getD i 0 : Nat) : Int) = L.getD i 0 % pZ
theorem psum_z {l : List Nat} {L : List Int} {n : Nat} (h : ∀ i, i < n → ((l.getD i 0 : Nat) : Int) = L.getD i 0 % pZ) : ∀ k, k ≤ n → ((psum l k : Nat) : Int) % pZ = isum L k % pZ
  | 0, _ => rfl
  | k + 1, hk => by
    show ((psum l k + l.getD k 0 : Nat) : Int) % pZ = (isum L k + L.getD k 0) % pZ
    rw [Int.natCast_add]
    refine zadd_congr (psum_z h k (by omega)) ?_
    rw [h k (by omega), Int.emod_emod]
/-- The inverses that Cauchy's matrix is made of. -/
def cz : List Int := [14592161914559516814830937163504850059032242933610689562465469457717205663745, 16416182153879456416684804308942956316411273300312025757773653139931856371713, 8755297148735710088898562298102910035419345760166413737479281674630323398247, 18240202393199396018538671454381062573790303667013361953081836822146507079681, 3126891838834182174606629392179610726935480628630862049099743455225115499374]
theorem cz_inv {k : Nat} (h : k < 5) : invZ ((k + 3 : Nat) : Int) % pZ = cz.getD k 0 % pZ := by
  match k, h with
  | 0, _ => exact invZ_uniq (by decide +kernel)
  | 1, _ => exact invZ_uniq (by decide +kernel)
  | 2, _ => exact invZ_uniq (by decide +kernel)
  | 3, _ => exact invZ_uniq (by decide +kernel)
  | 4, _ => exact invZ_uniq (by decide +kernel)
end Go.Proofs.YtdepkfdceidikaaGreatDoor
