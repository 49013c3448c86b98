/-
  Field elements, and the document's numbers, as integers modulo the prime: what each call does to these.
-/
import Derived.Test.YtdepkfdceidikaaDoorFldI
import Derived.Test.YtdepkfdceidikaaDoorFSumB
import Derived.Test.YtdepkfdceidikaaDoorRef2E
import Derived.Test.YtdepkfdceidikaaDoorCalI
import Derived.Test.YtdepkfdceidikaaDoorFPrime
namespace Go.Proofs.YtdepkfdceidikaaDoor
open Go.RowKit
set_option linter.unusedVariables false

def pZ : Int := (pN : Int)
theorem pZ_pos : (0 : Int) < pZ := by decide
theorem z_nat {x : Nat} (h : x < pN) : (x : Int) = (x : Int) % pZ := (Int.emod_eq_of_lt (Int.natCast_nonneg x) (Int.ofNat_lt.mpr h)).symm
theorem z_mod (x : Nat) : ((x % pN : Nat) : Int) = (x : Int) % pZ := Int.natCast_emod x pN
theorem z_add {x y : Nat} {X Y : Int} (hx : (x : Int) = X % pZ) (hy : (y : Int) = Y % pZ) : (((x + y) % pN : Nat) : Int) = (X + Y) % pZ := by
  rw [z_mod, Int.natCast_add, hx, hy]
  exact (Int.add_emod X Y pZ).symm
theorem z_mul {x y : Nat} {X Y : Int} (hx : (x : Int) = X % pZ) (hy : (y : Int) = Y % pZ) : (((x * y) % pN : Nat) : Int) = (X * Y) % pZ := by
  rw [z_mod, Int.natCast_mul, hx, hy]
  exact (Int.mul_emod X Y pZ).symm
theorem z_sub {x y : Nat} {X Y : Int} (hy' : y ≤ pN) (hx : (x : Int) = X % pZ) (hy : (y : Int) = Y % pZ) : (((x + (pN - y)) % pN : Nat) : Int) = (X - Y) % pZ := by
  have e : ((x + (pN - y) : Nat) : Int) = (x : Int) - (y : Int) + pZ := by
    unfold pZ
    omega
  rw [z_mod, e, Int.add_emod_right, hx, hy]
  exact (Int.sub_emod X Y pZ).symm
theorem z_neg {x : Nat} {X : Int} (hx' : x ≤ pN) (hx : (x : Int) = X % pZ) : (((pN - x) % pN : Nat) : Int) = (-X) % pZ := by
  have h := z_sub (x := 0) (X := 0) hx' rfl hx
  rw [Nat.zero_add, Int.zero_sub] at h
  exact h
theorem z_inj {x y : Nat} {X : Int} (hx : (x : Int) = X % pZ) (hy : (y : Int) = X % pZ) : x = y := Int.ofNat.inj (hx.trans hy.symm)

/-- The value v is the element of the integer X. -/
structure Ez (v : Value) (X : Int) : Prop where
  ex : ∃ x : Nat, El v x ∧ (x : Int) = X % pZ
/-- Digits of the number that X leaves modulo the prime. -/
structure Dz (w : World) (v : Value) (X : Int) : Prop where
  ex : ∃ x : Nat, Dg w v x ∧ x < pN ∧ (x : Int) = X % pZ
theorem Ez.of {v : Value} {x : Nat} (h : El v x) : Ez v (x : Int) := ⟨⟨x, h, z_nat h.lt⟩⟩
theorem Ez.eq {v : Value} {X Y : Int} (h : Ez v X) (e : X = Y) : Ez v Y := e ▸ h
theorem Ez.cong {v : Value} {X Y : Int} (h : Ez v X) (e : X % pZ = Y % pZ) : Ez v Y := by
  obtain ⟨x, hx, ex⟩ := h.ex
  exact ⟨⟨x, hx, ex.trans e⟩⟩
theorem Dz.eq {w : World} {v : Value} {X Y : Int} (h : Dz w v X) (e : X = Y) : Dz w v Y := e ▸ h
theorem Dz.up {w w' : World} {v : Value} {X : Int} (h : Dz w v X) (hb : Below w.heap.size w w') : Dz w' v X := by
  obtain ⟨x, hx, hl, ex⟩ := h.ex
  exact ⟨⟨x, hx.up hb, hl, ex⟩⟩
theorem Dg.empty (w : World) (A : Option Addr) (c : Nat) : Dg w (.slice A 0 c) 0 := ⟨A, c, [], rfl, Nat.zero_le _, by decide, Rd.nil _ _ _, by intro x hx; simp at hx, Or.inl rfl, rfl⟩
theorem Dz.empty (w : World) (A : Option Addr) (c : Nat) : Dz w (.slice A 0 c) 0 := ⟨⟨0, Dg.empty w A c, pN_pos, rfl⟩⟩
theorem Ez.words {v : Value} {X : Int} (h : Ez v X) : ∃ r0 r1 r2 r3 : Int, v = w4 r0 r1 r2 r3 := by
  obtain ⟨x, ⟨r0, r1, r2, r3, e, _⟩, _⟩ := h.ex
  exact ⟨r0, r1, r2, r3, e⟩
theorem Ez.zero : Ez (w4 0 0 0 0) 0 := ⟨⟨0, El.zero, rfl⟩⟩

theorem eaddZ_c (u v : Value) (X Y : Int) (w : World) (hu : Ez u X) (hv : Ez v Y) (hG : Glob w) :
    Calls Tryd.prog 39 #[u, v] w fun e w' => ∃ r, e = .returned r ∧ Ez r (X + Y) ∧ Below w.heap.size w w' := by
  obtain ⟨x, hx, ex⟩ := hu.ex
  obtain ⟨y, hy, ey⟩ := hv.ex
  refine (eadd_c u v x y w hx hy hG).mono ?_
  rintro e w' ⟨r, he, hr, hb⟩
  exact ⟨r, he, ⟨⟨_, hr, z_add ex ey⟩⟩, hb⟩
theorem esubZ_c (u v : Value) (X Y : Int) (w : World) (hu : Ez u X) (hv : Ez v Y) (hG : Glob w) :
    Calls Tryd.prog 38 #[u, v] w fun e w' => ∃ r, e = .returned r ∧ Ez r (X - Y) ∧ Below w.heap.size w w' := by
  obtain ⟨x, hx, ex⟩ := hu.ex
  obtain ⟨y, hy, ey⟩ := hv.ex
  refine (esub_c u v x y w hx hy hG).mono ?_
  rintro e w' ⟨r, he, hr, hb⟩
  exact ⟨r, he, ⟨⟨_, hr, z_sub (Nat.le_of_lt hy.lt) ex ey⟩⟩, hb⟩
theorem emulZ_c (u v : Value) (X Y : Int) (w : World) (hu : Ez u X) (hv : Ez v Y) (hG : Glob w) :
    Calls Tryd.prog 17 #[u, v] w fun e w' => ∃ r, e = .returned r ∧ Ez r (X * Y) ∧ Below w.heap.size w w' := by
  obtain ⟨x, hx, ex⟩ := hu.ex
  obtain ⟨y, hy, ey⟩ := hv.ex
  refine (emul_c u v x y w hx hy hG).mono ?_
  rintro e w' ⟨r, he, hr, hb⟩
  exact ⟨r, he, ⟨⟨_, hr, z_mul ex ey⟩⟩, hb⟩
theorem esquareZ_c (u : Value) (X : Int) (w : World) (hu : Ez u X) (hG : Glob w) :
    Calls Tryd.prog 26 #[u] w fun e w' => ∃ r, e = .returned r ∧ Ez r (X * X) ∧ Below w.heap.size w w' := by
  obtain ⟨x, hx, ex⟩ := hu.ex
  refine (esquare_c u x w hx hG).mono ?_
  rintro e w' ⟨r, he, hr, hb⟩
  exact ⟨r, he, ⟨⟨_, hr, z_mul ex ex⟩⟩, hb⟩
theorem eequalZ_c (u v : Value) (X Y : Int) (w : World) (hu : Ez u X) (hv : Ez v Y) :
    Calls Tryd.prog 8 #[u, v] w fun e w' => e = .returned (.bool (decide (X % pZ = Y % pZ))) ∧ Below w.heap.size w w' := by
  obtain ⟨x, hx, ex⟩ := hu.ex
  obtain ⟨y, hy, ey⟩ := hv.ex
  refine (eequal_c u v x y w hx hy).mono ?_
  rintro e w' ⟨he, hb⟩
  refine ⟨?_, hb⟩
  rw [he, ← ex, ← ey]
  congr 2
  exact decide_eq_decide.2 ⟨fun h => by rw [h], fun h => Int.ofNat.inj h⟩
theorem eisZeroZ_c (u : Value) (X : Int) (w : World) (hu : Ez u X) :
    Calls Tryd.prog 21 #[u] w fun e w' => e = .returned (.bool (decide (X % pZ = 0))) ∧ Below w.heap.size w w' := by
  obtain ⟨x, hx, ex⟩ := hu.ex
  refine (eisZero_c u x w hx).mono ?_
  rintro e w' ⟨he, hb⟩
  refine ⟨?_, hb⟩
  rw [he, ← ex]
  congr 2
  exact decide_eq_decide.2 ⟨fun h => by rw [h]; rfl, fun h => Int.ofNat.inj h⟩
theorem fromUint64Z_c (v : Nat) (w : World) (hv : v < 18446744073709551616) (hG : Glob w) :
    Calls Tryd.prog 18 #[.int .u64 (v : Int)] w fun e w' => ∃ r, e = .returned r ∧ Ez r (v : Int) ∧ Below w.heap.size w w' := by
  refine (fromUint64_c v w hv hG).mono ?_
  rintro e w' ⟨r, he, hr, hb⟩
  exact ⟨r, he, Ez.of hr, hb⟩
theorem fromWideZ_c (A : Option Addr) (n c : Nat) (b : List Nat) (w : World) (ha : Rd8 w w.heap.size A n b) (hn : n ≤ 1000) (hG : Glob w) :
    Calls Tryd.prog 6 #[.slice A n c] w fun e w' => ∃ r, e = .returned r ∧ Ez r ((val 256 b : Nat) : Int) ∧ Below w.heap.size w w' := by
  refine (fromWide_c A n c b w ha hn hG).mono ?_
  rintro e w' ⟨r, he, hr, hb⟩
  exact ⟨r, he, ⟨⟨_, hr, z_mod _⟩⟩, hb⟩
/-- The inverse, as a number. -/
def invZ (X : Int) : Int := (((X % pZ).toNat ^ (pN - 2) % pN : Nat) : Int)
theorem invZ_of {x : Nat} {X : Int} (ex : (x : Int) = X % pZ) : ((x ^ (pN - 2) % pN : Nat) : Int) = invZ X := by
  unfold invZ
  rw [← ex]
  rfl
theorem einverseZ_c (u : Value) (X : Int) (w : World) (hu : Ez u X) (hG : Glob w) :
    Calls Tryd.prog 50 #[u] w fun e w' => ∃ r, e = .returned r ∧ Ez r (invZ X) ∧ Below w.heap.size w w' := by
  obtain ⟨x, hx, ex⟩ := hu.ex
  refine (einverse_c u x w hx hG).mono ?_
  rintro e w' ⟨r, he, hr, hb⟩
  exact ⟨r, he, (Ez.of hr).eq (invZ_of ex), hb⟩

theorem dModZ_c (u : Value) (X : Nat) (w : World) (hu : Dg w u X) (hX : X < 4294967296 ^ 30) :
    Calls Tryd.prog 30 #[u] w fun e w' => ∃ r, e = .returned r ∧ Dz w' r (X : Int) ∧ Below w.heap.size w w' := by
  refine (dMod_c u X w hu hX).mono ?_
  rintro e w' ⟨r, he, hr, hb⟩
  exact ⟨r, he, ⟨⟨_, hr, Nat.mod_lt _ pN_pos, z_mod X⟩⟩, hb⟩
end Go.Proofs.YtdepkfdceidikaaDoor
