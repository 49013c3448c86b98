/-
  Four elements that lie in variables of a law, kept through its calls; the field's laws, as numbers.
-/
import Derived.Test.YtjkellpfoogomaaDoorFLaw0
import Derived.Test.YtjkellpfoogomaaDoorFPrime
namespace Go.Proofs.YtjkellpfoogomaaDoor
open Go.RowKit
set_option linter.unusedVariables false

/-- What a law with four variables of elements keeps: the tables, the variables, all that was there. -/
structure Env4 (w0 : World) (bx b_y bz bo : Nat) (x0 x1 x2 x3 y0 y1 y2 y3 z0 z1 z2 z3 o0 o1 o2 o3 : Int) (w : World) : Prop where
  g : Glob w
  x : B4 w bx x0 x1 x2 x3
  y : B4 w b_y y0 y1 y2 y3
  z : B4 w bz z0 z1 z2 z3
  o : B4 w bo o0 o1 o2 o3
  b : Below w0.heap.size w0 w
theorem Env4.up {w0 : World} {bx b_y bz bo : Nat} {x0 x1 x2 x3 y0 y1 y2 y3 z0 z1 z2 z3 o0 o1 o2 o3 : Int} {w w' : World} (h : Env4 w0 bx b_y bz bo x0 x1 x2 x3 y0 y1 y2 y3 z0 z1 z2 z3 o0 o1 o2 o3 w) (hb : Below w.heap.size w w') :
    Env4 w0 bx b_y bz bo x0 x1 x2 x3 y0 y1 y2 y3 z0 z1 z2 z3 o0 o1 o2 o3 w' :=
  ⟨h.g.up hb, h.x.below hb h.x.size, h.y.below hb h.y.size, h.z.below hb h.z.size, h.o.below hb h.o.size, h.b.trans (hb.mono h.b.size)⟩
theorem Env4.drew {w0 : World} {bx b_y bz bo : Nat} {x0 x1 x2 x3 y0 y1 y2 y3 z0 z1 z2 z3 o0 o1 o2 o3 : Int} {w : World} (h : Env4 w0 bx b_y bz bo x0 x1 x2 x3 y0 y1 y2 y3 z0 z1 z2 z3 o0 o1 o2 o3 w) :
    Env4 w0 bx b_y bz bo x0 x1 x2 x3 y0 y1 y2 y3 z0 z1 z2 z3 o0 o1 o2 o3 w.drew := h.up (Below.refl _ _).drew
theorem Env4.cells {w0 : World} {bx b_y bz bo : Nat} {x0 x1 x2 x3 y0 y1 y2 y3 z0 z1 z2 z3 o0 o1 o2 o3 : Int} {w : World} (h : Env4 w0 bx b_y bz bo x0 x1 x2 x3 y0 y1 y2 y3 z0 z1 z2 z3 o0 o1 o2 o3 w) :
    w.cell? ⟨bx, 0, none⟩ = some (.int .u64 x0) ∧ w.cell? ⟨bx, 1, none⟩ = some (.int .u64 x1) ∧ w.cell? ⟨bx, 2, none⟩ = some (.int .u64 x2) ∧ w.cell? ⟨bx, 3, none⟩ = some (.int .u64 x3) ∧
    w.cell? ⟨b_y, 0, none⟩ = some (.int .u64 y0) ∧ w.cell? ⟨b_y, 1, none⟩ = some (.int .u64 y1) ∧ w.cell? ⟨b_y, 2, none⟩ = some (.int .u64 y2) ∧ w.cell? ⟨b_y, 3, none⟩ = some (.int .u64 y3) ∧
    w.cell? ⟨bz, 0, none⟩ = some (.int .u64 z0) ∧ w.cell? ⟨bz, 1, none⟩ = some (.int .u64 z1) ∧ w.cell? ⟨bz, 2, none⟩ = some (.int .u64 z2) ∧ w.cell? ⟨bz, 3, none⟩ = some (.int .u64 z3) ∧
    w.cell? ⟨bo, 0, none⟩ = some (.int .u64 o0) ∧ w.cell? ⟨bo, 1, none⟩ = some (.int .u64 o1) ∧ w.cell? ⟨bo, 2, none⟩ = some (.int .u64 o2) ∧ w.cell? ⟨bo, 3, none⟩ = some (.int .u64 o3) :=
  ⟨h.x.c0, h.x.c1, h.x.c2, h.x.c3, h.y.c0, h.y.c1, h.y.c2, h.y.c3, h.z.c0, h.z.c1, h.z.c2, h.z.c3, h.o.c0, h.o.c1, h.o.c2, h.o.c3⟩

theorem p_add_comm (x y : Nat) : (x + y) % pN = (y + x) % pN := by rw [Nat.add_comm]
theorem p_mul_comm (x y : Nat) : x * y % pN = y * x % pN := by rw [Nat.mul_comm]
theorem p_mul_assoc (x y z : Nat) : x * (y * z % pN) % pN = x * y % pN * z % pN := by rw [Nat.mul_mod_mod, Nat.mod_mul_mod, Nat.mul_assoc]
theorem p_mul_add (x y z : Nat) : x * ((y + z) % pN) % pN = (x * y % pN + x * z % pN) % pN := by rw [Nat.mul_mod_mod, ← Nat.add_mod, Nat.mul_add]
theorem p_sub_add {x y : Nat} (hx : x < pN) (hy : y < pN) : ((x + (pN - y)) % pN + y) % pN = x := by
  rw [Nat.mod_add_mod, Nat.add_assoc, Nat.sub_add_cancel (Nat.le_of_lt hy), Nat.add_mod_right, Nat.mod_eq_of_lt hx]
theorem p_add_neg {x : Nat} (hx : x < pN) : (x + (pN - x) % pN) % pN = 0 := by
  rw [Nat.add_mod_mod, Nat.add_sub_cancel' (Nat.le_of_lt hx), Nat.mod_self]
theorem p_mul_one {x : Nat} (hx : x < pN) : x * 1 % pN = x := by rw [Nat.mul_one, Nat.mod_eq_of_lt hx]
theorem p_sub_self {x : Nat} (hx : x < pN) : (x + (pN - x)) % pN = 0 := by rw [Nat.add_sub_cancel' (Nat.le_of_lt hx), Nat.mod_self]
theorem p_inv_lt (x : Nat) : x ^ (pN - 2) % pN < pN := Nat.mod_lt _ pN_pos
theorem p_inv_zero : 0 ^ (pN - 2) % pN = 0 := by
  rw [Nat.zero_pow (show 0 < pN - 2 by decide)]; rfl
theorem p_inv_pos {x : Nat} (h0 : x ≠ 0) (hx : x < pN) : 0 < x ^ (pN - 2) % pN := by
  rcases Nat.eq_zero_or_pos (x ^ (pN - 2) % pN) with h | h
  · have := inv_p (by omega) hx
    rw [h, Nat.mul_zero, Nat.zero_mod] at this
    omega
  · exact h
theorem p_mul_inv {x : Nat} (h0 : x ≠ 0) (hx : x < pN) : x * (x ^ (pN - 2) % pN) % pN = 1 := inv_p (by omega) hx
theorem p_mul_mul_inv {x y : Nat} (h0 : x ≠ 0) (hx : x < pN) (hy : y < pN) : y * x % pN * (x ^ (pN - 2) % pN) % pN = y := by
  rw [Nat.mod_mul_mod, Nat.mul_assoc, ← Nat.mul_mod_mod, p_mul_inv h0 hx, Nat.mul_one, Nat.mod_eq_of_lt hy]
theorem p_inv_inv {x : Nat} (h0 : x ≠ 0) (hx : x < pN) : (x ^ (pN - 2) % pN) ^ (pN - 2) % pN = x := by
  have h1 := p_mul_inv (x := x ^ (pN - 2) % pN) (by have := p_inv_pos h0 hx; omega) (p_inv_lt x)
  have h2 := p_mul_inv h0 hx
  generalize (x ^ (pN - 2) % pN) = i at *
  have hj : i ^ (pN - 2) % pN < pN := Nat.mod_lt _ pN_pos
  generalize (i ^ (pN - 2) % pN) = j at *
  have h3 : x * i % pN * j % pN = x * (i * j % pN) % pN := by rw [Nat.mod_mul_mod, Nat.mul_mod_mod, Nat.mul_assoc]
  rw [h1, h2, Nat.mul_one, Nat.one_mul, Nat.mod_eq_of_lt hx, Nat.mod_eq_of_lt hj] at h3
  exact h3
end Go.Proofs.YtjkellpfoogomaaDoor
