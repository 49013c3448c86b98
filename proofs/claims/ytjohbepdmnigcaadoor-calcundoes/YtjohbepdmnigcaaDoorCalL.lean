import Derived.Test.YtjohbepdmnigcaaDoorFLaw0
import Derived.Test.YtjohbepdmnigcaaDoorFPrime
import Derived.Test.YtjohbepdmnigcaaDoorCalK
/-
  Four elements that lie in variables of a law, kept through its calls; the field's laws, as numbers.
-/
namespace Go.Proofs.YtjohbepdmnigcaaDoor
open Go.RowKit
set_option linter.unusedVariables false

/-- What a law with four variables of elements keeps: the tables, the variables, all that was there. -/
structure Env4 (w0 : World) (bx b_y bz bo : Nat) (x0 x1 x2 x3 y0 y1 y2 y3 z0 z1 z2 z3 o0 o1 o2 o3 : Int) (w : World) : Prop where
  g : Glob w
  x : B4 w bx x0 x1 x2 x3
  y : B4 w b_y y0 y1 y2 y3
  z : B4 w bz z0 z1 z2 z3
  o : B4 w bo o0 o1 o2 o3
  b : Below w0.heap.size w0 w
theorem Env4.up {w0 : World} {bx b_y bz bo : Nat} {x0 x1 x2 x3 y0 y1 y2 y3 z0 z1 z2 z3 o0 o1 o2 o3 : Int} {w w' : World} (h : Env4 w0 bx b_y bz bo x0 x1 x2 x3 y0 y1 y2 y3 z0 z1 z2 z3 o0 o1 o2 o3 w) (hb : Below w.heap.size w w') :
    Env4 w0 bx b_y bz bo x0 x1 x2 x3 y0 y1 y2 y3 z0 z1 z2 z3 o0 o1 o2 o3 w' :=
  ⟨h.g.up hb, h.x.below hb h.x.size, h.y.below hb h.y.size, h.z.below hb h.z.size, h.o.below hb h.o.size, h.b.trans (hb.mono h.b.size)⟩
theorem Env4.drew {w0 : World} {bx b_y bz bo : Nat} {x0 x1 x2 x3 y0 y1 y2 y3 z0 z1 z2 z3 o0 o1 o2 o3 : Int} {w : World} (h : Env4 w0 bx b_y bz bo x0 x1 x2 x3 y0 y1 y2 y3 z0 z1 z2 z3 o0 o1 o2 o3 w) :
    Env4 w0 bx b_y bz bo x0 x1 x2 x3 y0 y1 y2 y3 z0 z1 z2 z3 o0 o1 o2 o3 w.drew := h.up (Below.refl _ _).drew
theorem Env4.cells {w0 : World} {bx b_y bz bo : Nat} {x0 x1 x2 x3 y0 y1 y2 y3 z0 z1 z2 z3 o0 o1 o2 o3 : Int} {w : World} (h : Env4 w0 bx b_y bz bo x0 x1 x2 x3 y0 y1 y2 y3 z0 z1 z2 z3 o0 o1 o2 o3 w) :
    w.cell? ⟨bx, 0, none⟩ = some (.int .u64 x0) ∧ w.cell? ⟨bx, 1, none⟩ = some (.int .u64 x1) ∧ w.cell? ⟨bx, 2, none⟩ = some (.int .u64 x2) ∧ w.cell? ⟨bx, 3, none⟩ = some (.int .u64 x3) ∧
    w.cell? ⟨b_y, 0, none⟩ = some (.int .u64 y0) ∧ w.cell? ⟨b_y, 1, none⟩ = some (.int .u64 y1) ∧ w.cell? ⟨b_y, 2, none⟩ = some (.int .u64 y2) ∧ w.cell? ⟨b_y, 3, none⟩ = some (.int .u64 y3) ∧
    w.cell? ⟨bz, 0, none⟩ = some (.int .u64 z0) ∧ w.cell? ⟨bz, 1, none⟩ = some (.int .u64 z1) ∧ w.cell? ⟨bz, 2, none⟩ = some (.int .u64 z2) ∧ w.cell? ⟨bz, 3, none⟩ = some (.int .u64 z3) ∧
    w.cell? ⟨bo, 0, none⟩ = some (.int .u64 o0) ∧ w.cell? ⟨bo, 1, none⟩ = some (.int .u64 o1) ∧ w.cell? ⟨bo, 2, none⟩ = some (.int .u64 o2) ∧ w.cell? ⟨bo, 3, none⟩ = some (.int .u64 o3) :=
  ⟨h.x.c0, h.x.c1, h.x.c2, h.x.c3, h.y.c0, h.y.c1, h.y.c2, h.y.c3, h.z.c0, h.z.c1, h.z.c2, h.z.c3, h.o.c0, h.o.c1, h.o.c2, h.o.c3⟩

theorem p_add_comm (x y : Nat) : (x + y) % pN = (y + x) % pN := by rw [Nat.add_comm]
theorem p_mul_comm (x y : Nat) : x * y % pN = y * x % pN := by rw [Nat.mul_comm]
theorem p_mul_assoc (x y z : Nat) : x * (y * z % pN) % pN = x * y % pN * z % pN := by rw [Nat.mul_mod_mod, Nat.mod_mul_mod, Nat.mul_assoc]
theorem p_mul_add (x y z : Nat) : x * ((y + z) % pN) % pN = (x * y % pN + x * z % pN) % pN := by rw [Nat.mul_mod_mod, ← Nat.add_mod, Nat.mul_add]
theorem p_sub_add {x y : Nat} (hx : x < pN) (hy : y < pN) : ((x + (pN - y)) % pN + y) % pN = x := by
  rw [Nat.mod_add_mod, Nat.add_assoc, Nat.sub_add_cancel (Nat.le_of_lt hy), Nat.add_mod_right, Nat.mod_eq_of_lt hx]
theorem p_add_neg {x : Nat} (hx : x < pN) : (x + (pN - x) % pN) % pN = 0 := by
  rw [Nat.add_mod_mod, Nat.add_sub_cancel' (Nat.le_of_lt hx), Nat.mod_self]
theorem p_mul_one {x : Nat} (hx : x < pN) : x * 1 % pN = x := by rw [Nat.mul_one, Nat.mod_eq_of_lt hx]
theorem p_sub_self {x : Nat} (hx : x < pN) : (x + (pN - x)) % pN = 0 := by rw [Nat.add_sub_cancel' (Nat.le_of_lt hx), Nat.mod_self]
theorem p_inv_lt (x : Nat) : x ^ (pN - 2) % pN < pN := Nat.mod_lt _ pN_pos
theorem p_inv_zero : 0 ^ (pN - 2) % pN = 0 := by
  rw [Nat.zero_pow (show 0 < pN - 2 by decide)]; rfl
theorem p_inv_pos {x : Nat} (h0 : x ≠ 0) (hx : x < pN) : 0 < x ^ (pN - 2) % pN := by
  rcases Nat.eq_zero_or_pos (x ^ (pN - 2) % pN) with h | h
  · have := inv_p (by omega) hx
    rw [h, Nat.mul_zero, Nat.zero_mod] at this
    omega
  · exact h
theorem p_mul_inv {x : Nat} (h0 : x ≠ 0) (hx : x < pN) : x * (x ^ (pN - 2) % pN) % pN = 1 := inv_p (by omega) hx
theorem p_mul_mul_inv {x y : Nat} (h0 : x ≠ 0) (hx : x < pN) (hy : y < pN) : y * x % pN * (x ^ (pN - 2) % pN) % pN = y := by
  rw [Nat.mod_mul_mod, Nat.mul_assoc, ← Nat.mul_mod_mod, p_mul_inv h0 hx, Nat.mul_one, Nat.mod_eq_of_lt hy]
theorem p_inv_inv {x : Nat} (h0 : x ≠ 0) (hx : x < pN) : (x ^ (pN - 2) % pN) ^ (pN - 2) % pN = x := by
  have h1 := p_mul_inv (x := x ^ (pN - 2) % pN) (by have := p_inv_pos h0 hx; omega) (p_inv_lt x)
  have h2 := p_mul_inv h0 hx
  generalize (x ^ (pN - 2) % pN) = i at *
  have hj : i ^ (pN - 2) % pN < pN := Nat.mod_lt _ pN_pos
  generalize (i ^ (pN - 2) % pN) = j at *
  have h3 : x * i % pN * j % pN = x * (i * j % pN) % pN := by rw [Nat.mod_mul_mod, Nat.mul_mod_mod, Nat.mul_assoc]
  rw [h1, h2, Nat.mul_one, Nat.one_mul, Nat.mod_eq_of_lt hx, Nat.mod_eq_of_lt hj] at h3
  exact h3
end Go.Proofs.YtjohbepdmnigcaaDoor
/-
  Steps that undo one another, with lists of numbers.
-/
namespace Go.Proofs.YtjohbepdmnigcaaDoor
open Go.RowKit
set_option linter.unusedVariables false

theorem stepE_ok (k N : Nat) (xs : List Nat) (hk : k ≤ 10) (h1 : needN k N ≤ xs.length) (h2 : (act k N xs).length ≤ 64) : stepE (k : Int) N xs = 0 := by
  unfold stepE
  rw [if_neg (by omega), show Int.toNat (k : Int) = k from rfl, if_neg (by omega), if_neg (by omega)]
theorem runL_ok (k N : Nat) (l : List St) (i : Nat) (xs : List Nat) (hk : k ≤ 10) (h1 : needN k N ≤ xs.length) (h2 : (act k N xs).length ≤ 64) : runL (((k : Int), N) :: l) i xs = runL l (i + 1) (act k N xs) := by
  rw [runL, if_pos (stepE_ok k N xs hk h1 h2)]
  rfl
theorem needN_4 : needN 4 0 = 1 := rfl
theorem p_neg_neg {x : Nat} (hx : x < pN) : (pN - (pN - x) % pN) % pN = x := by
  rcases Nat.eq_zero_or_pos x with h | h
  · subst h
    rw [Nat.sub_zero, Nat.mod_self, Nat.sub_zero, Nat.mod_self]
  · rw [Nat.mod_eq_of_lt (show pN - x < pN by omega), show pN - (pN - x) = x by omega, Nat.mod_eq_of_lt hx]
theorem p_add_sub {x v : Nat} (hx : x < pN) (hv : v < pN) : ((x + v) % pN + (pN - v)) % pN = x := by
  rw [Nat.mod_add_mod, Nat.add_assoc, show v + (pN - v) = pN by omega, Nat.add_mod_right, Nat.mod_eq_of_lt hx]
theorem p_inv_twice {x : Nat} (hx : x < pN) : (x ^ (pN - 2) % pN) ^ (pN - 2) % pN = x := by
  rcases Nat.eq_zero_or_pos x with h | h
  · subst h
    rw [p_inv_zero, p_inv_zero]
  · exact p_inv_inv (by omega) hx

theorem undo0 (xs : List Nat) (h1 : 2 ≤ xs.length) (h2 : xs.length ≤ 60) (hp : ∀ x ∈ xs, x < pN) : runA [(4, 0), (4, 0)] xs = (xs, -1, 0) := by
  obtain ⟨ys, x, rfl⟩ := split1 xs (by omega)
  have hx := hp x (by simp)
  simp at h1 h2
  unfold runA
  rw [if_neg (by simp; omega)]
  have e1 : act 4 0 (ys ++ [x]) = ys ++ [(pN - x) % pN] := turnL_eq (fun x => (pN - x) % pN) ys x
  have e2 : act 4 0 (ys ++ [(pN - x) % pN]) = ys ++ [x] := (turnL_eq (fun x => (pN - x) % pN) ys _).trans (by rw [p_neg_neg hx])
  refine (runL_ok 4 0 _ 0 _ (by decide) (by simp [needN, needT]) (by rw [e1]; simp; omega)).trans ?_
  rw [e1]
  refine (runL_ok 4 0 _ _ _ (by decide) (by simp [needN, needT]) (by rw [e2]; simp; omega)).trans ?_
  rw [e2]
  rfl
theorem undo1 (xs : List Nat) (h1 : 2 ≤ xs.length) (h2 : xs.length ≤ 60) : runA [(8, 0), (8, 0)] xs = (xs, -1, 0) := by
  obtain ⟨ys, x, y, rfl⟩ := split2 xs h1
  simp at h1 h2
  unfold runA
  rw [if_neg (by simp; omega)]
  have e1 : act 8 0 (ys ++ [x, y]) = ys ++ [y, x] := swapL_eq ys x y
  have e2 : act 8 0 (ys ++ [y, x]) = ys ++ [x, y] := swapL_eq ys y x
  refine (runL_ok 8 0 _ 0 _ (by decide) (by simp [needN, needT]) (by rw [e1]; simp; omega)).trans ?_
  rw [e1]
  refine (runL_ok 8 0 _ _ _ (by decide) (by simp [needN, needT]) (by rw [e2]; simp; omega)).trans ?_
  rw [e2]
  rfl
theorem undo2 (xs : List Nat) (h1 : 2 ≤ xs.length) (h2 : xs.length ≤ 60) (k : Nat) (hk : k < xs.length) : runA [(7, k), (9, 0)] xs = (xs, -1, 0) := by
  unfold runA
  rw [if_neg (by omega)]
  have e1 : act 7 k xs = xs ++ [xs.getD (xs.length - 1 - k) 0] := rfl
  have e2 : act 9 0 (xs ++ [xs.getD (xs.length - 1 - k) 0]) = xs := dropL_eq xs _
  refine (runL_ok 7 k _ 0 _ (by decide) (by unfold needN; rw [if_pos rfl]; omega) (by rw [e1]; simp; omega)).trans ?_
  rw [e1]
  refine (runL_ok 9 0 _ _ _ (by decide) (by simp [needN, needT]) (by rw [e2]; omega)).trans ?_
  rw [e2]
  rfl
theorem undo3 (xs : List Nat) (h1 : 2 ≤ xs.length) (h2 : xs.length ≤ 60) (hp : ∀ x ∈ xs, x < pN) (v : Nat) (hv : v < pN) : runA [(0, v), (1, 0), (0, v), (2, 0)] xs = (xs, -1, 0) := by
  obtain ⟨ys, x, rfl⟩ := split1 xs (by omega)
  have hx := hp x (by simp)
  simp at h1 h2
  unfold runA
  rw [if_neg (by simp; omega)]
  have e1 : act 0 v (ys ++ [x]) = ys ++ [x, v] := by simp [act]
  have e2 : act 1 0 (ys ++ [x, v]) = ys ++ [(x + v) % pN] := joinL_eq (fun x y => (x + y) % pN) ys x v
  have e3 : act 0 v (ys ++ [(x + v) % pN]) = ys ++ [(x + v) % pN, v] := by simp [act]
  have e4 : act 2 0 (ys ++ [(x + v) % pN, v]) = ys ++ [x] := (joinL_eq (fun x y => (x + (pN - y)) % pN) ys _ v).trans (by rw [p_add_sub hx hv])
  refine (runL_ok 0 v _ 0 _ (by decide) (by simp [needN, needT]) (by rw [e1]; simp; omega)).trans ?_
  rw [e1]
  refine (runL_ok 1 0 _ _ _ (by decide) (by simp [needN, needT]) (by rw [e2]; simp; omega)).trans ?_
  rw [e2]
  refine (runL_ok 0 v _ _ _ (by decide) (by simp [needN, needT]) (by rw [e3]; simp; omega)).trans ?_
  rw [e3]
  refine (runL_ok 2 0 _ _ _ (by decide) (by simp [needN, needT]) (by rw [e4]; simp; omega)).trans ?_
  rw [e4]
  rfl
theorem undo4 (xs : List Nat) (h1 : 2 ≤ xs.length) (h2 : xs.length ≤ 60) (hp : ∀ x ∈ xs, x < pN) : runA [(6, 0), (6, 0)] xs = (xs, -1, 0) := by
  obtain ⟨ys, x, rfl⟩ := split1 xs (by omega)
  have hx := hp x (by simp)
  simp at h1 h2
  unfold runA
  rw [if_neg (by simp; omega)]
  have e1 : act 6 0 (ys ++ [x]) = ys ++ [x ^ (pN - 2) % pN] := turnL_eq (fun x => x ^ (pN - 2) % pN) ys x
  have e2 : act 6 0 (ys ++ [x ^ (pN - 2) % pN]) = ys ++ [x] := (turnL_eq (fun x => x ^ (pN - 2) % pN) ys _).trans (by rw [p_inv_twice hx])
  refine (runL_ok 6 0 _ 0 _ (by decide) (by simp [needN, needT]) (by rw [e1]; simp; omega)).trans ?_
  rw [e1]
  refine (runL_ok 6 0 _ _ _ (by decide) (by simp [needN, needT]) (by rw [e2]; simp; omega)).trans ?_
  rw [e2]
  rfl
theorem one_lt_p : 1 < pN := by decide
theorem undo5 (xs : List Nat) (h1 : 2 ≤ xs.length) (h2 : xs.length ≤ 60) (hp : ∀ x ∈ xs, x < pN) : runA [(7, 0), (7, 1), (10, 0), (0, 1), (2, 0), (1, 0)] xs = (xs, -1, 0) := by
  obtain ⟨ys, x, rfl⟩ := split1 xs (by omega)
  have hx := hp x (by simp)
  simp at h1 h2
  unfold runA
  rw [if_neg (by simp; omega)]
  have e1 : act 7 0 (ys ++ [x]) = ys ++ [x] ++ [x] := by
    show ys ++ [x] ++ [(ys ++ [x]).getD ((ys ++ [x]).length - 1 - 0) 0] = _
    rw [show (ys ++ [x]).length - 1 - 0 = ys.length by simp, getD_top]
  have e2 : act 7 1 (ys ++ [x] ++ [x]) = ys ++ [x] ++ [x, x] := by
    show ys ++ [x] ++ [x] ++ [(ys ++ [x] ++ [x]).getD ((ys ++ [x] ++ [x]).length - 1 - 1) 0] = _
    rw [show (ys ++ [x] ++ [x]).length - 1 - 1 = ys.length by simp, show ys ++ [x] ++ [x] = ys ++ [x, x] by simp, getD_low]
    simp
  have e3 : act 10 0 (ys ++ [x] ++ [x, x]) = ys ++ [x] ++ [1] := (joinL_eq samF (ys ++ [x]) x x).trans (by unfold samF; rw [if_pos rfl])
  have e4 : act 0 1 (ys ++ [x] ++ [1]) = ys ++ [x] ++ [1, 1] := by simp [act]
  have e5 : act 2 0 (ys ++ [x] ++ [1, 1]) = ys ++ [x, 0] := (joinL_eq (fun x y => (x + (pN - y)) % pN) (ys ++ [x]) 1 1).trans (by rw [p_sub_self one_lt_p]; simp)
  have e6 : act 1 0 (ys ++ [x, 0]) = ys ++ [x] := (joinL_eq (fun x y => (x + y) % pN) ys x 0).trans (by rw [Nat.add_zero, Nat.mod_eq_of_lt hx])
  refine (runL_ok 7 0 _ 0 _ (by decide) (by simp [needN]) (by rw [e1]; simp; omega)).trans ?_
  rw [e1]
  refine (runL_ok 7 1 _ _ _ (by decide) (by simp [needN]) (by rw [e2]; simp; omega)).trans ?_
  rw [e2]
  refine (runL_ok 10 0 _ _ _ (by decide) (by simp [needN, needT]) (by rw [e3]; simp; omega)).trans ?_
  rw [e3]
  refine (runL_ok 0 1 _ _ _ (by decide) (by simp [needN, needT]) (by rw [e4]; simp; omega)).trans ?_
  rw [e4]
  refine (runL_ok 2 0 _ _ _ (by decide) (by simp [needN, needT]) (by rw [e5]; simp; omega)).trans ?_
  rw [e5]
  refine (runL_ok 1 0 _ _ _ (by decide) (by simp [needN, needT]) (by rw [e6]; simp; omega)).trans ?_
  rw [e6]
  rfl

/-- CalcUndoes' lists of steps. -/
def undoL (v n : Nat) : List (List St) := [[(4, 0), (4, 0)], [(8, 0), (8, 0)], [(7, v % n), (9, 0)], [(0, v), (1, 0), (0, v), (2, 0)], [(6, 0), (6, 0)], [(7, 0), (7, 1), (10, 0), (0, 1), (2, 0), (1, 0)]]
theorem undo_all (xs : List Nat) (h1 : 2 ≤ xs.length) (h2 : xs.length ≤ 60) (hp : ∀ x ∈ xs, x < pN) (v : Nat) (hv : v < pN) (k : Nat) (hk : k < 6) : runA ((undoL v xs.length).getD k []) xs = (xs, -1, 0) := by
  match k, hk with
  | 0, _ => exact undo0 xs h1 h2 hp
  | 1, _ => exact undo1 xs h1 h2
  | 2, _ => exact undo2 xs h1 h2 _ (Nat.mod_lt _ (by omega))
  | 3, _ => exact undo3 xs h1 h2 hp v hv
  | 4, _ => exact undo4 xs h1 h2 hp
  | 5, _ => exact undo5 xs h1 h2 hp
  | k + 6, h => omega
end Go.Proofs.YtjohbepdmnigcaaDoor
