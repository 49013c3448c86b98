import Derived.Test.YtpjjobophplleaaDoorGnS
import Derived.Test.YtpjjobophplleaaDoorHrN
import Derived.KernelRfl
/-
  A source beside a variable of the document's. Helpers for the walks of stage 8's statements.
-/
namespace Go.Proofs.YtpjjobophplleaaDoor
open Go.RowKit
set_option linter.unusedVariables false

theorem four_cells {w : World} {b : Nat} {t : TypeId} {a0 a1 a2 a3 : Int} (h : BlkV w b t [.int .i64 a0, .int .i64 a1, .int .i64 a2, .int .i64 a3]) :
    w.cell? ⟨b, 0, none⟩ = some (.int .i64 a0) ∧ w.cell? ⟨b, 1, none⟩ = some (.int .i64 a1) ∧ w.cell? ⟨b, 2, none⟩ = some (.int .i64 a2) ∧ w.cell? ⟨b, 3, none⟩ = some (.int .i64 a3) :=
  ⟨h.cell (i := 0) (by simp), h.cell (i := 1) (by simp), h.cell (i := 2) (by simp), h.cell (i := 3) (by simp)⟩
/-- A source, made above B, and a variable of the document's. -/
structure TwoM (B : Nat) (w : World) (p m x y : Nat) (wr : World) : Prop where
  gp : G8 wr p 51 x
  gm : RG wr m y
  hp : B ≤ p
  hm : B ≤ m
  hne : p ≠ m
  hB : B ≤ w.heap.size
  b : Below B w wr
theorem TwoM.left {B : Nat} {w wr w' : World} {p m x y x' : Nat} (h : TwoM B w p m x y wr) (o : Only p wr w') (g : G8 w' p 51 x') : TwoM B w p m x' y w' :=
  ⟨g, o.blk h.gm (Ne.symm h.hne), h.hp, h.hm, h.hne, h.hB, h.b.trans (o.below h.hp (Nat.le_trans h.hB h.b.size))⟩
theorem TwoM.up {B : Nat} {w wr w' : World} {p m x y : Nat} (h : TwoM B w p m x y wr) (hb : Below wr.heap.size wr w') : TwoM B w p m x y w' :=
  ⟨BlkV.up h.gp hb, BlkV.up h.gm hb, h.hp, h.hm, h.hne, h.hB, h.b.trans (hb.mono (Nat.le_trans h.hB h.b.size))⟩
theorem TwoM.put {B : Nat} {w wr : World} {p m x y : Nat} (h : TwoM B w p m x y wr) (z : Nat) : TwoM B w p m x z (wr.setCells m 0 (bcell 80 z.testBit)) :=
  ⟨BlkV.put h.hne _ _ _ h.gp, RG.put z h.gm, h.hp, h.hm, h.hne, h.hB, below_cells h.hm _ _ _ h.b⟩
theorem TwoM.store {B : Nat} {w wr : World} {p m x y : Nat} (h : TwoM B w p m x y wr) (z : Nat) : (storeCells ⟨m, 0, none⟩ (bcell 80 z.testBit)).run Tryd.prog wr = .ok () (wr.setCells m 0 (bcell 80 z.testBit)) := oR_store z h.gm
theorem gOk_nat {a b c d : Int} (h : gOk a b c d) : ∃ a' b' c' d' : Nat, a = a' ∧ b = b' ∧ c = c' ∧ d = d' := by
  unfold gOk at h
  exact ⟨a.toNat, b.toNat, c.toNat, d.toNat, by omega, by omega, by omega, by omega⟩
/-- A new source of the document's, stored into a new variable. -/
theorem TwoM.start {w w1 w2 : World} {p x : Nat} (hp : w.heap.size ≤ p) (g1 : G8 w1 p 51 x) (b1 : Below w.heap.size w w1) (b2 : Below w1.heap.size w1 w2) (y : Nat) :
    (storeCells ⟨w2.heap.size, 0, none⟩ (bcell 80 y.testBit)).run Tryd.prog (w2.alloc (oR 0)) = .ok () ((w2.alloc (oR 0)).setCells w2.heap.size 0 (bcell 80 y.testBit)) ∧ TwoM w.heap.size w p w2.heap.size x y ((w2.alloc (oR 0)).setCells w2.heap.size 0 (bcell 80 y.testBit)) := by
  obtain ⟨h1, h2, h3⟩ := newR w2 y
  have gp2 := BlkV.up g1 b2
  have b12 := b1.trans (b2.mono b1.size)
  exact ⟨h1, ⟨BlkV.up gp2 h3, h2, hp, b12.size, by have := BlkV.size gp2; omega, Nat.le_refl _, b12.trans (h3.mono b12.size)⟩⟩

end Go.Proofs.YtpjjobophplleaaDoor
/-
  Numbers modulo the field's prime, and their multiples by 2^256: plain arithmetic, nothing of the program.
-/
namespace Go.Proofs.YtpjjobophplleaaDoor

/-- The prime; 2^256; what gives 1 with it. -/
def pN : Nat := 21888242871839275222246405745257275088548364400416034343698204186575808495617
def rN : Nat := 115792089237316195423570985008687907853269984665640564039457584007913129639936
def iN : Nat := 9915499612839321149637521777990102151350674507940716049588462388200839649614
theorem pN_pos : 0 < pN := by decide
theorem r_i : rN * iN % pN = 1 := by decide
/-- The form in which a number is kept. -/
def mo (x : Nat) : Nat := x * rN % pN
theorem mo_lt (x : Nat) : mo x < pN := Nat.mod_lt _ pN_pos
theorem mod_cancel {N M : Nat} (hN : N < pN) (hM : M < pN) (h : N * rN % pN = M * rN % pN) : N = M := by
  have e : ∀ X : Nat, X < pN → (X * rN % pN) * iN % pN = X := fun X hX => by
    rw [Nat.mod_mul_mod, Nat.mul_assoc, Nat.mul_mod, r_i, Nat.mul_one, Nat.mod_mod, Nat.mod_eq_of_lt hX]
  rw [← e N hN, ← e M hM, h]
theorem mo_mod (x : Nat) : mo (x % pN) = mo x := by unfold mo; rw [Nat.mod_mul_mod]
theorem mo_inj {x y : Nat} (hx : x < pN) (hy : y < pN) (h : mo x = mo y) : x = y := mod_cancel hx hy h
theorem mo_add (x y : Nat) : (mo x + mo y) % pN = mo ((x + y) % pN) := by
  rw [mo_mod]; unfold mo; rw [← Nat.add_mod, Nat.add_mul]
/-- Of numbers below the prime: the sum, once or not at all lessened by the prime. -/
theorem mo_sum {x y N : Nat} (hN : N < pN) (h : N = mo x + mo y ∨ N + pN = mo x + mo y) : N = mo ((x + y) % pN) := by
  rw [← mo_add]
  rcases h with h | h
  · rw [← h, Nat.mod_eq_of_lt hN]
  · rw [← h, Nat.add_mod_right, Nat.mod_eq_of_lt hN]
theorem mo_diff {x y N : Nat} (hy : y < pN) (hN : N < pN) (h : N + mo y = mo x ∨ N + mo y = mo x + pN) : N = mo ((x + (pN - y)) % pN) := by
  have e : (mo y + mo (pN - y)) % pN = 0 := by
    rw [mo_add, show y + (pN - y) = pN by omega, Nat.mod_self]; rfl
  have h2 : (N + mo y) % pN = mo x := by
    rcases h with h | h
    · rw [h, Nat.mod_eq_of_lt (mo_lt x)]
    · rw [h, Nat.add_mod_right, Nat.mod_eq_of_lt (mo_lt x)]
  have h3 : (N + (mo y + mo (pN - y))) % pN = N := by
    rw [Nat.add_mod, e, Nat.add_zero, Nat.mod_mod, Nat.mod_eq_of_lt hN]
  rw [← mo_add, ← h2, Nat.mod_add_mod, Nat.add_assoc, h3]
theorem mo_prod {x y N : Nat} (hN : N < pN) (h : N * rN % pN = mo x * mo y % pN) : N = mo (x * y % pN) := by
  refine mod_cancel hN (mo_lt _) ?_
  rw [h, mo_mod]
  unfold mo
  rw [Nat.mod_mul_mod, Nat.mul_mod_mod, Nat.mod_mul_mod]
  rw [Nat.mul_mul_mul_comm x rN y rN, Nat.mul_assoc (x * y) rN rN]
/-- A number's form, made by the product with the rest of 2^512. -/
theorem mo_raise {x N : Nat} (hN : N < pN) (h : N * rN % pN = x * 944936681149208446651664254269745548490766851729442924617792859073125903783 % pN) : N = mo x := by
  refine mod_cancel hN (mo_lt _) ?_
  rw [h]
  unfold mo
  rw [Nat.mod_mul_mod, Nat.mul_assoc, show (944936681149208446651664254269745548490766851729442924617792859073125903783 : Nat) = rN * rN % pN by decide, Nat.mul_mod_mod]
/-- Back: the product with 1. -/
theorem mo_back {x N : Nat} (hN : N < pN) (hx : x < pN) (h : N * rN % pN = mo x * 1 % pN) : N = x := by
  refine mod_cancel hN hx ?_
  rw [h, Nat.mul_one, Nat.mod_eq_of_lt (mo_lt x)]; rfl
/-- From the whole numbers, with a multiple of the prime. -/
theorem int_mod {N A B : Nat} {T : Int} (h : (N : Int) * 115792089237316195423570985008687907853269984665640564039457584007913129639936 = (A : Int) * (B : Int) + 21888242871839275222246405745257275088548364400416034343698204186575808495617 * T) : N * rN % pN = A * B % pN := by
  have e1 : ((N * rN : Nat) : Int) = (N : Int) * 115792089237316195423570985008687907853269984665640564039457584007913129639936 := by rw [Int.natCast_mul]; rfl
  have e2 : ((A * B : Nat) : Int) = (A : Int) * (B : Int) := by simp
  have : ((N * rN % pN : Nat) : Int) = ((A * B % pN : Nat) : Int) := by
    rw [Int.natCast_emod, Int.natCast_emod, e1, e2, h]
    exact Int.add_mul_emod_self_left _ _ _
  exact_mod_cast this
end Go.Proofs.YtpjjobophplleaaDoor
