/-
  What the double loop of avouchref02.Mul keeps; its numbers.
-/
import Derived.Test.YtjkellpfoogomaaDoorRef2E
import Derived.StillTailTactics
namespace Go.Proofs.YtjkellpfoogomaaDoor
open Go.RowKit
set_option linter.unusedVariables false

/-- The nine multiples of the prime, in a block. -/
structure Nine (w : World) (b k : Nat) (L : List Nat) : Prop where
  blk : BlkW w b 68 L
  len : L.length = 81
  d : D32 L
  v : ∀ j, j < k → val 4294967296 (rowAt L j) = 2 ^ j * pN
theorem Nine.below {w w' : World} {b k B : Nat} {L : List Nat} (h : Nine w b k L) (hb : Below B w w') (hB : b < B) : Nine w' b k L := ⟨h.blk.below hb hB, h.len, h.d, h.v⟩
theorem sets_all {ws r : List Nat} (h : r.length = ws.length) : sets ws 0 r = r := by
  apply List.ext_getElem (by rw [sets_length]; exact h.symm)
  intro i h1 h2
  have e := sets_in r ws 0 i h2 (by omega)
  rw [Nat.zero_add] at e
  simpa [List.getD_eq_getElem?_getD, List.getElem?_eq_getElem h1, List.getElem?_eq_getElem h2] using e

/-- What is kept: the multiples, the number so far (lr), the factor (ly), the bytes. -/
structure MEnv (w0 : World) (bp br b_y : Nat) (A5 : Option Addr) (l5 L ly : List Nat) (wr : World) (lr : List Nat) : Prop where
  n : Nine wr bp 9 L
  r : BlkW wr br 66 lr
  rl : lr.length = 9
  rd : D32 lr
  y : BlkW wr b_y 66 ly
  b : Rd8 wr br A5 32 l5
  bel : Below w0.heap.size w0 wr
  h0 : w0.heap.size ≤ br
  h1 : bp < br
  h2 : br < b_y
theorem MEnv.up {w0 : World} {bp br b_y : Nat} {A5 : Option Addr} {l5 L ly : List Nat} {wr w' : World} {lr : List Nat} (h : MEnv w0 bp br b_y A5 l5 L ly wr lr) (hb : Below wr.heap.size wr w') : MEnv w0 bp br b_y A5 l5 L ly w' lr :=
  ⟨h.n.below hb h.n.blk.size, h.r.below hb h.r.size, h.rl, h.rd, h.y.below hb h.y.size, h.b.below hb (Nat.le_of_lt h.r.size), h.bel.trans (hb.mono h.bel.size), h.h0, h.h1, h.h2⟩
theorem MEnv.put {w0 : World} {bp br b_y : Nat} {A5 : Option Addr} {l5 L ly : List Nat} {wr : World} {lr lm : List Nat} (h : MEnv w0 bp br b_y A5 l5 L ly wr lr) (hl : lm.length = 9) (hd : D32 lm) :
    MEnv w0 bp br b_y A5 l5 L ly (wr.setCells br 0 (cellsOf64 lm)) lm := by
  have hb : Below br wr (wr.setCells br 0 (cellsOf64 lm)) := below_cells (Nat.le_refl _) _ _ _ (Below.refl _ _)
  refine ⟨h.n.below hb h.h1, ?_, hl, hd, BlkW.setsO (by have := h.h2; omega) _ _ h.y, h.b.below hb (Nat.le_refl _), h.bel.trans (hb.mono h.h0), h.h0, h.h1, h.h2⟩
  have h' := BlkW.sets (w := wr) lm 0 h.r hd
  rw [sets_all (by rw [hl, h.rl])] at h'
  exact h'
theorem MEnv.drew {w0 : World} {bp br b_y : Nat} {A5 : Option Addr} {l5 L ly : List Nat} {wr : World} {lr : List Nat} (h : MEnv w0 bp br b_y A5 l5 L ly wr lr) : MEnv w0 bp br b_y A5 l5 L ly wr.drew lr := h.up (Below.refl _ _).drew

theorem Rd8.cellAt {w : World} {B n b off : Nat} {l : List Nat} (h : Rd8 w B (some ⟨b, off, none⟩) n l) {i : Nat} (hi : i < n) : w.cell? ⟨b, off + i, none⟩ = some (.int .u8 (at64 l i)) := by
  obtain ⟨b', off', e, _, hc⟩ := h.cells (by omega)
  simp only [Option.some.injEq, Addr.mk.injEq, and_true] at e
  obtain ⟨rfl, rfl⟩ := e
  exact hc i hi
/-- The load of a long array, among what only reads. -/
theorem still_load {P : Program} {ops : Array Oper} {w : World} {Q : Act → Prop} {a : Act} {o : Oper} {rest : List Oper} (hgd : o.guard = none) (ty : TypeId) (x : Operand) (ho : o.op = .load ty x) (b off : Nat) (hx : a.eval x = .pointer (some ⟨b, off, none⟩))
    (cs : List Value) (d : TypeDesc) (hc : w.rangeAt b off cs) (hu : P.underlying ty = some d) (hd : d.isRow = true) (hi : (P.info? ty).map (·.size) = some cs.length) (h : wpStill P ops w Q rest (a.put o.dst (.agg cs.toArray))) : wpStill P ops w Q (o :: rest) a := by
  refine wpStill_step fun K hK => ?_
  have hw : Region.wanted o (yielded ops a.tmps) = true := by simp [Region.wanted, hgd]
  rw [if_pos hw]
  unfold Oper.still execOp
  simp only [ho, hx, Instr.loadAt, Instr.sureAddr, Sem.run_bind, Sem.run_pure, Result.andThen_ok, run_loadVar_mid w b off ty cs d hc hu hd hi]
  exact ⟨rfl, hK _ h⟩
/-- A byte of a number. -/
theorem byte_of (l : List Nat) (h : allLt8 l) (k : Nat) : l.getD k 0 = val 256 l / 256 ^ k % 256 := by
  have e1 := pv_mod 256 (by decide) l h (k + 1)
  rw [pv_succ, pv_mod 256 (by decide) l h k, Nat.pow_succ, Nat.mod_mul] at e1
  have e2 : l.getD k 0 * 256 ^ k = 256 ^ k * (val 256 l / 256 ^ k % 256) := by omega
  rw [Nat.mul_comm] at e2
  exact Nat.eq_of_mul_eq_mul_left (Nat.pow_pos (by decide)) e2
/-- One byte more. -/
theorem mul_byte (X Y m t : Nat) (ht : t = X / 256 ^ m % 256) : (256 * (X / 256 ^ (m + 1) * Y % pN) + t * Y) % pN = X / 256 ^ m * Y % pN := by
  have e : X / 256 ^ m = 256 * (X / 256 ^ (m + 1)) + t := by
    rw [Nat.pow_succ, ← Nat.div_div_eq_div_mul, ht]; omega
  rw [e, Nat.add_mul, Nat.add_mod, Nat.mul_mod_mod, ← Nat.add_mod, Nat.mul_assoc]
theorem byte_fits {R Y t : Nat} (hR : R < pN) (hY : Y < pN) (ht : t < 256) : 256 * R + t * Y < 2 ^ 9 * pN ∧ 256 * R + t * Y < 4294967296 ^ 9 := by
  have h1 : t * Y ≤ 255 * Y := Nat.mul_le_mul_right _ (by omega)
  have h2 : 2 ^ 9 * pN < 4294967296 ^ 9 := by decide
  have h3 : 256 * R + t * Y < 2 ^ 9 * pN := by omega
  exact ⟨h3, Nat.lt_trans h3 h2⟩
/-- One multiple taken away, or not. -/
theorem cut_one {V k : Nat} (h : V < 2 ^ (k + 1) * pN) (hge : 2 ^ k * pN ≤ V) : V - 2 ^ k * pN < 2 ^ k * pN ∧ (V - 2 ^ k * pN) % pN = V % pN := by
  rw [Nat.pow_succ] at h
  refine ⟨?_, ?_⟩
  · have : 2 ^ k * 2 * pN = 2 ^ k * pN + 2 ^ k * pN := by rw [Nat.mul_comm (2 ^ k) 2, Nat.mul_assoc, Nat.two_mul]
    omega
  · obtain ⟨d, hd⟩ : ∃ d, V = d + 2 ^ k * pN := ⟨V - 2 ^ k * pN, by omega⟩
    rw [hd, Nat.add_sub_cancel, Nat.add_mul_mod_self_right]
end Go.Proofs.YtjkellpfoogomaaDoor
