/-
  avouchref04.Times: what its loops keep; the numbers.
-/
import Derived.Test.YtfonpmahcdmajaaDoorWidV
import Derived.BigQuiet
import Derived.Deep.QuietTactic
namespace Go.Proofs.YtfonpmahcdmajaaDoor
open Go.RowKit
set_option linter.unusedVariables false

/-- What is kept: the two factors, and what is left of 2^768; all below the block of what is summed up. -/
structure EnvT (w : World) (A B C : Option Addr) (la lb lc : List Nat) (b9 : Nat) (v : World) : Prop where
  a : Rd v b9 A la.length la
  b : Rd v b9 B lb.length lb
  c : Rd v b9 C lc.length lc
  bel : Below w.heap.size w v
  h0 : w.heap.size ≤ b9
  h1 : b9 ≤ v.heap.size
theorem EnvT.up {w : World} {A B C : Option Addr} {la lb lc : List Nat} {b9 : Nat} {v v' : World} (h : EnvT w A B C la lb lc b9 v) (hb : Below b9 v v') : EnvT w A B C la lb lc b9 v' :=
  ⟨h.a.below hb (Nat.le_refl _), h.b.below hb (Nat.le_refl _), h.c.below hb (Nat.le_refl _), h.bel.trans (hb.mono h.h0), h.h0, Nat.le_trans h.h1 hb.size⟩
/-- The sum so far: 27 digits in a block. -/
structure Acc (b9 : Nat) (v : World) (ws : List Nat) : Prop where
  blk : BlkW v b9 91 ws
  len : ws.length = 27
  d : D32 ws
/-- The number in the block, read off memory: a measure. -/
def aval (w : World) (b : Nat) : Nat := val 4294967296 ((List.range 27).map fun i => cellN w b 0 i)
theorem Acc.aval {b9 : Nat} {v : World} {ws : List Nat} (h : Acc b9 v ws) : aval v b9 = val 4294967296 ws := by
  unfold Go.Proofs.YtfonpmahcdmajaaDoor.aval
  congr 1
  apply List.ext_getElem (by simp [h.len])
  intro i h7 h8
  simp only [List.getElem_map, List.getElem_range]
  unfold cellN
  rw [Nat.zero_add, h.blk.cell h8]
  simp [at64, List.getD_eq_getElem?_getD, List.getElem?_eq_getElem h8]
theorem Acc.below {b9 : Nat} {v v' : World} {ws : List Nat} (h : Acc b9 v ws) (hb : Below v.heap.size v v') : Acc b9 v' ws := ⟨h.blk.below hb h.blk.size, h.len, h.d⟩
theorem Acc.drewN {b9 : Nat} {v : World} {ws : List Nat} (h : Acc b9 v ws) (n : Nat) : Acc b9 (v.drewN n) ws := ⟨h.blk.drewN n, h.len, h.d⟩
theorem setW {b : Nat} {t : TypeId} : ∀ (l old done : List Nat) (v : World), v.heap[b]? = some (.cells (cellsOf64 (done ++ old)).toArray t (0, 0)) → l.length = old.length →
    (v.setCells b done.length (cellsOf64 l)).heap[b]? = some (.cells (cellsOf64 (done ++ l)).toArray t (0, 0))
  | [], [], done, v, h, _ => h
  | [], _ :: _, _, _, _, hl => by simp at hl
  | _ :: _, [], _, _, _, hl => by simp at hl
  | x :: l, y :: old, done, v, h, hl => by
    have h' : (v.setCell ⟨b, done.length, none⟩ (.int .u64 (x : Int))).heap[b]? = some (.cells (cellsOf64 ((done ++ [x]) ++ old)).toArray t (0, 0)) := by
      simp [World.setCell, Array.getElem?_modify, h, cellsOf64]
    have ih := setW l old (done ++ [x]) _ h' (by simpa using hl)
    rw [List.length_append, List.length_singleton, List.append_assoc] at ih
    exact ih
theorem Acc.put {b9 : Nat} {v : World} {ws l : List Nat} (h : Acc b9 v ws) (hl : l.length = 27) (d : D32 l) : Acc b9 (v.setCells b9 0 (cellsOf64 l)) l ∧ Below b9 v (v.setCells b9 0 (cellsOf64 l)) :=
  ⟨⟨⟨setW l ws [] v h.blk.heap (by rw [hl, h.len]), d32_all d⟩, hl, d⟩, below_cells (Nat.le_refl _) _ _ _ (Below.refl _ _)⟩
theorem Acc.set {b9 : Nat} {v : World} {ws : List Nat} (h : Acc b9 v ws) (i x : Nat) (z : Int) (hx : x < 4294967296) (hz : z = (x : Int)) : Acc b9 (v.setCell ⟨b9, i, none⟩ (.int .u64 z)) (ws.set i x) ∧ Below b9 v (v.setCell ⟨b9, i, none⟩ (.int .u64 z)) :=
  ⟨⟨h.blk.setI i x z (Nat.lt_trans hx (by decide)) hz, by rw [List.length_set]; exact h.len, d32_set h.d _ _ hx⟩, (Below.refl b9 v).setCell (p := ⟨b9, i, none⟩) (Nat.le_refl _) _⟩

/-- The digits shifted up by one place, from k on. -/
theorem shift_val {ws zs : List Nat} (hl : ws.length = 27) (hz : zs.length = 27) (h : ∀ j, zs.getD j 0 = if j = 0 then 0 else ws.getD (j - 1) 0) (h26 : ws.getD 26 0 = 0) : val 4294967296 zs = val 4294967296 ws * 4294967296 := by
  have key : ∀ k, pv 4294967296 zs (k + 1) = pv 4294967296 ws k * 4294967296 ∨ 27 < k + 1 := by
    intro k
    induction k with
    | zero =>
      left
      have h0 := h 0
      rw [if_pos rfl] at h0
      rw [pv_succ, pv_zero, pv_zero, h0, Nat.zero_mul]
    | succ k ih =>
      rcases ih with ih | ih
      · left
        rw [pv_succ, ih, h (k + 1), if_neg (by omega), Nat.add_sub_cancel, pv_succ, Nat.pow_succ, Nat.add_mul]
        congr 1
        rw [Nat.mul_assoc]
      · right; omega
  rcases key 26 with e | e
  · have e2 : pv 4294967296 ws 27 = pv 4294967296 ws 26 + ws.getD 26 0 * 4294967296 ^ 26 := pv_succ _ ws 26
    unfold val
    rw [hl, hz, e2, h26, Nat.zero_mul, Nat.add_zero]
    exact e
  · omega
theorem val27 (l : List Nat) (h : l.length = 27) : val 4294967296 l = pv 4294967296 l 24 + l.getD 24 0 * 4294967296 ^ 24 + l.getD 25 0 * 4294967296 ^ 25 + l.getD 26 0 * 4294967296 ^ 26 := by
  have a1 : ∀ k, pv 4294967296 l (k + 3) = pv 4294967296 l k + l.getD k 0 * 4294967296 ^ k + l.getD (k + 1) 0 * 4294967296 ^ (k + 1) + l.getD (k + 2) 0 * 4294967296 ^ (k + 2) := by
    intro k
    rw [pv_succ, pv_succ, pv_succ]
  have a0 : ∀ k, l.length = k → val 4294967296 l = pv 4294967296 l k := by intro k h; unfold val; rw [h]
  rw [a0 27 h]
  exact a1 24
theorem cut_aux (p a b c x y z T : Nat) (hT : T = x) (hy : T * 4294967296 = y) (hc : c = 0) : p + a * x + b * y + c * z = (p + 0 * x + 0 * y + 0 * z) + T * a + T * 4294967296 * b := by
  subst hT hc
  rw [hy]
  simp only [Nat.zero_mul, Nat.add_zero]
  rw [Nat.mul_comm a, Nat.mul_comm b]
theorem T25 : T24 * 4294967296 = 4294967296 ^ 25 := by
  have : ∀ n, 4294967296 ^ n * 4294967296 = 4294967296 ^ (n + 1) := fun n => (Nat.pow_succ _ n).symm
  exact this 24
/-- What is summed up, cut at the 24-th digit. -/
theorem acc_cut {ws zs : List Nat} (hl : ws.length = 27) (hz : zs = (ws.set 24 0).set 25 0) (h26 : ws.getD 26 0 = 0) : val 4294967296 ws = val 4294967296 zs + T24 * ws.getD 24 0 + T24 * 4294967296 * ws.getD 25 0 := by
  have hlz : zs.length = 27 := by rw [hz]; simp [hl]
  have g24 : zs.getD 24 0 = 0 := by rw [hz, getD_set_ne _ _ _ _ (by omega), getD_set_eq _ _ _ (by omega)]
  have g25 : zs.getD 25 0 = 0 := by rw [hz, getD_set_eq _ _ _ (by simp; omega)]
  have g26 : zs.getD 26 0 = 0 := by rw [hz, getD_set_ne _ _ _ _ (by omega), getD_set_ne _ _ _ _ (by omega), h26]
  have e3 : pv 4294967296 zs 24 = pv 4294967296 ws 24 := pv_congr _ _ _ _ fun i hi => by rw [hz, getD_set_ne _ _ _ _ (by omega), getD_set_ne _ _ _ _ (by omega)]
  rw [val27 ws hl, val27 zs hlz, g24, g25, g26, e3]
  exact cut_aux _ _ _ _ _ _ _ T24 rfl T25 h26
theorem acc_top {ws : List Nat} (hl : ws.length = 27) (d : D32 ws) (k : Nat) (hk : k < 27) (h : val 4294967296 ws < 4294967296 ^ k) : ∀ j, k ≤ j → ws.getD j 0 = 0 := by
  intro j hj
  rcases Nat.lt_or_ge j 27 with hj' | hj'
  · rcases Nat.eq_zero_or_pos (ws.getD j 0) with h0 | h0
    · exact h0
    · exfalso
      have e1 : pv 4294967296 ws (j + 1) ≤ val 4294967296 ws := by
        rw [← pv_out _ ws 27 (by omega), pv_mod 4294967296 (by decide) ws d (j + 1), pv_out _ ws 27 (by omega)]
        exact Nat.mod_le _ _
      rw [pv_succ] at e1
      have e2 : 1 * 4294967296 ^ j ≤ ws.getD j 0 * 4294967296 ^ j := Nat.mul_le_mul_right _ h0
      have e3 : 4294967296 ^ k ≤ 4294967296 ^ j := Nat.pow_le_pow_right (by decide) hj
      omega
  · exact getD_out ws j (by omega)
/-- Folding: the number falls, its rest stays. -/
theorem acc_fold (L h1 h2 C M V : Nat) (hV : V = L + T24 * h1 + T24 * 4294967296 * h2) (hC : C + M = T24) (hne : 0 < h1 ∨ 0 < h2) (hM : 0 < M) :
    (L + C * h1 + 4294967296 * C * h2) % M = V % M ∧ L + C * h1 + 4294967296 * C * h2 < V := by
  have e : V = L + C * h1 + 4294967296 * C * h2 + M * (h1 + 4294967296 * h2) := by
    rw [hV, ← hC]
    simp only [Nat.add_mul, Nat.mul_add, Nat.mul_assoc]
    rw [Nat.mul_left_comm C, Nat.mul_left_comm M]
    omega
  refine ⟨?_, ?_⟩
  · rw [e, Nat.add_mul_mod_self_left]
  · have : 0 < M * (h1 + 4294967296 * h2) := Nat.mul_pos hM (by omega)
    omega
end Go.Proofs.YtfonpmahcdmajaaDoor
