/-
  Rows in a row of rows: nine rows of nine digits in one block; what avouchref02.Mul's loops keep.
-/
import Derived.Test.YtjkellpfoogomaaDoorRef2D
namespace Go.Proofs.YtjkellpfoogomaaDoor
open Go.RowKit
set_option linter.unusedVariables false

/-- The list ws with r stored from o on. -/
def sets (ws : List Nat) (o : Nat) : List Nat → List Nat
  | [] => ws
  | x :: r => sets (ws.set o x) (o + 1) r
theorem sets_length : ∀ (r ws : List Nat) (o : Nat), (sets ws o r).length = ws.length
  | [], _, _ => rfl
  | x :: r, ws, o => by unfold sets; rw [sets_length r, List.length_set]
theorem sets_out : ∀ (r ws : List Nat) (o j : Nat), (j < o ∨ o + r.length ≤ j) → (sets ws o r).getD j 0 = ws.getD j 0
  | [], _, _, _, _ => rfl
  | x :: r, ws, o, j, h => by
    unfold sets
    rw [sets_out r (ws.set o x) (o + 1) j (by simp only [List.length_cons] at h; omega), getD_set_ne _ _ _ _ (by simp only [List.length_cons] at h; omega)]
theorem sets_in : ∀ (r ws : List Nat) (o j : Nat), j < r.length → o + r.length ≤ ws.length → (sets ws o r).getD (o + j) 0 = r.getD j 0
  | [], _, _, _, h, _ => by simp at h
  | x :: r, ws, o, j, h, hl => by
    simp only [List.length_cons] at h hl
    unfold sets
    rcases j with _ | j
    · rw [sets_out r (ws.set o x) (o + 1) (o + 0) (by omega), Nat.add_zero, getD_set_eq _ _ _ (by omega)]; rfl
    · rw [show o + (j + 1) = (o + 1) + j by omega, sets_in r (ws.set o x) (o + 1) j (by omega) (by rw [List.length_set]; omega)]; rfl
theorem sets_d32 : ∀ (r ws : List Nat) (o : Nat), D32 r → D32 ws → D32 (sets ws o r)
  | [], _, _, _, h => h
  | x :: r, ws, o, hr, h => by
    unfold sets
    exact sets_d32 r _ _ (fun y hy => hr y (by simp [hy])) (d32_set h _ _ (hr x (by simp)))
theorem BlkW.sets {w : World} {b : Nat} {t : TypeId} : ∀ (r : List Nat) {ws : List Nat} (o : Nat) {w : World}, BlkW w b t ws → D32 r → BlkW (w.setCells b o (cellsOf64 r)) b t (Go.Proofs.YtjkellpfoogomaaDoor.sets ws o r)
  | [], _, _, _, h, _ => h
  | x :: r, ws, o, w, h, hr => BlkW.sets (w := w) r (o + 1) (h.set o x (Nat.lt_trans (hr x (by simp)) (by decide))) (fun y hy => hr y (by simp [hy]))
theorem BlkW.setsO {b c : Nat} {t : TypeId} {ws : List Nat} (hne : b ≠ c) : ∀ (vs : List Value) (o : Nat) {w : World}, BlkW w b t ws → BlkW (w.setCells c o vs) b t ws
  | [], _, _, h => h
  | v :: vs, o, w, h => BlkW.setsO hne vs (o + 1) (h.otherC hne)
/-- The k-th row. -/
def rowAt (L : List Nat) (k : Nat) : List Nat := (L.drop (k * 9)).take 9
theorem rowAt_length {L : List Nat} (h : L.length = 81) {k : Nat} (hk : k < 9) : (rowAt L k).length = 9 := by unfold rowAt; simp [h]; omega
theorem rowAt_d32 {L : List Nat} (h : D32 L) (k : Nat) : D32 (rowAt L k) := fun x hx => h x (List.mem_of_mem_drop (List.mem_of_mem_take hx))
theorem rowAt_getD {L : List Nat} {k j : Nat} (hj : j < 9) : (rowAt L k).getD j 0 = L.getD (k * 9 + j) 0 := by
  unfold rowAt
  simp [List.getD_eq_getElem?_getD, hj]
theorem rowAt_val {L : List Nat} (h : L.length = 81) {k : Nat} (hk : k < 9) : val 4294967296 (rowAt L k) = pv 4294967296 (L.drop (k * 9)) 9 := by
  unfold val
  rw [rowAt_length h hk]
  unfold rowAt
  exact pv_take _ _ _ _ (Nat.le_refl _)
theorem rowAt_sets_same {L r : List Nat} (h : L.length = 81) (hr : r.length = 9) {k : Nat} (hk : k < 9) : val 4294967296 (rowAt (sets L (k * 9) r) k) = val 4294967296 r := by
  rw [rowAt_val (by rw [sets_length]; exact h) hk]
  unfold val
  rw [hr]
  refine pv_congr _ _ _ 9 fun i hi => ?_
  rw [getD_drop, sets_in r L (k * 9) i (by omega) (by omega)]
theorem rowAt_sets_other {L r : List Nat} (h : L.length = 81) (hr : r.length = 9) {k j : Nat} (hk : k < 9) (hj : j < 9) (hne : j ≠ k) : val 4294967296 (rowAt (sets L (k * 9) r) j) = val 4294967296 (rowAt L j) := by
  rw [rowAt_val (by rw [sets_length]; exact h) hj, rowAt_val h hj]
  refine pv_congr _ _ _ 9 fun i hi => ?_
  rw [getD_drop, getD_drop, sets_out r L (k * 9) (j * 9 + i) (by omega)]
theorem BlkW.rowRange {w : World} {b : Nat} {t : TypeId} {L : List Nat} (h : BlkW w b t L) (hl : L.length = 81) {k : Nat} (hk : k < 9) : w.rangeAt b (k * 9) (cellsOf64 (rowAt L k)) := fun j v hv => by
  have hj : j < (rowAt L k).length := by
    have := (List.getElem?_eq_some_iff.1 hv).1
    simpa [cellsOf64] using this
  rw [rowAt_length hl hk] at hj
  rw [h.cell (i := k * 9 + j) (by omega), ← hv]
  have hj' : j < (rowAt L k).length := by rw [rowAt_length hl hk]; exact hj
  have e := rowAt_getD (L := L) (k := k) hj
  unfold at64
  rw [← e]
  simp [cellsOf64, List.getElem?_eq_getElem hj', List.getD_eq_getElem?_getD]
theorem BlkW.rowThere {w : World} {b : Nat} {t : TypeId} {L : List Nat} (h : BlkW w b t L) (hl : L.length = 81) {k : Nat} (hk : k < 9) : w.there b (k * 9) 9 := fun j hj => by
  rw [h.cell (i := k * 9 + j) (by omega)]
  exact ⟨rfl, h.frozen _⟩
theorem store9 (b o : Nat) (l : List Nat) (w : World) (h : w.there b o l.length) : (storeCells ⟨b, o, none⟩ (cellsOf64 l)).run Tryd.prog w = .ok () (w.setCells b o (cellsOf64 l)) := by
  have hl : (cellsOf64 l).length = l.length := by simp [cellsOf64]
  exact run_storeCells_cells (P := Tryd.prog) b o (cellsOf64 l) 0 w (fun j hj => by simpa using (h j (by omega)).1) (fun j hj => by simpa using (h j (by omega)).2) (one64 l)

/-- The prime's row, and all nine. -/
def p9 : List Nat := [4026531841, 1138881939, 2042196113, 674490440, 2172737629, 3092268470, 3778125865, 811880050, 0]
theorem p9_of {l : List Nat} (hl : l.length = 9) (hd : D32 l) (hv : val 4294967296 l = pN) : l = p9 :=
  val_inj 4294967296 (by decide) l p9 hd (by intro x hx; simp only [p9, List.mem_cons, List.not_mem_nil, or_false] at hx; omega) hl (hv.trans (by decide))
theorem build81 (l : List Nat) (hl : l = p9) : List.foldl (fun cs x => cs.setIfInBounds x.snd x.fst) Tryd.zeroCells68 (cellsOf64 l).zipIdx = (cellsOf64 (p9 ++ List.replicate 72 0)).toArray := by
  subst hl
  kernel_rfl
theorem size81 : (Tryd.prog.info? 68).map (·.size) = some 81 := by kernel_rfl
end Go.Proofs.YtjkellpfoogomaaDoor
