/-
  States as values: loaded whole, held against each other; the card's variables. Helpers for the walks of avouchlaw06.
-/
import Derived.Test.YteogjnendkbjcaaDoorKPh
import Derived.Deep.RegionHeld3
import Derived.Deep.CutBlock
import Derived.Deep.DeepCutAuto
namespace Go.Proofs.YteogjnendkbjcaaDoor
open Go.RowKit
set_option linter.unusedVariables false

theorem agg_st (v : World) : (isAgg 31).run Tryd.prog v = .ok true v := by
  unfold isAgg
  rw [Sem.run_bind, run_underlying Tryd.underlying31 v]
  rfl
theorem agg_w25 (v : World) : (isAgg 30).run Tryd.prog v = .ok true v := by
  unfold isAgg
  rw [Sem.run_bind, run_underlying Tryd.underlying30 v]
  rfl
theorem size_st (v : World) : (sizeOf 31).run Tryd.prog v = .ok 25 v := by kernel_rfl
theorem size_w25 (v : World) : (sizeOf 30).run Tryd.prog v = .ok 25 v := by kernel_rfl
theorem cells_st {v : World} {b : Nat} {t : TypeId} {l : List Nat} (h : BlkW v b t l) (hl : Lanes l) : (loadCellsFrom ⟨b, 0, none⟩ 0 25 #[]).run Tryd.prog v = .ok (cellsOf64 l).toArray v := by
  have e := run_loadCells_list (P := Tryd.prog) v ⟨b, 0, none⟩ (cellsOf64 l) (fun j u hu => by rw [Addr.add_mid]; exact h.range j u hu)
  rw [st_len hl] at e
  exact e
theorem all_range_k : ∀ (xs ys : List Nat), xs.length = ys.length → ((List.range xs.length).all fun i => xs.getD i 0 == ys.getD i 0) = decide (xs = ys)
  | [], [], _ => rfl
  | x :: xs, y :: ys, h => by
    have ih := all_range_k xs ys (by simpa using h)
    rw [List.length_cons, List.range_succ_eq_map, List.all_cons, List.all_map]
    simp only [List.getD_cons_zero, Function.comp_def, List.getD_cons_succ, ih]
    rw [Bool.eq_iff_iff]
    simp
  | [], _ :: _, h => by simp at h
  | _ :: _, [], h => by simp at h
theorem run_equalIn_wordsk {P : Program} (w : World) (d : Nat) (t e : TypeId) (n : Nat) (ht : P.underlying t = some (.array n e)) (he : P.underlying e = some (.int .u64)) (hsz : ∀ w, (sizeOf e).run P w = .ok 1 w)
    (xs ys : List Nat) (hx : xs.length = n) (hy : ys.length = n) :
    (Op.equalIn (d + 2) t (.agg (cellsOf64 xs).toArray) (.agg (cellsOf64 ys).toArray)).run P w = .ok (decide (xs = ys)) w := by
  rw [← all_range_k xs ys (hx.trans hy.symm), hx, List.range_eq_range', Op.equalIn]
  simp only [Sem.run_bind, run_underlying ht, Result.andThen_ok, hsz, Std.Legacy.Range.forIn_eq_forIn_range', Std.Legacy.Range.size, Nat.sub_zero, Nat.add_sub_cancel, Nat.div_one]
  have hl : ∀ i ∈ List.range' 0 n 1, i < n := fun i hi => by simpa using (List.mem_range'_1.1 hi).2
  generalize List.range' 0 n 1 = l at hl ⊢
  induction l with
  | nil => simp
  | cons i l ih =>
    have hi : i < n := hl i (by simp)
    have px : (part e (cellsOf64 xs).toArray (i * 1)).run P w = .ok (.int .u64 ((xs.getD i 0 : Nat) : Int)) w := by
      simp [part, isAgg, cellsOf64, run_underlying he, List.getD, List.getElem?_eq_getElem (show i < xs.length by omega)]
    have py : (part e (cellsOf64 ys).toArray (i * 1)).run P w = .ok (.int .u64 ((ys.getD i 0 : Nat) : Int)) w := by
      simp [part, isAgg, cellsOf64, run_underlying he, List.getD, List.getElem?_eq_getElem (show i < ys.length by omega)]
    have pe : (Op.equalIn (d + 1) e (.int .u64 ((xs.getD i 0 : Nat) : Int)) (.int .u64 ((ys.getD i 0 : Nat) : Int))).run P w = .ok (xs.getD i 0 == ys.getD i 0) w := by
      rw [run_equalIn_int w d e .u64 .u64 _ _ he]
      congr 1
      rw [Bool.eq_iff_iff]
      simp only [beq_iff_eq]
      omega
    simp only [List.forIn_cons, Sem.run_bind, px, py, pe, Result.andThen_ok, List.all_cons]
    cases hb : (xs.getD i 0 == ys.getD i 0)
    · simp
    · simp only [Bool.not_true, Bool.false_eq_true, if_false, Sem.run_pure, Result.andThen_ok, Bool.true_and]
      exact ih fun j hj => hl j (by simp [hj])
/-- States held against each other. -/
theorem eq_st (w : World) {l m : List Nat} (hl : Lanes l) (hm : Lanes m) : (Op.equalIn 10000 31 (.agg (cellsOf64 l).toArray) (.agg (cellsOf64 m).toArray)).run Tryd.prog w = .ok (decide (l = m)) w :=
  run_equalIn_wordsk (P := Tryd.prog) w 9998 31 29 25 Tryd.underlying31 Tryd.underlying29 sz64 l m hl.len hm.len
theorem same_st (w : World) {l : List Nat} (hl : Lanes l) : (Op.equalIn 10000 31 (.agg (cellsOf64 l).toArray) (.agg (cellsOf64 l).toArray)).run Tryd.prog w = .ok true w := by
  have h := eq_st w hl hl
  rw [decide_eq_true rfl] at h
  exact h
/-- A state boxed. -/
theorem boot1 (w : World) {l : List Nat} (hl : Lanes l) : BlkW (w.alloc (oW 31 l)) w.heap.size 31 l ∧ Below w.heap.size w (w.alloc (oW 31 l)) :=
  ⟨oW_new w _ l hl.all, (Below.refl _ _).alloc (Nat.le_refl _) _⟩
theorem BlkW.up {w w' : World} {b : Nat} {t : TypeId} {ws : List Nat} (h : BlkW w b t ws) (hb : Below w.heap.size w w') : BlkW w' b t ws := h.below hb h.size
/-- A state laid into a new variable. -/
theorem new_st (w : World) (t : TypeId) {L : List Nat} (hL : Lanes L) : (storeCells ⟨w.heap.size, 0, none⟩ (cellsOf64 L)).run Tryd.prog (w.alloc (zS t)) = .ok () ((w.alloc (zS t)).setCells w.heap.size 0 (cellsOf64 L)) ∧
    BlkW ((w.alloc (zS t)).setCells w.heap.size 0 (cellsOf64 L)) w.heap.size t L ∧ Below w.heap.size w ((w.alloc (zS t)).setCells w.heap.size 0 (cellsOf64 L)) := by
  have h := zS_new w t
  have hth := h.there
  rw [show l0.length = 25 from rfl] at hth
  exact ⟨store64 w.heap.size L _ (by rw [hL.len]; exact hth), h.overW L (by rw [hL.len]; rfl) hL.all, below_cells (Nat.le_refl _) _ _ _ ((Below.refl _ _).alloc (Nat.le_refl _) _)⟩
end Go.Proofs.YteogjnendkbjcaaDoor
