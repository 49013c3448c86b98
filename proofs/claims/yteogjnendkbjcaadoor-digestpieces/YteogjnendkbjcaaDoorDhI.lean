import Derived.Test.YteogjnendkbjcaaDoorDhG
import Derived.Test.YteogjnendkbjcaaDoorKLb
/-
  avouchlaw07.speaks: what the call does.
-/
namespace Go.Proofs.YteogjnendkbjcaaDoor
open Go.RowKit
set_option linter.unusedVariables false
set_option linter.unusedSimpArgs false

/-- 32 bytes laid into a new variable. -/
theorem new_32 (w : World) {D : List Nat} (h : D.length = 32) (hlt : allLt8 D) : (storeCells ⟨w.heap.size, 0, none⟩ (cells8 D)).run Tryd.prog (w.alloc (o32d 24)) = .ok () ((w.alloc (o32d 24)).setCells w.heap.size 0 (cells8 D)) ∧
    BlkB ((w.alloc (o32d 24)).setCells w.heap.size 0 (cells8 D)) w.heap.size 24 D ∧ Below w.heap.size w ((w.alloc (o32d 24)).setCells w.heap.size 0 (cells8 D)) := by
  have h0 := o32d_new w 24
  have hth := h0.there
  rw [z32d_len] at hth
  exact ⟨store8 w.heap.size D _ (by rw [h]; exact hth), h0.overB D (by rw [h, z32d_len]) hlt, below_cells (Nat.le_refl _) _ _ _ ((Below.refl _ _).alloc (Nat.le_refl _) _)⟩
theorem dig_nil4 : (dig []).getD 0 0 = 167 ∧ (dig []).getD 1 0 = 255 ∧ (dig []).getD 2 0 = 198 ∧ (dig []).getD 3 0 = 248 := by
  have h := dig_nil
  have key : ∀ i, i < 4 → (dig []).getD i 0 = ((dig []).take 4).getD i 0 := fun i hi => by
    rw [List.getD_eq_getElem?_getD, List.getD_eq_getElem?_getD, List.getElem?_take_of_lt hi]
  rw [key 0 (by decide), key 1 (by decide), key 2 (by decide), key 3 (by decide), h]
  decide

set_option maxRecDepth 20000 in
set_option maxHeartbeats 1000000 in
theorem speaks7_c (w : World) (hG : GlobK w) : Calls Tryd.prog 7 #[] w fun e w' => e = .returned (.bool true) ∧ Below w.heap.size w w' := by
  go_enter Tryd.func7, Tryd.ntmps7
  go_wp2_with fail
  refine (dsum_c none 0 0 [] w (RdP.nil _ _ _) (by decide) hG).mono ?_
  rintro e w1 ⟨rfl, hb1⟩
  rw [show ([] : List (List Nat)).flatten = [] from rfl]
  obtain ⟨g0, g1, g2, g3⟩ := dig_nil4
  have HDL := hid (dig_len [])
  have HDB := hid (dig_lt [])
  generalize dig [] = D at *
  obtain ⟨hst, hn, hbn⟩ := new_32 w1 HDL.out HDB.out
  have hl8 : (cells8 D).length = 32 := by rw [c8_len, HDL.out]
  have hz := zero32d
  have hlz : (cells8 z32d).length = 32 := by rw [c8_len, z32d_len]
  have c0 := hn.cell (i := 0) (by rw [HDL.out]; decide)
  have c1 := hn.cell (i := 1) (by rw [HDL.out]; decide)
  have c2 := hn.cell (i := 2) (by rw [HDL.out]; decide)
  have c3 := hn.cell (i := 3) (by rw [HDL.out]; decide)
  rw [show at64 D 0 = 167 by unfold at64; rw [g0]; rfl] at c0
  rw [show at64 D 1 = 255 by unfold at64; rw [g1]; rfl] at c1
  rw [show at64 D 2 = 198 by unfold at64; rw [g2]; rfl] at c2
  rw [show at64 D 3 = 248 by unfold at64; rw [g3]; rfl] at c3
  have HF := hid (bchain hb1 hbn)
  clear hn hbn hb1 g0 g1 g2 g3 HDL HDB hG
  unfold o32d at hst c0 c1 c2 c3 HF
  go_wp2
  go_ret
  exact ⟨rfl, HF.out⟩
end Go.Proofs.YteogjnendkbjcaaDoor
/-
  Parts that a law hands to digest.Sum; digests held against each other. Helpers for the laws of stage 7.
-/
namespace Go.Proofs.YteogjnendkbjcaaDoor
open Go.RowKit
set_option linter.unusedVariables false
set_option linter.unusedSimpArgs false

/-- One part, two parts, in a slice that was just built. -/
theorem RdP.one {w : World} {A : Option Addr} {n c : Nat} {b : List Nat} (t : TypeId) (ha : Rd8 w w.heap.size A n b) (hc : n ≤ c) : RdP (w.alloc (.cells #[.slice A n c] t)) (w.alloc (.cells #[.slice A n c] t)).heap.size (some ⟨w.heap.size, 0, none⟩) 1 [b] := by
  have hb := (Below.refl w.heap.size w).alloc (Nat.le_refl _) (.cells #[.slice A n c] t)
  refine ⟨rfl, fun _ => ⟨w.heap.size, 0, rfl, by simp, fun r hr => ?_⟩⟩
  obtain rfl : r = 0 := by omega
  exact ⟨A, n, c, by rw [cell_of_row _ w.heap.size (0 + 0) _ _ (0, 0) (heap_alloc_new w _)]; rfl, hc, ha.up hb (Nat.le_refl _)⟩
theorem RdP.two {w : World} {A A' : Option Addr} {n c n' c' : Nat} {b b' : List Nat} (t : TypeId) (ha : Rd8 w w.heap.size A n b) (hc : n ≤ c) (ha' : Rd8 w w.heap.size A' n' b') (hc' : n' ≤ c') :
    RdP (w.alloc (.cells #[.slice A n c, .slice A' n' c'] t)) (w.alloc (.cells #[.slice A n c, .slice A' n' c'] t)).heap.size (some ⟨w.heap.size, 0, none⟩) 2 [b, b'] := by
  have hb := (Below.refl w.heap.size w).alloc (Nat.le_refl _) (.cells #[.slice A n c, .slice A' n' c'] t)
  refine ⟨rfl, fun _ => ⟨w.heap.size, 0, rfl, by simp, fun r hr => ?_⟩⟩
  match r, hr with
  | 0, _ => exact ⟨A, n, c, by rw [cell_of_row _ w.heap.size (0 + 0) _ _ (0, 0) (heap_alloc_new w _)]; rfl, hc, ha.up hb (Nat.le_refl _)⟩
  | 1, _ => exact ⟨A', n', c', by rw [cell_of_row _ w.heap.size (0 + 1) _ _ (0, 0) (heap_alloc_new w _)]; rfl, hc', ha'.up hb (Nat.le_refl _)⟩
theorem sz8 (w : World) : (sizeOf 5).run Tryd.prog w = .ok 1 w := by kernel_rfl
theorem run_equalIn_bytesk {P : Program} (w : World) (d : Nat) (t e : TypeId) (n : Nat) (ht : P.underlying t = some (.array n e)) (he : P.underlying e = some (.int .u8)) (hsz : ∀ w, (sizeOf e).run P w = .ok 1 w)
    (xs ys : List Nat) (hx : xs.length = n) (hy : ys.length = n) :
    (Op.equalIn (d + 2) t (.agg (cells8 xs).toArray) (.agg (cells8 ys).toArray)).run P w = .ok (decide (xs = ys)) w := by
  rw [← all_range_k xs ys (hx.trans hy.symm), hx, List.range_eq_range', Op.equalIn]
  simp only [Sem.run_bind, run_underlying ht, Result.andThen_ok, hsz, Std.Legacy.Range.forIn_eq_forIn_range', Std.Legacy.Range.size, Nat.sub_zero, Nat.add_sub_cancel, Nat.div_one]
  have hl : ∀ i ∈ List.range' 0 n 1, i < n := fun i hi => by simpa using (List.mem_range'_1.1 hi).2
  generalize List.range' 0 n 1 = l at hl ⊢
  induction l with
  | nil => simp
  | cons i l ih =>
    have hi : i < n := hl i (by simp)
    have px : (part e (cells8 xs).toArray (i * 1)).run P w = .ok (.int .u8 ((xs.getD i 0 : Nat) : Int)) w := by
      simp [part, isAgg, cells8, run_underlying he, List.getD, List.getElem?_eq_getElem (show i < xs.length by omega)]
    have py : (part e (cells8 ys).toArray (i * 1)).run P w = .ok (.int .u8 ((ys.getD i 0 : Nat) : Int)) w := by
      simp [part, isAgg, cells8, run_underlying he, List.getD, List.getElem?_eq_getElem (show i < ys.length by omega)]
    have pe : (Op.equalIn (d + 1) e (.int .u8 ((xs.getD i 0 : Nat) : Int)) (.int .u8 ((ys.getD i 0 : Nat) : Int))).run P w = .ok (xs.getD i 0 == ys.getD i 0) w := by
      rw [run_equalIn_int w d e .u8 .u8 _ _ he]
      congr 1
      rw [Bool.eq_iff_iff]
      simp only [beq_iff_eq]
      omega
    simp only [List.forIn_cons, Sem.run_bind, px, py, pe, Result.andThen_ok, List.all_cons]
    cases hb : (xs.getD i 0 == ys.getD i 0)
    · simp
    · simp only [Bool.not_true, Bool.false_eq_true, if_false, Sem.run_pure, Result.andThen_ok, Bool.true_and]
      exact ih fun j hj => hl j (by simp [hj])
theorem same_32 (w : World) {l : List Nat} (hl : l.length = 32) : (Op.equalIn 10000 24 (.agg (cells8 l).toArray) (.agg (cells8 l).toArray)).run Tryd.prog w = .ok true w := by
  have h := run_equalIn_bytesk (P := Tryd.prog) w 9998 24 5 32 Tryd.underlying24 Tryd.underlying5 sz8 l l hl hl
  rw [decide_eq_true rfl] at h
  exact h
theorem conv_32 {v : World} {p : Nat} {t : TypeId} {D : List Nat} (h : BlkB v p t D) (hD : D.length = 32) (c : Nat) : (convert 22 9 (.slice (some ⟨p, 0, none⟩) 32 c)).run Tryd.prog v = .ok (.string (strOfNums (D.map fun (x : Nat) => (x : Int)))) v := by
  have hr := h.rd h.size
  rw [hD] at hr
  exact conv8l hr (by decide) c
end Go.Proofs.YteogjnendkbjcaaDoor
