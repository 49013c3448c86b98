/-
  Lists of like steps; rows of zeros; what avouchlaw03.CalcDepth keeps.
-/
import Derived.Test.YtjohbepdmnigcaaDoorCalG
namespace Go.Proofs.YtjohbepdmnigcaaDoor
open Go.RowKit
set_option linter.unusedVariables false
set_option linter.unusedSimpArgs false

theorem stepE_push (v : Nat) (xs : List Nat) (h : xs.length < 64) : stepE 0 v xs = 0 := by
  unfold stepE
  rw [if_neg (by decide), if_neg (by simp [needN, needT]), if_neg (by simp [act]; omega)]
theorem stepE_push9 (v : Nat) (xs : List Nat) (h : xs.length = 64) : stepE 0 v xs = 9 := by
  unfold stepE
  rw [if_neg (by decide), if_neg (by simp [needN, needT]), if_pos (by simp [act]; omega)]
theorem stepE_drop (xs : List Nat) (h : 1 ≤ xs.length) (h2 : xs.length ≤ 64) : stepE 9 0 xs = 0 := by
  unfold stepE
  rw [if_neg (by decide), show needN (Int.toNat 9) 0 = 1 from rfl, show act (Int.toNat 9) 0 xs = xs.take (xs.length - 1) from rfl, if_neg (by omega), if_neg (by rw [List.length_take]; omega)]
theorem stepE_drop13 (xs : List Nat) (h : xs.length = 0) : stepE 9 0 xs = 13 := by
  unfold stepE
  rw [if_neg (by decide), show needN (Int.toNat 9) 0 = 1 from rfl, if_pos (by omega)]
theorem runL_push (v : Nat) : ∀ m i xs, xs.length + m ≤ 64 → runL (List.replicate m ((0 : Int), v)) i xs = (xs ++ List.replicate m v, -1, 0) := by
  intro m
  induction m with
  | zero => intro i xs h; simp [runL]
  | succ m ih =>
    intro i xs h
    rw [List.replicate_succ, runL, if_pos (stepE_push v xs (by omega)), ih (i + 1) _ (by simp [act]; omega)]
    simp [act, List.replicate_succ]
theorem runL_full (v : Nat) : ∀ m i xs, xs.length + m = 64 → runL (List.replicate (m + 1) ((0 : Int), v)) i xs = ([], ((i + m : Nat) : Int), 9) := by
  intro m
  induction m with
  | zero =>
    intro i xs h
    rw [List.replicate_succ, runL, stepE_push9 v xs (by omega), if_neg (by decide)]
    rfl
  | succ m ih =>
    intro i xs h
    rw [List.replicate_succ, runL, if_pos (stepE_push v xs (by omega)), ih (i + 1) _ (by simp [act]; omega)]
    congr 3; omega
theorem runL_drops : ∀ m i xs, m ≤ xs.length → xs.length ≤ 64 → runL (List.replicate m ((9 : Int), 0)) i xs = (xs.take (xs.length - m), -1, 0) := by
  intro m
  induction m with
  | zero => intro i xs h h2; simp [runL]
  | succ m ih =>
    intro i xs h h2
    rw [List.replicate_succ, runL, if_pos (stepE_drop xs (by omega) h2), ih (i + 1) _ (by simp [act]; omega) (by simp [act]; omega)]
    show ((xs.take (xs.length - 1)).take ((xs.take (xs.length - 1)).length - m), _, _) = _
    rw [List.length_take, List.take_take]
    congr 2
    omega
theorem runL_few : ∀ m i xs, xs.length = m → m ≤ 64 → runL (List.replicate (m + 1) ((9 : Int), 0)) i xs = ([], ((i + m : Nat) : Int), 13) := by
  intro m
  induction m with
  | zero =>
    intro i xs h h2
    rw [List.replicate_succ, runL, stepE_drop13 xs h, if_neg (by decide)]
    rfl
  | succ m ih =>
    intro i xs h h2
    rw [List.replicate_succ, runL, if_pos (stepE_drop xs (by omega) (by omega)), ih (i + 1) _ (by simp [act]; omega) (by omega)]
    congr 3; omega

/-- n elements that are 0. -/
def zerosE (n : Nat) : Array Value := madeCells (Value.agg #[.int .u64 0, .int .u64 0, .int .u64 0, .int .u64 0]).cells (n * 4)
theorem zerosE_at (n i : Nat) (h : i < n * 4) : (zerosE n)[i]? = some (.int .u64 0) := by
  unfold zerosE madeCells
  have : i % 4 < 4 := Nat.mod_lt _ (by decide)
  rw [Array.getElem?_map, Array.getElem?_range]
  simp only [h, if_true, Option.map_some, Option.some.injEq, Value.cells]
  match hm : i % 4, this with
  | 0, _ => simp [hm]
  | 1, _ => simp [hm]
  | 2, _ => simp [hm]
  | 3, _ => simp [hm]
theorem makeE (n : Nat) (hc : n ≤ 1000000) (w : World) : (Instr.makeSlice 25 (.int .i64 (n : Int)) (.int .i64 (n : Int))).run Tryd.prog w =
    .ok (.slice (some ⟨w.heap.size, 0, none⟩) n n) (w.alloc (.cells (zerosE n) 40)) := by
  obtain ⟨i, hi, hz, hs, hb⟩ := info_parts el_info
  have hr := run_make (P := Tryd.prog) w 25 40 i _ Tryd.underlying25 hi hz .i64 .i64 n n (by omega) (by omega) (by rw [hb]; omega) (by omega)
  simp only [Int.toNat_natCast, hs] at hr
  exact hr
/-- Block b is n elements that are 0. -/
structure ZB (w : World) (b n : Nat) : Prop where
  heap : w.heap[b]? = some (.cells (zerosE n) 40 (0, 0))
theorem ZB.size {w : World} {b n : Nat} (h : ZB w b n) : b < w.heap.size := (Array.getElem?_eq_some_iff.1 h.heap).1
theorem ZB.rd {w : World} {b n : Nat} (h : ZB w b n) : RdE w w.heap.size (some ⟨b, 0, none⟩) n (List.replicate n 0) := by
  refine ⟨by simp, fun h0 => ⟨b, 0, rfl, h.size, fun i hi => ⟨0, 0, 0, 0, ?_, ?_, ?_, ?_, ?_⟩⟩⟩
  · rw [show (List.replicate n 0).getD i 0 = 0 by simp [List.getD_eq_getElem?_getD, hi]]
    exact El.zero
  all_goals
    rw [cell_of_row w b _ _ _ (0, 0) h.heap]
    exact zerosE_at n _ (by omega)
theorem ZB.kept {w w' : World} {b n : Nat} {row : Option Nat} (h : ZB w b n) (hg : w.grownBy w' row) (hne : some b ≠ row) : ZB w' b n := ⟨(hg.block b h.size hne).trans h.heap⟩
theorem ZB.below {w w' : World} {b n : Nat} (h : ZB w b n) (hb : Below w.heap.size w w') : ZB w' b n := ⟨(hb.block b h.size).trans h.heap⟩
/-- A row of steps lies elsewhere. -/
theorem ZB.off {w : World} {b n base : Nat} {v : Value} {L : List St} (h : ZB w b n) (hO : OwnS w base v L) : some b ≠ v.ownBlock := by
  rcases hO.row.2 with ⟨rfl, _⟩ | ⟨g', cap', cur', rfl, q1, q2, _⟩
  · simp [Value.ownBlock]
  · intro e
    simp only [Value.ownBlock, Option.some.injEq] at e
    subst e
    rw [h.heap] at q2
    injection q2 with q2
    injection q2 with _ q3
    exact absurd q3 (by decide)

/-- What CalcDepth keeps: its steps, its stack of zeros. -/
structure DepR (w0 wr : World) (v : Value) (L : List St) : Prop where
  s : OwnS wr w0.heap.size v L
  b : Below w0.heap.size w0 wr
structure DepZ (w0 wr : World) (v : Value) (L : List St) (bs n : Nat) : Prop where
  s : OwnS wr w0.heap.size v L
  z : ZB wr bs n
  hz : w0.heap.size ≤ bs
  b : Below w0.heap.size w0 wr
theorem DepR.up {w0 wr w' : World} {v : Value} {L : List St} (h : DepR w0 wr v L) (hb : Below wr.heap.size wr w') : DepR w0 w' v L := ⟨h.s.below hb, h.b.trans (hb.mono h.b.size)⟩
theorem DepZ.up {w0 wr w' : World} {v : Value} {L : List St} {bs n : Nat} (h : DepZ w0 wr v L bs n) (hb : Below wr.heap.size wr w') : DepZ w0 w' v L bs n := ⟨h.s.below hb, h.z.below hb, h.hz, h.b.trans (hb.mono h.b.size)⟩
theorem DepR.snoc {w0 wr w' : World} {v v' : Value} {L : List St} {s : St} (h : DepR w0 wr v L) (hO : OwnS w' w0.heap.size v' (L ++ [s])) (hg : wr.grownBy w' v.ownBlock) : DepR w0 w' v' (L ++ [s]) :=
  ⟨hO, h.b.grown hg h.b.size (fun q hq => (h.s.row.lt q hq).1)⟩
theorem DepZ.snoc {w0 wr w' : World} {v v' : Value} {L : List St} {s : St} {bs n : Nat} (h : DepZ w0 wr v L bs n) (hO : OwnS w' w0.heap.size v' (L ++ [s])) (hg : wr.grownBy w' v.ownBlock) : DepZ w0 w' v' (L ++ [s]) bs n :=
  ⟨hO, h.z.kept hg (h.z.off h.s), h.hz, h.b.grown hg h.b.size (fun q hq => (h.s.row.lt q hq).1)⟩
/-- A store into a row of steps. -/
theorem DepZ.set {w0 wr : World} {g m cap : Nat} {L : List St} {bs n : Nat} (h : DepZ w0 wr (.slice (some ⟨g, 0, none⟩) m cap) L bs n) (i : Nat) (hi : i < L.length) (op : Int) (N : Nat) (hN : N < 18446744073709551616) :
    DepZ w0 ((wr.setCell ⟨g, i * 2, none⟩ (.int .i64 op)).setCell ⟨g, i * 2 + 1, none⟩ (.int .u64 (N : Int))) (.slice (some ⟨g, 0, none⟩) m cap) (L.set i (op, N)) bs n := by
  have hn : m = L.length := by
    rcases h.s.row.2 with ⟨hn, h0⟩ | ⟨g', cap', cur, hv2, _⟩
    · cases hn
    · injection hv2 with _ e _
  subst hn
  have s0 := World.ownsRow.stored h.s.row (i * 2) (.int .i64 op)
  have s1 := World.ownsRow.stored s0.1 (i * 2 + 1) (.int .u64 (N : Int))
  have hg : wr.grownBy ((wr.setCell ⟨g, i * 2, none⟩ (.int .i64 op)).setCell ⟨g, i * 2 + 1, none⟩ (.int .u64 (N : Int))) (some g) := gb_trans s0.2 s1.2
  have e := flatS_set L i (op, N) hi
  simp only at e
  refine ⟨⟨?_, ?_⟩, h.z.kept hg (h.z.off h.s), h.hz, h.b.grown hg h.b.size (fun q hq => (h.s.row.lt q hq).1)⟩
  · rw [List.length_set, ← e]
    exact s1.1
  · intro s hs
    rcases List.mem_or_eq_of_mem_set hs with h' | rfl
    · exact h.s.lt s h'
    · exact hN
theorem OwnS.at_ {w : World} {b : Nat} {v : Value} {L : List St} (h : OwnS w b v L) (h0 : 0 < L.length) : ∃ g cap, v = .slice (some ⟨g, 0, none⟩) L.length cap ∧ L.length ≤ cap ∧ cap ≤ maxLen ∧ b ≤ g ∧ g < w.heap.size ∧ (∀ j, w.frozen? ⟨g, j, none⟩ = false) ∧
    ∀ i, i < L.length → w.cell? ⟨g, i * 2, none⟩ = some (.int .i64 (L.getD i (0, 0)).1) ∧ w.cell? ⟨g, i * 2 + 1, none⟩ = some (.int .u64 (((L.getD i (0, 0)).2 : Nat) : Int)) := by
  rcases h.row.2 with ⟨rfl, hn⟩ | ⟨g, cap, cur, hv, hb, hg, hc, hm, _, ht⟩
  · omega
  · obtain ⟨A, c, hv2, q1, q2, q3⟩ := h.rd
    rw [hv] at hv2
    injection hv2 with e1 e2 e3
    subst e1 e3
    obtain ⟨b', off', e, hbB, hcell⟩ := q3.cells h0
    injection e with e
    injection e with e4 e5
    subst e4 e5
    have hrow := h.row
    rw [hv] at hrow
    refine ⟨g, cap, hv, hc, hm, hb, hbB, fun j => World.ownsRow.frozenAt hrow j, fun i hi => ?_⟩
    have := hcell i hi
    simp only [Nat.zero_add] at this
    exact this
theorem set_rep (k m : Nat) (a b : St) (h : k < m) : (List.replicate k a ++ List.replicate (m - k) b).set k a = List.replicate (k + 1) a ++ List.replicate (m - (k + 1)) b := by
  rw [List.set_append_right _ _ (by simp)]
  obtain ⟨q, hq⟩ : ∃ q, m - k = q + 1 := ⟨m - k - 1, by omega⟩
  rw [hq, List.replicate_succ, show m - (k + 1) = q by omega, List.replicate_succ' (n := k)]
  simp
theorem rep_take (k m : Nat) (a : St) (h : k ≤ m) : (List.replicate m a).take k = List.replicate k a := by
  rw [List.take_replicate, Nat.min_eq_left h]
/-- l[k:] of a row of steps: somewhere, the rest of them. -/
theorem cutS_eq {w : World} {B m : Nat} {L : List St} (g cap k : Nat) (h : RdS w B (some ⟨g, 0, none⟩) m L) (hk : k ≤ m) (hm : m ≤ cap) :
    ∃ A1, (∀ w, (Instr.slice 32 (.slice (some ⟨g, 0, none⟩) m cap) (some (.int .i64 (k : Int))) none none).run Tryd.prog w = .ok (.slice A1 (m - k) (cap - k)) w) ∧ RdS w B A1 (m - k) (L.drop k) := by
  refine ⟨if cap = k then some ⟨g, 0, none⟩ else some ⟨g, k * 2, none⟩, fun w => ?_, ?_⟩
  · have hb := run_sliceBound (P := Tryd.prog) (w := w) .i64 (k : Int) m .sliceB (by omega) (by omega)
    simp [Instr.slice, run_underlying Tryd.underlying32, Instr.sliceBounds, hb, Tryd.sizeOf46, add_flat]
  · by_cases hc : cap = k
    · rw [if_pos hc, show m - k = 0 by omega, List.drop_eq_nil_of_le (by rw [h.len]; omega)]
      exact RdS.nil _ _ _
    · rw [if_neg hc]
      have := h.rest k hk
      rw [Nat.zero_add] at this
      exact this
end Go.Proofs.YtjohbepdmnigcaaDoor
