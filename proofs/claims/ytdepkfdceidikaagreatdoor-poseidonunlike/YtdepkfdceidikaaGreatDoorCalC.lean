import Derived.Test.YtdepkfdceidikaaGreatDoorPsA
import Derived.Test.YtdepkfdceidikaaGreatDoorPsD
import Derived.Test.YtdepkfdceidikaaGreatDoorGnH
import Derived.Test.YtdepkfdceidikaaGreatDoorCalA
import Derived.Deep.RegionWith
import Derived.MapKept
import Derived.Maps.OwnOps
/-
  A permutation as it lies in a block: the Once (three cells), the constants and the matrix (816 words that a function tells).
-/
namespace Go.Proofs.YtdepkfdceidikaaGreatDoor
open Go.RowKit
set_option linter.unusedVariables false

/-- d: done; m: the lock; f: the words. -/
noncomputable def pclB (d m : Int) (f : Nat → Int) : List Value := [.int .u32 d, .int .i32 m, .int .u32 0] ++ wds 816 f
noncomputable def pcl (d m : Int) (f : Nat → Int) : List Value := Classical.choose (p := fun l : List Value => l = pclB d m f) ⟨_, rfl⟩
theorem pcl_eq (d m : Int) (f : Nat → Int) : pcl d m f = [.int .u32 d, .int .i32 m, .int .u32 0] ++ wds 816 f := Classical.choose_spec (p := fun l : List Value => l = pclB d m f) ⟨_, rfl⟩
theorem pcl_len (d m : Int) (f : Nat → Int) : (pcl d m f).length = 819 := by rw [pcl_eq, List.length_append, wds_len]; rfl
theorem pcl_0 (d m : Int) (f : Nat → Int) : (pcl d m f)[0]? = some (.int .u32 d) := by rw [pcl_eq]; rfl
theorem pcl_1 (d m : Int) (f : Nat → Int) : (pcl d m f)[1]? = some (.int .i32 m) := by rw [pcl_eq]; rfl
theorem pcl_set0 (d m x : Int) (f : Nat → Int) : (pcl d m f).set 0 (.int .u32 x) = pcl x m f := by rw [pcl_eq, pcl_eq]; rfl
theorem pcl_set1 (d m x : Int) (f : Nat → Int) : (pcl d m f).set 1 (.int .i32 x) = pcl d x f := by rw [pcl_eq, pcl_eq]; rfl
theorem pcl_sub (d m : Int) (f : Nat → Int) (o n : Nat) (h : o + n ≤ 816) : ((pcl d m f).drop (3 + o)).take n = wds n fun k => f (o + k) := by
  rw [pcl_eq, ← List.drop_drop]
  exact wds_sub 816 o n f h
theorem pcl_over (d m : Int) (f g : Nat → Int) (o n : Nat) (h : o + n ≤ 816) : (pcl d m f).take (3 + o) ++ wds n g ++ (pcl d m f).drop (3 + o + n) = pcl d m (fput f o n g) := by
  have e1 : (pcl d m f).take (3 + o) = [.int .u32 d, .int .i32 m, .int .u32 0] ++ (wds 816 f).take o := by
    rw [pcl_eq, List.take_append, List.take_of_length_le (by simp)]
    simp
  have e2 : (pcl d m f).drop (3 + o + n) = (wds 816 f).drop (o + n) := by
    rw [pcl_eq, Nat.add_assoc, ← List.drop_drop]
    rfl
  rw [e1, e2, pcl_eq, List.append_assoc, List.append_assoc, ← List.append_assoc _ (wds n g), wds_over 816 o n f g h]
/-- Block b is a permutation. -/
abbrev PB (w : World) (b : Nat) (d m : Int) (f : Nat → Int) : Prop := BlkV w b 75 (pcl d m f)
theorem PB.done {w : World} {b : Nat} {d m : Int} {f : Nat → Int} (h : PB w b d m f) : w.cell? ⟨b, 0, none⟩ = some (.int .u32 d) := by
  have := BlkV.cell h (i := 0) (by rw [pcl_len]; decide)
  rw [this, ← List.getElem?_eq_getElem (by rw [pcl_len]; decide), pcl_0]
theorem PB.lock {w : World} {b : Nat} {d m : Int} {f : Nat → Int} (h : PB w b d m f) : w.cell? ⟨b, 1, none⟩ = some (.int .i32 m) := by
  have := BlkV.cell h (i := 1) (by rw [pcl_len]; decide)
  rw [this, ← List.getElem?_eq_getElem (by rw [pcl_len]; decide), pcl_1]
theorem PB.set0 {w : World} {b : Nat} {d m : Int} {f : Nat → Int} (h : PB w b d m f) (x : Int) : PB (w.setCell ⟨b, 0, none⟩ (.int .u32 x)) b x m f := by
  have := BlkV.set h 0 (.int .u32 x)
  rw [pcl_set0] at this
  exact this
theorem PB.set1 {w : World} {b : Nat} {d m : Int} {f : Nat → Int} (h : PB w b d m f) (x : Int) : PB (w.setCell ⟨b, 1, none⟩ (.int .i32 x)) b d x f := by
  have := BlkV.set h 1 (.int .i32 x)
  rw [pcl_set1] at this
  exact this
theorem PB.sub {w : World} {b : Nat} {d m : Int} {f : Nat → Int} (h : PB w b d m f) (o n : Nat) (hn : o + n ≤ 816) : w.rangeAt b (3 + o) (wds n fun k => f (o + k)) := by
  have := BlkV.rangeAt h (3 + o) n (by rw [pcl_len]; omega)
  rw [pcl_sub d m f o n hn] at this
  exact this
theorem PB.there {w : World} {b : Nat} {d m : Int} {f : Nat → Int} (h : PB w b d m f) (o n : Nat) (g : Nat → Int) (hn : o + n ≤ 816) : w.there b (3 + o) (wds n g).toArray.size := by
  rw [List.size_toArray, wds_len]
  exact BlkV.there h (3 + o) n (by rw [pcl_len]; omega)
theorem PB.lay {w : World} {b : Nat} {d m : Int} {f : Nat → Int} (h : PB w b d m f) (o n : Nat) (g : Nat → Int) (hn : o + n ≤ 816) : PB (w.setCells b (3 + o) (wds n g)) b d m (fput f o n g) := by
  have := BlkV.over (wds n g) (3 + o) w _ h (by rw [wds_len, pcl_len]; omega)
  rw [wds_len, pcl_over d m f g o n hn] at this
  exact this
theorem PB.new (w : World) : PB (w.alloc (.cells (pcl 0 0 z0).toArray 75)) w.heap.size 0 0 z0 := BlkV.new w _ _
theorem zeroP (v : World) : (zeroValue 75).run Tryz.prog v = .ok (.agg (pcl 0 0 z0).toArray) v := by
  rw [pcl_eq, wds_eq]
  kernel_rfl
/-- The constants of a source; the first k of them stand. -/
noncomputable def pgs : Nat := gS 254 3 8 57
def CP (k : Nat) (f : Nat → Int) : Prop := ∀ j, j < k → Ef f (j * 4) ((gelK j (gS 254 3 8 57) : Nat) : Int)
theorem CP.zero (f : Nat → Int) : CP 0 f := fun j hj => absurd hj (Nat.not_lt_zero j)
theorem CP.put {k : Nat} {f g : Nat → Int} (h : CP k f) (hg : Ez (.agg (wds 4 g).toArray) ((gelK k (gS 254 3 8 57) : Nat) : Int)) : CP (k + 1) (fput f (k * 4) 4 g) := by
  intro j hj
  rcases Nat.lt_or_ge j k with h1 | h1
  · exact (h j h1).putO (Or.inl (by omega))
  · obtain rfl : j = k := by omega
    exact Ef.put _ hg
theorem CP.putM {f g : Nat → Int} {k : Nat} (h : CP k f) (hk : k ≤ 195) : CP k (fput f 780 36 g) := fun j hj => (h j hj).putO (Or.inl (by omega))
theorem CP.at_ {f : Nat → Int} (h : CP 195 f) {r : Nat} (hr : r < 65) : VecZ (fun k => f (r * 12 + k)) (pcZ r) := by
  refine ⟨fun i hi => ?_⟩
  have h1 := h (3 * r + i) (by omega)
  have h2 : Ef f (r * 12 + i * 4) (pcZ r i) := by
    unfold pcZ
    rw [if_pos hr]
    exact h1.eq (by omega) rfl
  exact h2.shift
theorem MatZ.laid {f g : Nat → Int} {M : MZ} (h : MatZ g M) : MatZ (fun k => fput f 780 36 g (780 + k)) M := by
  refine ⟨fun i j hi hj => ?_⟩
  refine ⟨?_⟩
  rw [wds_ext (g := fun k => g (i * 12 + j * 4 + k)) fun k hk => by
    show fput f 780 36 g (780 + (i * 12 + j * 4 + k)) = _
    exact fput_in (by omega)]
  exact (h.at_ i j hi hj).out
theorem MatZ.kept {f g : Nat → Int} {M : MZ} {o n : Nat} (h : MatZ (fun k => f (780 + k)) M) (ho : o + n ≤ 780) : MatZ (fun k => fput f o n g (780 + k)) M := by
  refine ⟨fun i j hi hj => ⟨?_⟩⟩
  rw [wds_ext (g := fun k => f (780 + (i * 12 + j * 4 + k))) fun k hk => by
    show fput f o n g (780 + (i * 12 + j * 4 + k)) = _
    exact fput_out (by omega)]
  exact (h.at_ i j hi hj).out
/-- A permutation that may be used: not yet found, or all found. -/
def PI (w : World) (b : Nat) : Prop := ∃ (d : Int) (f : Nat → Int), PB w b d 0 f ∧ (d = 0 ∧ f = z0 ∨ d = 1 ∧ CP 195 f ∧ MatZ (fun k => f (780 + k)) mzCauchy)
/-- A permutation that is found stays as it is. -/
def Kp (b : Nat) (w w' : World) : Prop := ∀ g, PB w b 1 0 g → PB w' b 1 0 g
theorem Kp.refl (b : Nat) (w : World) : Kp b w w := fun _ h => h
theorem Kp.trans {b : Nat} {x y z : World} (h : Kp b x y) (k : Kp b y z) : Kp b x z := fun g q => k g (h g q)
theorem Kp.of {b : Nat} {w w' : World} (h : Below w.heap.size w w') : Kp b w w' := fun _ q => BlkV.up q h
theorem Kp.put {b c : Nat} {w v : World} (h : Kp b w v) (hne : b ≠ c) (vs : List Value) (o : Nat) : Kp b w (v.setCells c o vs) := fun g q => BlkV.put hne vs o _ (h g q)
theorem PB.inj0 {w : World} {b : Nat} {d d' m m' : Int} {f f' : Nat → Int} (h : PB w b d m f) (k : PB w b d' m' f') : d = d' := by
  have := h.done
  rw [k.done] at this
  simpa using this.symm
theorem PI.size {w : World} {b : Nat} (h : PI w b) : b < w.heap.size := by
  obtain ⟨d, f, hb, _⟩ := h
  exact BlkV.size hb
theorem PI.up {w w' : World} {b : Nat} (h : PI w b) (hb : Below w.heap.size w w') : PI w' b := by
  obtain ⟨d, f, h1, h2⟩ := h
  exact ⟨d, f, BlkV.up h1 hb, h2⟩
theorem PI.new (w : World) : PI (w.alloc (.cells (pcl 0 0 z0).toArray 75)) w.heap.size := ⟨0, z0, PB.new w, Or.inl ⟨rfl, rfl⟩⟩
end Go.Proofs.YtdepkfdceidikaaGreatDoor
/-
  What calc's pile functions do.
-/
namespace Go.Proofs.YtdepkfdceidikaaGreatDoor
open Go.RowKit
set_option linter.unusedVariables false

/-- A pile of two and more: the cells of the two upper ones. -/
theorem Pile.two {w : World} {b : Nat} {v : Value} {xs : List Nat} {x y : Nat} (h : Pile w b v (xs ++ [x, y])) :
    ∃ g cap, v = .slice (some ⟨g, 0, none⟩) (xs.length + 2) cap ∧ xs.length + 2 ≤ cap ∧ cap ≤ maxLen ∧ b ≤ g ∧ g < w.heap.size ∧ (∀ j, w.frozen? ⟨g, j, none⟩ = false) ∧ ∃ r0 r1 r2 r3 s0 s1 s2 s3 : Int, El (w4 r0 r1 r2 r3) x ∧ El (w4 s0 s1 s2 s3) y ∧
      (w.cell? ⟨g, xs.length * 4, none⟩ = some (.int .u64 r0) ∧ w.cell? ⟨g, xs.length * 4 + 1, none⟩ = some (.int .u64 r1) ∧ w.cell? ⟨g, xs.length * 4 + 2, none⟩ = some (.int .u64 r2) ∧ w.cell? ⟨g, xs.length * 4 + 3, none⟩ = some (.int .u64 r3)) ∧
      (w.cell? ⟨g, (xs.length + 1) * 4, none⟩ = some (.int .u64 s0) ∧ w.cell? ⟨g, (xs.length + 1) * 4 + 1, none⟩ = some (.int .u64 s1) ∧ w.cell? ⟨g, (xs.length + 1) * 4 + 2, none⟩ = some (.int .u64 s2) ∧ w.cell? ⟨g, (xs.length + 1) * 4 + 3, none⟩ = some (.int .u64 s3)) := by
  obtain ⟨g, cap, hv, hc, hm, hbg, hg, hfr, r0, r1, r2, r3, he, c0, c1, c2, c3⟩ := h.at_ xs.length (by simp)
  obtain ⟨g', cap', hv', hc', hm', hbg', hg', hfr', s0, s1, s2, s3, he', d0, d1, d2, d3⟩ := h.at_ (xs.length + 1) (by simp)
  rw [getD_low] at he
  rw [getD_top2] at he'
  rw [hv] at hv'
  injection hv' with e1 e2 e3
  injection e1 with e1
  injection e1 with e1
  subst e1 e3
  have hn : (xs ++ [x, y]).length = xs.length + 2 := by simp
  rw [hn] at hv hc
  exact ⟨g, cap, hv, hc, hm, hbg, hg, hfr, r0, r1, r2, r3, s0, s1, s2, s3, he, he', ⟨c0, c1, c2, c3⟩, d0, d1, d2, d3⟩

end Go.Proofs.YtdepkfdceidikaaGreatDoor
/-
  Maps from numbers to functions that a call fills by itself; what a step of calc does, with lists of numbers.
-/
namespace Go.Proofs.YtdepkfdceidikaaGreatDoor
open Go.RowKit Go.MapKept
set_option linter.unusedVariables false
set_option linter.unusedSimpArgs false

def ents : Nat → List (Int × Value) → List MapEntry
  | _, [] => []
  | c, x :: l => { key := .int .i64 x.1, val := x.2, born := c } :: ents (c + 1) l
theorem ents_length (l : List (Int × Value)) : ∀ c, (ents c l).length = l.length := by
  induction l with
  | nil => intro c; rfl
  | cons x l ih => intro c; simp [ents, ih]
theorem ents_snoc (l : List (Int × Value)) (x : Int × Value) : ∀ c, ents c (l ++ [x]) = ents c l ++ [{ key := .int .i64 x.1, val := x.2, born := c + l.length }] := by
  induction l with
  | nil => intro c; rfl
  | cons y l ih => intro c; simp only [List.cons_append, ents, ih, List.length_cons]; congr 4; omega
def lk : List (Int × Value) → Int → Option Value
  | [], _ => none
  | x :: l, k => if x.1 = k then some x.2 else lk l k
theorem find_ents (k : Int) (l : List (Int × Value)) : ∀ c i, (lk l k = none → Instr.findNow (.int .i64) (.int .i64 k) (ents c l) i = some none) ∧ (∀ f, lk l k = some f → ∃ j, Instr.findNow (.int .i64) (.int .i64 k) (ents c l) i = some (some (j, f))) := by
  induction l with
  | nil => intro c i; exact ⟨fun _ => rfl, fun f h => by simp [lk] at h⟩
  | cons x l ih =>
    intro c i
    by_cases hx : x.1 = k
    · refine ⟨fun h => by simp [lk, hx] at h, fun f h => ⟨i, ?_⟩⟩
      simp only [lk, hx, if_pos, Option.some.injEq] at h
      simp [ents, Instr.findNow, Instr.sameNow, hx, h]
    · have hk : (k == x.1) = false := by simp; exact fun e => hx e.symm
      obtain ⟨h1, h2⟩ := ih (c + 1) (i + 1)
      refine ⟨fun h => ?_, fun f h => ?_⟩
      · simp only [lk, hx, if_false] at h
        simp [ents, Instr.findNow, Instr.sameNow, hk, h1 h]
      · simp only [lk, hx, if_false] at h
        obtain ⟨j, hj⟩ := h2 f h
        exact ⟨j, by simp [ents, Instr.findNow, Instr.sameNow, hk, hj]⟩

/-- Block b is the map of l. -/
structure FM (w : World) (b : Nat) (l : List (Int × Value)) : Prop where
  heap : w.heap[b]? = some (.map (ents 0 l).toArray l.length)
theorem FM.size {w : World} {b : Nat} {l : List (Int × Value)} (h : FM w b l) : b < w.heap.size := (Array.getElem?_eq_some_iff.1 h.heap).1
theorem FM.kept {w w' : World} {b : Nat} {l : List (Int × Value)} {row : Option Nat} (h : FM w b l) (hg : w.grownBy w' row) (hne : some b ≠ row) : FM w' b l := ⟨(hg.block b h.size hne).trans h.heap⟩
theorem FM.below {w w' : World} {b : Nat} {l : List (Int × Value)} (h : FM w b l) (hb : Below w.heap.size w w') : FM w' b l := ⟨(hb.block b h.size).trans h.heap⟩
theorem isKey_i64 (k : Int) : IsKey (.int .i64) (.int .i64 k) := by simp [IsKey]

theorem fm_insert {w : World} {b : Nat} {l : List (Int × Value)} (h : FM w b l) (t e : TypeId) (ht : Tryz.prog.underlying t = some (.map 3 e)) (k : Int) (f : Value) (hk : lk l k = none) :
    ∃ w', (Instr.mapUpdate t (.map (some b)) (.int .i64 k) f).run Tryz.prog w = .ok () w' ∧ FM w' b (l ++ [(k, f)]) ∧ w.grownBy w' (some b) := by
  refine ⟨{ w with heap := w.heap.setIfInBounds b (.map ((ents 0 l).toArray.push { key := .int .i64 k, val := f, born := l.length }) (l.length + 1)) }, ?_, ⟨?_⟩, ⟨rfl, rfl, rfl, by simp, fun i hi hne => ?_⟩⟩
  · unfold Instr.mapUpdate
    have hf := MapKept.run_findKey (P := Tryz.prog) (w := w) Tryz.underlying3 ((find_ents k l 0 0).1 hk)
    simp only [Sem.run_bind, run_underlying ht, MapKept.run_getObj_map h.heap, MapKept.run_checkKey (P := Tryz.prog) (w := w) Tryz.underlying3 (isKey_i64 k) false 9999, hf, MapKept.run_setObj_map _ h.heap, Result.andThen_ok]
  · have := (heap_set (o' := .map ((ents 0 l).toArray.push { key := .int .i64 k, val := f, born := l.length }) (l.length + 1)) h.heap).1
    rw [this, ents_snoc]
    simp
  · exact (heap_set h.heap).2 i (fun e => hne (by rw [e]))
theorem fm_lookup {w : World} {b : Nat} {l : List (Int × Value)} (h : FM w b l) (t e : TypeId) (ht : Tryz.prog.underlying t = some (.map 3 e)) (z : Value) (hz : (zeroValue e).run Tryz.prog w = .ok z w) (k : Int) :
    (Instr.lookup t (.map (some b)) (.int .i64 k) true).run Tryz.prog w = .ok (.tuple #[(lk l k).getD z, .bool (lk l k).isSome]) w := by
  unfold Instr.lookup
  cases hl : lk l k with
  | none =>
    have hf := MapKept.run_findKey (P := Tryz.prog) (w := w) Tryz.underlying3 ((find_ents k l 0 0).1 hl)
    simp [Sem.run_bind, run_underlying ht, MapKept.run_getObj_map h.heap, MapKept.run_checkKey (P := Tryz.prog) (w := w) Tryz.underlying3 (isKey_i64 k) _ 9999, hf, hz, Result.andThen_ok]
  | some f =>
    obtain ⟨j, hj⟩ := (find_ents k l 0 0).2 f hl
    have hf := MapKept.run_findKey (P := Tryz.prog) (w := w) Tryz.underlying3 hj
    simp [Sem.run_bind, run_underlying ht, MapKept.run_getObj_map h.heap, MapKept.run_checkKey (P := Tryz.prog) (w := w) Tryz.underlying3 (isKey_i64 k) _ 9999, hf, Result.andThen_ok]

theorem ins_op {ops : Array Oper} {rest : List Oper} {o : Oper} {a : Act} {Q : Exit → Act → World → Prop} {w : World} (hgd : o.guard = none) (m x v : Operand) (t e : TypeId) (ht : Tryz.prog.underlying t = some (.map 3 e))
    (hop : o.op = Op.insert t m x v) (b : Nat) (l : List (Int × Value)) (k : Int) (f : Value) (hm : a.eval m = .map (some b)) (hx : a.eval x = .int .i64 k) (hv : a.eval v = f) (hF : FM w b l) (hk : lk l k = none)
    (h : ∀ w', FM w' b (l ++ [(k, f)]) → w.grownBy w' (some b) → wpList Tryz.prog ops Q rest (a.put o.dst undef) w') : wpList Tryz.prog ops Q (o :: rest) a w := by
  refine wpList_plain hgd fun K hK => ?_
  obtain ⟨w', hr, h1, h2⟩ := fm_insert hF t e ht k f hk
  unfold Oper.wp
  simp [execOp, hop, hm, hx, hv, hr, Result.andThen]
  exact hK _ _ (h w' h1 h2)
theorem look_op {ops : Array Oper} {rest : List Oper} {o : Oper} {a : Act} {Q : Exit → Act → World → Prop} {w : World} (hgd : o.guard = none) (m x : Operand) (t e : TypeId) (ht : Tryz.prog.underlying t = some (.map 3 e))
    (hop : o.op = Op.lookup t m x true) (b : Nat) (l : List (Int × Value)) (k : Int) (z : Value) (hz : (zeroValue e).run Tryz.prog w = .ok z w) (hm : a.eval m = .map (some b)) (hx : a.eval x = .int .i64 k) (hF : FM w b l) (r : Value) (ok : Bool)
    (hr : (lk l k).getD z = r) (hk : (lk l k).isSome = ok)
    (h : wpList Tryz.prog ops Q rest (a.put o.dst (.tuple #[r, .bool ok])) w) : wpList Tryz.prog ops Q (o :: rest) a w := by
  refine wpList_plain hgd fun K hK => ?_
  have hrun := fm_lookup hF t e ht z hz k
  rw [hr, hk] at hrun
  unfold Oper.wp
  simp [execOp, hop, hm, hx, hrun, Result.andThen]
  exact hK _ _ h

/-! What steps do, with lists of numbers: the last one is on top. -/
def joinL (f : Nat → Nat → Nat) (xs : List Nat) : List Nat := xs.take (xs.length - 2) ++ [f (xs.getD (xs.length - 2) 0) (xs.getD (xs.length - 1) 0)]
def turnL (f : Nat → Nat) (xs : List Nat) : List Nat := xs.take (xs.length - 1) ++ [f (xs.getD (xs.length - 1) 0)]
def swapL (xs : List Nat) : List Nat := xs.take (xs.length - 2) ++ [xs.getD (xs.length - 1) 0, xs.getD (xs.length - 2) 0]
theorem joinL_eq (f : Nat → Nat → Nat) (xs : List Nat) (x y : Nat) : joinL f (xs ++ [x, y]) = xs ++ [f x y] := by
  unfold joinL
  rw [show (xs ++ [x, y]).length - 2 = xs.length by simp, show (xs ++ [x, y]).length - 1 = xs.length + 1 by simp, getD_low, getD_top2, List.take_left]
theorem turnL_eq (f : Nat → Nat) (xs : List Nat) (x : Nat) : turnL f (xs ++ [x]) = xs ++ [f x] := by
  unfold turnL
  rw [show (xs ++ [x]).length - 1 = xs.length by simp, getD_top, List.take_left]
theorem swapL_eq (xs : List Nat) (x y : Nat) : swapL (xs ++ [x, y]) = xs ++ [y, x] := by
  unfold swapL
  rw [show (xs ++ [x, y]).length - 2 = xs.length by simp, show (xs ++ [x, y]).length - 1 = xs.length + 1 by simp, getD_low, getD_top2, List.take_left]
theorem dropL_eq (xs : List Nat) (x : Nat) : (xs ++ [x]).take ((xs ++ [x]).length - 1) = xs := by
  rw [show (xs ++ [x]).length - 1 = xs.length by simp, List.take_left]
theorem split1 (xs : List Nat) (h : 1 ≤ xs.length) : ∃ ys x, xs = ys ++ [x] := by
  refine ⟨xs.dropLast, xs.getLast (fun e => by rw [e] at h; simp at h), (List.dropLast_concat_getLast _).symm⟩
theorem split2 (xs : List Nat) (h : 2 ≤ xs.length) : ∃ ys x y, xs = ys ++ [x, y] := by
  obtain ⟨zs, y, rfl⟩ := split1 xs (by omega)
  obtain ⟨ys, x, rfl⟩ := split1 zs (by simp at h; omega)
  exact ⟨ys, x, y, by simp⟩

def samF (x y : Nat) : Nat := if x = y then 1 else 0
/-- What the k-th Op does. -/
def act (k N : Nat) (xs : List Nat) : List Nat :=
  match k with
  | 0 => xs ++ [N]
  | 1 => joinL (fun x y => (x + y) % pN) xs
  | 2 => joinL (fun x y => (x + (pN - y)) % pN) xs
  | 3 => joinL (fun x y => x * y % pN) xs
  | 4 => turnL (fun x => (pN - x) % pN) xs
  | 5 => turnL (fun x => x * x % pN) xs
  | 6 => turnL (fun x => x ^ (pN - 2) % pN) xs
  | 7 => xs ++ [xs.getD (xs.length - 1 - N) 0]
  | 8 => swapL xs
  | 9 => xs.take (xs.length - 1)
  | _ => joinL samF xs
def needT (k : Nat) : Nat := [0, 2, 2, 2, 1, 1, 1, 1, 2, 1, 2].getD k 0
def needN (k N : Nat) : Nat := if k = 7 then N + 1 else needT k
/-- What is wrong with a step: 0, if nothing. -/
def stepE (op : Int) (N : Nat) (xs : List Nat) : Nat :=
  if op < 0 ∨ 10 < op then 5 else if xs.length < needN op.toNat N then 13 else if 64 < (act op.toNat N xs).length then 9 else 0
def runL : List (Int × Nat) → Nat → List Nat → List Nat × Int × Nat
  | [], _, xs => (xs, -1, 0)
  | s :: l, i, xs => if stepE s.1 s.2 xs = 0 then runL l (i + 1) (act s.1.toNat s.2 xs) else ([], (i : Int), stepE s.1 s.2 xs)
def runA (l : List (Int × Nat)) (xs : List Nat) : List Nat × Int × Nat := if 64 < xs.length then ([], -1, 9) else runL l 0 xs
end Go.Proofs.YtdepkfdceidikaaGreatDoor
