import Derived.Test.YtlpccdbcaffmmaaDoorCalA
import Derived.Deep.RegionWith
import Derived.MapKept
import Derived.Maps.OwnOps
import Derived.Lib.SliceRun
import Derived.Deep.RegionHeld3
import Derived.Deep.CutBlock
import Derived.Deep.DeepCutAuto
/-
  What calc's pile functions do.
-/
namespace Go.Proofs.YtlpccdbcaffmmaaDoor
open Go.RowKit
set_option linter.unusedVariables false

/-- A pile of two and more: the cells of the two upper ones. -/
theorem Pile.two {w : World} {b : Nat} {v : Value} {xs : List Nat} {x y : Nat} (h : Pile w b v (xs ++ [x, y])) :
    ∃ g cap, v = .slice (some ⟨g, 0, none⟩) (xs.length + 2) cap ∧ xs.length + 2 ≤ cap ∧ cap ≤ maxLen ∧ b ≤ g ∧ g < w.heap.size ∧ (∀ j, w.frozen? ⟨g, j, none⟩ = false) ∧ ∃ r0 r1 r2 r3 s0 s1 s2 s3 : Int, El (w4 r0 r1 r2 r3) x ∧ El (w4 s0 s1 s2 s3) y ∧
      (w.cell? ⟨g, xs.length * 4, none⟩ = some (.int .u64 r0) ∧ w.cell? ⟨g, xs.length * 4 + 1, none⟩ = some (.int .u64 r1) ∧ w.cell? ⟨g, xs.length * 4 + 2, none⟩ = some (.int .u64 r2) ∧ w.cell? ⟨g, xs.length * 4 + 3, none⟩ = some (.int .u64 r3)) ∧
      (w.cell? ⟨g, (xs.length + 1) * 4, none⟩ = some (.int .u64 s0) ∧ w.cell? ⟨g, (xs.length + 1) * 4 + 1, none⟩ = some (.int .u64 s1) ∧ w.cell? ⟨g, (xs.length + 1) * 4 + 2, none⟩ = some (.int .u64 s2) ∧ w.cell? ⟨g, (xs.length + 1) * 4 + 3, none⟩ = some (.int .u64 s3)) := by
  obtain ⟨g, cap, hv, hc, hm, hbg, hg, hfr, r0, r1, r2, r3, he, c0, c1, c2, c3⟩ := h.at_ xs.length (by simp)
  obtain ⟨g', cap', hv', hc', hm', hbg', hg', hfr', s0, s1, s2, s3, he', d0, d1, d2, d3⟩ := h.at_ (xs.length + 1) (by simp)
  rw [getD_low] at he
  rw [getD_top2] at he'
  rw [hv] at hv'
  injection hv' with e1 e2 e3
  injection e1 with e1
  injection e1 with e1
  subst e1 e3
  have hn : (xs ++ [x, y]).length = xs.length + 2 := by simp
  rw [hn] at hv hc
  exact ⟨g, cap, hv, hc, hm, hbg, hg, hfr, r0, r1, r2, r3, s0, s1, s2, s3, he, he', ⟨c0, c1, c2, c3⟩, d0, d1, d2, d3⟩

end Go.Proofs.YtlpccdbcaffmmaaDoor
/-
  Maps from numbers to functions that a call fills by itself; what a step of calc does, with lists of numbers.
-/
namespace Go.Proofs.YtlpccdbcaffmmaaDoor
open Go.RowKit Go.MapKept
set_option linter.unusedVariables false
set_option linter.unusedSimpArgs false

def ents : Nat → List (Int × Value) → List MapEntry
  | _, [] => []
  | c, x :: l => { key := .int .i64 x.1, val := x.2, born := c } :: ents (c + 1) l
theorem ents_length (l : List (Int × Value)) : ∀ c, (ents c l).length = l.length := by
  induction l with
  | nil => intro c; rfl
  | cons x l ih => intro c; simp [ents, ih]
theorem ents_snoc (l : List (Int × Value)) (x : Int × Value) : ∀ c, ents c (l ++ [x]) = ents c l ++ [{ key := .int .i64 x.1, val := x.2, born := c + l.length }] := by
  induction l with
  | nil => intro c; rfl
  | cons y l ih => intro c; simp only [List.cons_append, ents, ih, List.length_cons]; congr 4; omega
def lk : List (Int × Value) → Int → Option Value
  | [], _ => none
  | x :: l, k => if x.1 = k then some x.2 else lk l k
theorem find_ents (k : Int) (l : List (Int × Value)) : ∀ c i, (lk l k = none → Instr.findNow (.int .i64) (.int .i64 k) (ents c l) i = some none) ∧ (∀ f, lk l k = some f → ∃ j, Instr.findNow (.int .i64) (.int .i64 k) (ents c l) i = some (some (j, f))) := by
  induction l with
  | nil => intro c i; exact ⟨fun _ => rfl, fun f h => by simp [lk] at h⟩
  | cons x l ih =>
    intro c i
    by_cases hx : x.1 = k
    · refine ⟨fun h => by simp [lk, hx] at h, fun f h => ⟨i, ?_⟩⟩
      simp only [lk, hx, if_pos, Option.some.injEq] at h
      simp [ents, Instr.findNow, Instr.sameNow, hx, h]
    · have hk : (k == x.1) = false := by simp; exact fun e => hx e.symm
      obtain ⟨h1, h2⟩ := ih (c + 1) (i + 1)
      refine ⟨fun h => ?_, fun f h => ?_⟩
      · simp only [lk, hx, if_false] at h
        simp [ents, Instr.findNow, Instr.sameNow, hk, h1 h]
      · simp only [lk, hx, if_false] at h
        obtain ⟨j, hj⟩ := h2 f h
        exact ⟨j, by simp [ents, Instr.findNow, Instr.sameNow, hk, hj]⟩

/-- Block b is the map of l. -/
structure FM (w : World) (b : Nat) (l : List (Int × Value)) : Prop where
  heap : w.heap[b]? = some (.map (ents 0 l).toArray l.length)
theorem FM.size {w : World} {b : Nat} {l : List (Int × Value)} (h : FM w b l) : b < w.heap.size := (Array.getElem?_eq_some_iff.1 h.heap).1
theorem FM.kept {w w' : World} {b : Nat} {l : List (Int × Value)} {row : Option Nat} (h : FM w b l) (hg : w.grownBy w' row) (hne : some b ≠ row) : FM w' b l := ⟨(hg.block b h.size hne).trans h.heap⟩
theorem FM.below {w w' : World} {b : Nat} {l : List (Int × Value)} (h : FM w b l) (hb : Below w.heap.size w w') : FM w' b l := ⟨(hb.block b h.size).trans h.heap⟩
theorem isKey_i64 (k : Int) : IsKey (.int .i64) (.int .i64 k) := by simp [IsKey]

theorem fm_insert {w : World} {b : Nat} {l : List (Int × Value)} (h : FM w b l) (t e : TypeId) (ht : Tryd.prog.underlying t = some (.map 3 e)) (k : Int) (f : Value) (hk : lk l k = none) :
    ∃ w', (Instr.mapUpdate t (.map (some b)) (.int .i64 k) f).run Tryd.prog w = .ok () w' ∧ FM w' b (l ++ [(k, f)]) ∧ w.grownBy w' (some b) := by
  refine ⟨{ w with heap := w.heap.setIfInBounds b (.map ((ents 0 l).toArray.push { key := .int .i64 k, val := f, born := l.length }) (l.length + 1)) }, ?_, ⟨?_⟩, ⟨rfl, rfl, rfl, by simp, fun i hi hne => ?_⟩⟩
  · unfold Instr.mapUpdate
    have hf := MapKept.run_findKey (P := Tryd.prog) (w := w) Tryd.underlying3 ((find_ents k l 0 0).1 hk)
    simp only [Sem.run_bind, run_underlying ht, MapKept.run_getObj_map h.heap, MapKept.run_checkKey (P := Tryd.prog) (w := w) Tryd.underlying3 (isKey_i64 k) false 9999, hf, MapKept.run_setObj_map _ h.heap, Result.andThen_ok]
  · have := (heap_set (o' := .map ((ents 0 l).toArray.push { key := .int .i64 k, val := f, born := l.length }) (l.length + 1)) h.heap).1
    rw [this, ents_snoc]
    simp
  · exact (heap_set h.heap).2 i (fun e => hne (by rw [e]))
theorem fm_lookup {w : World} {b : Nat} {l : List (Int × Value)} (h : FM w b l) (t e : TypeId) (ht : Tryd.prog.underlying t = some (.map 3 e)) (z : Value) (hz : (zeroValue e).run Tryd.prog w = .ok z w) (k : Int) :
    (Instr.lookup t (.map (some b)) (.int .i64 k) true).run Tryd.prog w = .ok (.tuple #[(lk l k).getD z, .bool (lk l k).isSome]) w := by
  unfold Instr.lookup
  cases hl : lk l k with
  | none =>
    have hf := MapKept.run_findKey (P := Tryd.prog) (w := w) Tryd.underlying3 ((find_ents k l 0 0).1 hl)
    simp [Sem.run_bind, run_underlying ht, MapKept.run_getObj_map h.heap, MapKept.run_checkKey (P := Tryd.prog) (w := w) Tryd.underlying3 (isKey_i64 k) _ 9999, hf, hz, Result.andThen_ok]
  | some f =>
    obtain ⟨j, hj⟩ := (find_ents k l 0 0).2 f hl
    have hf := MapKept.run_findKey (P := Tryd.prog) (w := w) Tryd.underlying3 hj
    simp [Sem.run_bind, run_underlying ht, MapKept.run_getObj_map h.heap, MapKept.run_checkKey (P := Tryd.prog) (w := w) Tryd.underlying3 (isKey_i64 k) _ 9999, hf, Result.andThen_ok]

theorem ins_op {ops : Array Oper} {rest : List Oper} {o : Oper} {a : Act} {Q : Exit → Act → World → Prop} {w : World} (hgd : o.guard = none) (m x v : Operand) (t e : TypeId) (ht : Tryd.prog.underlying t = some (.map 3 e))
    (hop : o.op = Op.insert t m x v) (b : Nat) (l : List (Int × Value)) (k : Int) (f : Value) (hm : a.eval m = .map (some b)) (hx : a.eval x = .int .i64 k) (hv : a.eval v = f) (hF : FM w b l) (hk : lk l k = none)
    (h : ∀ w', FM w' b (l ++ [(k, f)]) → w.grownBy w' (some b) → wpList Tryd.prog ops Q rest (a.put o.dst undef) w') : wpList Tryd.prog ops Q (o :: rest) a w := by
  refine wpList_plain hgd fun K hK => ?_
  obtain ⟨w', hr, h1, h2⟩ := fm_insert hF t e ht k f hk
  unfold Oper.wp
  simp [execOp, hop, hm, hx, hv, hr, Result.andThen]
  exact hK _ _ (h w' h1 h2)
theorem look_op {ops : Array Oper} {rest : List Oper} {o : Oper} {a : Act} {Q : Exit → Act → World → Prop} {w : World} (hgd : o.guard = none) (m x : Operand) (t e : TypeId) (ht : Tryd.prog.underlying t = some (.map 3 e))
    (hop : o.op = Op.lookup t m x true) (b : Nat) (l : List (Int × Value)) (k : Int) (z : Value) (hz : (zeroValue e).run Tryd.prog w = .ok z w) (hm : a.eval m = .map (some b)) (hx : a.eval x = .int .i64 k) (hF : FM w b l) (r : Value) (ok : Bool)
    (hr : (lk l k).getD z = r) (hk : (lk l k).isSome = ok)
    (h : wpList Tryd.prog ops Q rest (a.put o.dst (.tuple #[r, .bool ok])) w) : wpList Tryd.prog ops Q (o :: rest) a w := by
  refine wpList_plain hgd fun K hK => ?_
  have hrun := fm_lookup hF t e ht z hz k
  rw [hr, hk] at hrun
  unfold Oper.wp
  simp [execOp, hop, hm, hx, hrun, Result.andThen]
  exact hK _ _ h

/-! What steps do, with lists of numbers: the last one is on top. -/
def joinL (f : Nat → Nat → Nat) (xs : List Nat) : List Nat := xs.take (xs.length - 2) ++ [f (xs.getD (xs.length - 2) 0) (xs.getD (xs.length - 1) 0)]
def turnL (f : Nat → Nat) (xs : List Nat) : List Nat := xs.take (xs.length - 1) ++ [f (xs.getD (xs.length - 1) 0)]
def swapL (xs : List Nat) : List Nat := xs.take (xs.length - 2) ++ [xs.getD (xs.length - 1) 0, xs.getD (xs.length - 2) 0]
theorem joinL_eq (f : Nat → Nat → Nat) (xs : List Nat) (x y : Nat) : joinL f (xs ++ [x, y]) = xs ++ [f x y] := by
  unfold joinL
  rw [show (xs ++ [x, y]).length - 2 = xs.length by simp, show (xs ++ [x, y]).length - 1 = xs.length + 1 by simp, getD_low, getD_top2, List.take_left]
theorem turnL_eq (f : Nat → Nat) (xs : List Nat) (x : Nat) : turnL f (xs ++ [x]) = xs ++ [f x] := by
  unfold turnL
  rw [show (xs ++ [x]).length - 1 = xs.length by simp, getD_top, List.take_left]
theorem swapL_eq (xs : List Nat) (x y : Nat) : swapL (xs ++ [x, y]) = xs ++ [y, x] := by
  unfold swapL
  rw [show (xs ++ [x, y]).length - 2 = xs.length by simp, show (xs ++ [x, y]).length - 1 = xs.length + 1 by simp, getD_low, getD_top2, List.take_left]
theorem dropL_eq (xs : List Nat) (x : Nat) : (xs ++ [x]).take ((xs ++ [x]).length - 1) = xs := by
  rw [show (xs ++ [x]).length - 1 = xs.length by simp, List.take_left]
theorem split1 (xs : List Nat) (h : 1 ≤ xs.length) : ∃ ys x, xs = ys ++ [x] := by
  refine ⟨xs.dropLast, xs.getLast (fun e => by rw [e] at h; simp at h), (List.dropLast_concat_getLast _).symm⟩
theorem split2 (xs : List Nat) (h : 2 ≤ xs.length) : ∃ ys x y, xs = ys ++ [x, y] := by
  obtain ⟨zs, y, rfl⟩ := split1 xs (by omega)
  obtain ⟨ys, x, rfl⟩ := split1 zs (by simp at h; omega)
  exact ⟨ys, x, y, by simp⟩

def samF (x y : Nat) : Nat := if x = y then 1 else 0
/-- What the k-th Op does. -/
def act (k N : Nat) (xs : List Nat) : List Nat :=
  match k with
  | 0 => xs ++ [N]
  | 1 => joinL (fun x y => (x + y) % pN) xs
  | 2 => joinL (fun x y => (x + (pN - y)) % pN) xs
  | 3 => joinL (fun x y => x * y % pN) xs
  | 4 => turnL (fun x => (pN - x) % pN) xs
  | 5 => turnL (fun x => x * x % pN) xs
  | 6 => turnL (fun x => x ^ (pN - 2) % pN) xs
  | 7 => xs ++ [xs.getD (xs.length - 1 - N) 0]
  | 8 => swapL xs
  | 9 => xs.take (xs.length - 1)
  | _ => joinL samF xs
def needT (k : Nat) : Nat := [0, 2, 2, 2, 1, 1, 1, 1, 2, 1, 2].getD k 0
def needN (k N : Nat) : Nat := if k = 7 then N + 1 else needT k
/-- What is wrong with a step: 0, if nothing. -/
def stepE (op : Int) (N : Nat) (xs : List Nat) : Nat :=
  if op < 0 ∨ 10 < op then 5 else if xs.length < needN op.toNat N then 13 else if 64 < (act op.toNat N xs).length then 9 else 0
def runL : List (Int × Nat) → Nat → List Nat → List Nat × Int × Nat
  | [], _, xs => (xs, -1, 0)
  | s :: l, i, xs => if stepE s.1 s.2 xs = 0 then runL l (i + 1) (act s.1.toNat s.2 xs) else ([], (i : Int), stepE s.1 s.2 xs)
def runA (l : List (Int × Nat)) (xs : List Nat) : List Nat × Int × Nat := if 64 < xs.length then ([], -1, 9) else runL l 0 xs
end Go.Proofs.YtlpccdbcaffmmaaDoor
/-
  calc.deeds, enough, and what each deed does: as lists of numbers.
-/
namespace Go.Proofs.YtlpccdbcaffmmaaDoor
open Go.RowKit
set_option linter.unusedVariables false

def fv (F : Nat) : Value := .func (.func F) #[] #[]
end Go.Proofs.YtlpccdbcaffmmaaDoor
/-
  calc's enough, slices.Clone of elements, and which deed is found: what each does.
-/
namespace Go.Proofs.YtlpccdbcaffmmaaDoor
open Go.RowKit
set_option linter.unusedVariables false

theorem add_flat (b off j : Nat) : (⟨b, off, none⟩ : Addr).add j = ⟨b, off + j, none⟩ := by unfold Addr.add; split <;> simp_all
/-- A slice of elements, as a list of their words and numbers. -/
theorem RdE.quads {w : World} {B n : Nat} {A : Option Addr} {xs : List Nat} (h : RdE w B A n xs) (hn : 0 < n) :
    ∃ b off M, A = some ⟨b, off, none⟩ ∧ b < B ∧ M.length = n ∧ (∀ q ∈ M, El (qv q) (qn q)) ∧ M.map qn = xs ∧ ∀ j u, (flat M)[j]? = some u → w.cell? ((⟨b, off, none⟩ : Addr).add j) = some u := by
  obtain ⟨b, off, hA, hb, hc⟩ := h.cells hn
  have hq : ∀ i, ∃ q : Qd, i < n → (El (qv q) (qn q) ∧ qn q = xs.getD i 0 ∧ ∀ k, k < 4 → w.cell? ⟨b, off + i * 4 + k, none⟩ = (qc q)[k]?) := by
    intro i
    by_cases hi : i < n
    · obtain ⟨r0, r1, r2, r3, he, c0, c1, c2, c3⟩ := hc i hi
      refine ⟨(r0, r1, r2, r3, xs.getD i 0), fun _ => ⟨he, rfl, fun k hk => ?_⟩⟩
      match k, hk with
      | 0, _ => exact c0
      | 1, _ => exact c1
      | 2, _ => exact c2
      | 3, _ => exact c3
    · exact ⟨(0, 0, 0, 0, 0), fun h => absurd h hi⟩
  have hsp := fun i => Classical.choose_spec (hq i)
  generalize (fun i => Classical.choose (hq i)) = F at hsp
  refine ⟨b, off, (List.range n).map (fun i => Classical.choose (hq i)), hA, hb, by simp, ?_, ?_, ?_⟩
  · intro q hq'
    obtain ⟨i, hi, rfl⟩ := List.mem_map.1 hq'
    exact (hsp i (List.mem_range.1 hi)).1
  · apply List.ext_getElem
    · simp [h.len]
    · intro i h1 h2
      have hi : i < n := by simpa using h1
      simp only [List.getElem_map, List.getElem_range]
      rw [(hsp i hi).2.1]
      simp [List.getD_eq_getElem?_getD, h2]
  · intro j u hj
    have hlen := flat_length ((List.range n).map (fun i => Classical.choose (hq i)))
    have hjl : j < n * 4 := by
      have := (List.getElem?_eq_some_iff.1 hj).1
      rw [hlen] at this
      simpa using this
    have hi : j / 4 < n := by omega
    have hg := flat_get ((List.range n).map (fun i => Classical.choose (hq i))) (j / 4) (Classical.choose (hq (j / 4))) (by rw [List.getElem?_map, List.getElem?_range hi]; rfl) (j % 4) (by omega)
    rw [show j / 4 * 4 + j % 4 = j by omega, hj] at hg
    have hadd := add_flat b off j
    have := (hsp (j / 4) hi).2.2 (j % 4) (by omega)
    rw [← hg, show off + j / 4 * 4 + j % 4 = off + j by omega] at this
    rw [hadd, this]

/-- append of all elements of a slice onto an empty one. -/
theorem app_clone {ops : Array Oper} {rest : List Oper} {o : Oper} {a : Act} {Q : Exit → Act → World → Prop} {w : World} (hgd : o.guard = none) (s x : Operand)
    (ho : o.op = .call { callee := .builtin .append, args := #[s, x], argTypes := #[50, 50] })
    (n c base : Nat) (A : Option Addr) (xs : List Nat) (hs : a.eval s = .slice (some ⟨w.heap.size, 0, none⟩) 0 0) (hx : a.eval x = .slice A n c) (hR : RdE w w.heap.size A n xs) (hn : 0 < n) (hl : n ≤ 1000) (hb : base ≤ w.heap.size)
    (h : ∀ v' w', Pile w' base v' xs → Below w.heap.size w w' → wpList Tryd.prog ops Q rest (a.put o.dst v') w') :
    wpList Tryd.prog ops Q (o :: rest) a (w.alloc (.cells #[] 30)) := by
  refine wpList_plain hgd fun K hK => ?_
  obtain ⟨b, off, M, rfl, hbB, hM, hel, hmap, hcell⟩ := hR.quads hn
  have hb1 : Below w.heap.size w (w.alloc (.cells #[] 30)) := (Below.refl _ _).alloc (Nat.le_refl _) _
  have hO : OwnE (w.alloc (.cells #[] 30)) w.heap.size (.slice (some ⟨w.heap.size, 0, none⟩) 0 0) [] := World.ownsRow_made w #[] 0 (Nat.le_refl _) (by decide) rfl
  have hadd : ∀ j, (⟨b, off, none⟩ : Addr).add j = ⟨b, off + j, none⟩ := fun j => add_flat b off j
  obtain ⟨v', w', hr, g2, g3, g4⟩ := run_append_elt 50 Tryd.underlying50 (w.alloc (.cells #[] 30)) w.heap.size o.type (.slice (some ⟨w.heap.size, 0, none⟩) 0 0) [] M hO ⟨b, off, none⟩ c (by omega)
    (fun j u hj => by have := hcell j u hj; rw [hadd] at this ⊢; exact (hb1.cell (p := ⟨b, off + j, none⟩) hbB).trans this) (by simp; omega) (by simp)
  have hP : Pile w' base v' xs := ⟨M, OwnE.mono (by rw [List.nil_append] at g2; exact g2) hb, hel, hmap⟩
  unfold Oper.wp execOp
  rw [hM] at hr
  simp only [ho, resolve, invoke, builtin, Sem.run_bind, Sem.run_pure, Result.andThen_ok, List.map_toArray, List.map_cons, List.map_nil, hs, hx, hr]
  exact hK _ _ (h v' w' hP (hb1.grown g3 (by simp) (fun k hk => by injection hk with hk; simp at hk; omega)))
theorem app_clone0 {ops : Array Oper} {rest : List Oper} {o : Oper} {a : Act} {Q : Exit → Act → World → Prop} {w : World} (hgd : o.guard = none) (s x : Operand)
    (ho : o.op = .call { callee := .builtin .append, args := #[s, x], argTypes := #[50, 50] })
    (c : Nat) (A : Addr) (hs : a.eval s = .slice (some ⟨w.heap.size, 0, none⟩) 0 0) (hx : a.eval x = .slice (some A) 0 c)
    (h : wpList Tryd.prog ops Q rest (a.put o.dst (.slice (some ⟨w.heap.size, 0, none⟩) 0 0)) (w.alloc (.cells #[] 30))) :
    wpList Tryd.prog ops Q (o :: rest) a (w.alloc (.cells #[] 30)) := by
  refine wpList_plain hgd fun K hK => ?_
  obtain ⟨i0, hi, hz, hs1, hb⟩ := info_parts el_info
  have hr : (Builtin.append_ #[50, 50] o.type #[.slice (some ⟨w.heap.size, 0, none⟩) 0 0, .slice (some A) 0 c]).run Tryd.prog (w.alloc (.cells #[] 30)) = .ok (.slice (some ⟨w.heap.size, 0, none⟩) 0 0) (w.alloc (.cells #[] 30)) := by
    simp [Builtin.append_, run_underlying Tryd.underlying50, sizeOf, typeInfo, hi, Builtin.lenOf, Builtin.firstCells, storeCells, loadCells, loadCellsFrom]
  unfold Oper.wp execOp
  simp only [ho, resolve, invoke, builtin, Sem.run_bind, Sem.run_pure, Result.andThen_ok, List.map_toArray, List.map_cons, List.map_nil, hs, hx, hr]
  exact hK _ _ h

end Go.Proofs.YtlpccdbcaffmmaaDoor
/-
  calc.Run: what the call does.
-/
namespace Go.Proofs.YtlpccdbcaffmmaaDoor
open Go.RowKit
set_option linter.unusedVariables false

/-- The slice of n steps at A reads as st, and lies below block B. -/
structure RdS (w : World) (B : Nat) (A : Option Addr) (n : Nat) (st : List (Int × Nat)) : Prop where
  len : st.length = n
  lt : ∀ s ∈ st, s.2 < 18446744073709551616
  cells : 0 < n → ∃ b off, A = some ⟨b, off, none⟩ ∧ b < B ∧ ∀ i, i < n → w.cell? ⟨b, off + i * 2, none⟩ = some (.int .i64 (st.getD i (0, 0)).1) ∧ w.cell? ⟨b, off + i * 2 + 1, none⟩ = some (.int .u64 (((st.getD i (0, 0)).2 : Nat) : Int))
theorem RdS.below {w w' : World} {B B' n : Nat} {A : Option Addr} {l : List (Int × Nat)} (h : RdS w B A n l) (hb : Below B' w w') (hB : B ≤ B') : RdS w' B A n l :=
  ⟨h.len, h.lt, fun hn => by
    obtain ⟨b, off, e, hbB, hc⟩ := h.cells hn
    have k : ∀ i, w'.cell? ⟨b, i, none⟩ = w.cell? ⟨b, i, none⟩ := fun i => hb.cell (p := ⟨b, i, none⟩) (Nat.lt_of_lt_of_le hbB hB)
    exact ⟨b, off, e, hbB, fun i hi => ⟨(k _).trans (hc i hi).1, (k _).trans (hc i hi).2⟩⟩⟩
theorem RdS.more {w : World} {B B' n : Nat} {A : Option Addr} {l : List (Int × Nat)} (h : RdS w B A n l) (hB : B ≤ B') : RdS w B' A n l :=
  ⟨h.len, h.lt, fun hn => by
    obtain ⟨b, off, e, hb, hc⟩ := h.cells hn
    exact ⟨b, off, e, by omega, hc⟩⟩
theorem RdS.nil (w : World) (B : Nat) (A : Option Addr) : RdS w B A 0 [] := ⟨rfl, fun s hs => by simp at hs, fun h => absurd h (by omega)⟩
theorem RdS.up {w w' : World} {B n : Nat} {A : Option Addr} {l : List (Int × Nat)} (h : RdS w B A n l) (hb : Below w.heap.size w w') (hB : B ≤ w.heap.size) : RdS w' w'.heap.size A n l := (h.below hb hB).more (Nat.le_trans hB hb.size)

theorem drop_at (st : List (Int × Nat)) (k : Nat) (h : k < st.length) : st.drop k = st.getD k (0, 0) :: st.drop (k + 1) := by
  rw [List.drop_eq_getElem_cons h]
  simp [List.getD_eq_getElem?_getD, h]
theorem runL_bad (st : List (Int × Nat)) (k : Nat) (xs : List Nat) (h : k < st.length) (e : Nat) (he : stepE (st.getD k (0, 0)).1 (st.getD k (0, 0)).2 xs = e) (h0 : e ≠ 0) : runL (st.drop k) k xs = ([], (k : Int), e) := by
  rw [drop_at st k h, runL, if_neg (by rw [he]; exact h0), he]
theorem runL_good (st : List (Int × Nat)) (k : Nat) (xs : List Nat) (h : k < st.length) (he : stepE (st.getD k (0, 0)).1 (st.getD k (0, 0)).2 xs = 0) : runL (st.drop k) k xs = runL (st.drop (k + 1)) (k + 1) (act (st.getD k (0, 0)).1.toNat (st.getD k (0, 0)).2 xs) := by
  rw [drop_at st k h, runL, if_pos he]
theorem runL_end (st : List (Int × Nat)) (k : Nat) (xs : List Nat) (h : st.length ≤ k) : runL (st.drop k) k xs = (xs, -1, 0) := by
  rw [List.drop_eq_nil_of_le h]; rfl

end Go.Proofs.YtlpccdbcaffmmaaDoor
/-
  Rows of steps that a call makes, appends to and changes; avouchlaw03.of, first, speaks.
-/
namespace Go.Proofs.YtlpccdbcaffmmaaDoor
open Go.RowKit
set_option linter.unusedVariables false

abbrev St := Int × Nat
def sc (s : St) : List Value := [.int .i64 s.1, .int .u64 ((s.2 : Nat) : Int)]
def flatS : List St → List Value
  | [] => []
  | s :: L => sc s ++ flatS L
theorem flatS_append (L M : List St) : flatS (L ++ M) = flatS L ++ flatS M := by
  induction L with
  | nil => rfl
  | cons q L ih => simp [flatS, ih]
theorem flatS_length (L : List St) : (flatS L).length = L.length * 2 := by
  induction L with
  | nil => rfl
  | cons q L ih => simp [flatS, sc, ih]; omega
theorem flatS_one (L : List St) : ∀ u ∈ flatS L, u.oneCell' = true := by
  induction L with
  | nil => intro u hu; simp [flatS] at hu
  | cons q L ih =>
    intro u hu
    simp only [flatS, List.mem_append] at hu
    rcases hu with h | h
    · simp only [sc, List.mem_cons, List.not_mem_nil, or_false] at h
      rcases h with rfl | rfl <;> rfl
    · exact ih u h
theorem flatS_get (L : List St) : ∀ (i : Nat) (q : St), L[i]? = some q → ∀ k, k < 2 → (flatS L)[i * 2 + k]? = (sc q)[k]? := by
  induction L with
  | nil => intro i q h; simp at h
  | cons p L ih =>
    intro i q h k hk
    cases i with
    | zero =>
      simp only [List.getElem?_cons_zero, Option.some.injEq] at h
      subst h
      simp only [flatS, Nat.zero_mul, Nat.zero_add]
      exact List.getElem?_append_left (by simp [sc]; exact hk)
    | succ i =>
      simp only [List.getElem?_cons_succ] at h
      have h1 := ih i q h k hk
      simp only [flatS]
      rw [List.getElem?_append_right (by simp [sc]; omega), ← h1]
      congr 1
      simp [sc]
      omega
theorem flatS_set (L : List St) : ∀ (i : Nat) (q : St), i < L.length → ((flatS L).set (i * 2) (.int .i64 q.1)).set (i * 2 + 1) (.int .u64 ((q.2 : Nat) : Int)) = flatS (L.set i q) := by
  induction L with
  | nil => intro i q h; simp at h
  | cons p L ih =>
    intro i q h
    cases i with
    | zero => simp [flatS, sc, List.set]
    | succ i =>
      have := ih i q (by simpa using h)
      simp only [flatS, List.set_cons_succ]
      rw [← this]
      have e : ∀ (j : Nat) (u : Value) (l : List Value), (sc p ++ l).set ((i + 1) * 2 + j) u = sc p ++ l.set (i * 2 + j) u := by
        intro j u l
        rw [List.set_append_right _ _ (by simp [sc]; omega)]
        congr 2
        simp [sc]; omega
      have e0 := e 0
      simp only [Nat.add_zero] at e0
      rw [e0, e 1]

/-- Parts of a row of steps. -/
theorem RdS.take {w : World} {B n : Nat} {A : Option Addr} {L : List St} (h : RdS w B A n L) (k : Nat) (hk : k ≤ n) : RdS w B A k (L.take k) :=
  ⟨by rw [List.length_take, h.len]; omega, fun s hs => h.lt s (List.mem_of_mem_take hs), fun h0 => by
    obtain ⟨b, off, e, hb, hc⟩ := h.cells (by omega)
    refine ⟨b, off, e, hb, fun i hi => ?_⟩
    rw [show (L.take k).getD i (0, 0) = L.getD i (0, 0) by simp [List.getD_eq_getElem?_getD, hi]]
    exact hc i (by omega)⟩
theorem RdS.rest {w : World} {B n b off : Nat} {L : List St} (h : RdS w B (some ⟨b, off, none⟩) n L) (k : Nat) (hk : k ≤ n) : RdS w B (some ⟨b, off + k * 2, none⟩) (n - k) (L.drop k) :=
  ⟨by rw [List.length_drop, h.len], fun s hs => h.lt s (List.mem_of_mem_drop hs), fun h0 => by
    obtain ⟨b', off', e, hb, hc⟩ := h.cells (by omega)
    injection e with e
    injection e with e1 e2
    subst e1 e2
    refine ⟨b, off + k * 2, rfl, hb, fun i hi => ?_⟩
    rw [show (L.drop k).getD i (0, 0) = L.getD (k + i) (0, 0) by simp [List.getD_eq_getElem?_getD]]
    have := hc (k + i) (by omega)
    rw [show off + (k + i) * 2 = off + k * 2 + i * 2 by omega] at this
    exact this⟩

/-- One element of a row, kept through calls. -/
structure EnvP (w0 : World) (g : Nat) (x0 x1 x2 x3 : Int) (w : World) : Prop where
  gl : Glob w
  sz : g < w.heap.size
  c : w.cell? ⟨g, 0, none⟩ = some (.int .u64 x0) ∧ w.cell? ⟨g, 1, none⟩ = some (.int .u64 x1) ∧ w.cell? ⟨g, 2, none⟩ = some (.int .u64 x2) ∧ w.cell? ⟨g, 3, none⟩ = some (.int .u64 x3)
  b : Below w0.heap.size w0 w
theorem EnvP.up {w0 : World} {g : Nat} {x0 x1 x2 x3 : Int} {w w' : World} (h : EnvP w0 g x0 x1 x2 x3 w) (hb : Below w.heap.size w w') : EnvP w0 g x0 x1 x2 x3 w' := by
  have k : ∀ i, w'.cell? ⟨g, i, none⟩ = w.cell? ⟨g, i, none⟩ := fun i => hb.cell (p := ⟨g, i, none⟩) h.sz
  obtain ⟨c0, c1, c2, c3⟩ := h.c
  exact ⟨h.gl.up hb, Nat.lt_of_lt_of_le h.sz hb.size, ⟨(k _).trans c0, (k _).trans c1, (k _).trans c2, (k _).trans c3⟩, h.b.trans (hb.mono h.b.size)⟩

theorem from15_c (w : World) (hG : Glob w) : Calls Tryd.prog 26 #[.int .u64 15] w fun e w' => ∃ r, e = .returned r ∧ El r 15 ∧ Below w.heap.size w w' := fromUint64_c 15 w (by decide) hG
theorem speaks_runs : runA [(0, 3), (0, 5), (3, 0)] [] = ([15], -1, 0) := by decide

end Go.Proofs.YtlpccdbcaffmmaaDoor
