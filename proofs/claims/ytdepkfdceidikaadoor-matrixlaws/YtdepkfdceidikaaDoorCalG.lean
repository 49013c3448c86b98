import Derived.Test.YtdepkfdceidikaaDoorCalC
import Derived.Lib.SliceRun
import Derived.Deep.RegionHeld3
import Derived.Deep.CutBlock
import Derived.Deep.DeepCutAuto
/-
  calc.deeds, enough, and what each deed does: as lists of numbers.
-/
namespace Go.Proofs.YtdepkfdceidikaaDoor
open Go.RowKit
set_option linter.unusedVariables false

def fv (F : Nat) : Value := .func (.func F) #[] #[]
end Go.Proofs.YtdepkfdceidikaaDoor
/-
  calc's enough, slices.Clone of elements, and which deed is found: what each does.
-/
namespace Go.Proofs.YtdepkfdceidikaaDoor
open Go.RowKit
set_option linter.unusedVariables false

theorem add_flat (b off j : Nat) : (⟨b, off, none⟩ : Addr).add j = ⟨b, off + j, none⟩ := by unfold Addr.add; split <;> simp_all
/-- A slice of elements, as a list of their words and numbers. -/
theorem RdE.quads {w : World} {B n : Nat} {A : Option Addr} {xs : List Nat} (h : RdE w B A n xs) (hn : 0 < n) :
    ∃ b off M, A = some ⟨b, off, none⟩ ∧ b < B ∧ M.length = n ∧ (∀ q ∈ M, El (qv q) (qn q)) ∧ M.map qn = xs ∧ ∀ j u, (flat M)[j]? = some u → w.cell? ((⟨b, off, none⟩ : Addr).add j) = some u := by
  obtain ⟨b, off, hA, hb, hc⟩ := h.cells hn
  have hq : ∀ i, ∃ q : Qd, i < n → (El (qv q) (qn q) ∧ qn q = xs.getD i 0 ∧ ∀ k, k < 4 → w.cell? ⟨b, off + i * 4 + k, none⟩ = (qc q)[k]?) := by
    intro i
    by_cases hi : i < n
    · obtain ⟨r0, r1, r2, r3, he, c0, c1, c2, c3⟩ := hc i hi
      refine ⟨(r0, r1, r2, r3, xs.getD i 0), fun _ => ⟨he, rfl, fun k hk => ?_⟩⟩
      match k, hk with
      | 0, _ => exact c0
      | 1, _ => exact c1
      | 2, _ => exact c2
      | 3, _ => exact c3
    · exact ⟨(0, 0, 0, 0, 0), fun h => absurd h hi⟩
  have hsp := fun i => Classical.choose_spec (hq i)
  generalize (fun i => Classical.choose (hq i)) = F at hsp
  refine ⟨b, off, (List.range n).map (fun i => Classical.choose (hq i)), hA, hb, by simp, ?_, ?_, ?_⟩
  · intro q hq'
    obtain ⟨i, hi, rfl⟩ := List.mem_map.1 hq'
    exact (hsp i (List.mem_range.1 hi)).1
  · apply List.ext_getElem
    · simp [h.len]
    · intro i h1 h2
      have hi : i < n := by simpa using h1
      simp only [List.getElem_map, List.getElem_range]
      rw [(hsp i hi).2.1]
      simp [List.getD_eq_getElem?_getD, h2]
  · intro j u hj
    have hlen := flat_length ((List.range n).map (fun i => Classical.choose (hq i)))
    have hjl : j < n * 4 := by
      have := (List.getElem?_eq_some_iff.1 hj).1
      rw [hlen] at this
      simpa using this
    have hi : j / 4 < n := by omega
    have hg := flat_get ((List.range n).map (fun i => Classical.choose (hq i))) (j / 4) (Classical.choose (hq (j / 4))) (by rw [List.getElem?_map, List.getElem?_range hi]; rfl) (j % 4) (by omega)
    rw [show j / 4 * 4 + j % 4 = j by omega, hj] at hg
    have hadd := add_flat b off j
    have := (hsp (j / 4) hi).2.2 (j % 4) (by omega)
    rw [← hg, show off + j / 4 * 4 + j % 4 = off + j by omega] at this
    rw [hadd, this]

/-- append of all elements of a slice onto an empty one. -/
theorem app_clone {ops : Array Oper} {rest : List Oper} {o : Oper} {a : Act} {Q : Exit → Act → World → Prop} {w : World} (hgd : o.guard = none) (s x : Operand)
    (ho : o.op = .call { callee := .builtin .append, args := #[s, x], argTypes := #[89, 89] })
    (n c base : Nat) (A : Option Addr) (xs : List Nat) (hs : a.eval s = .slice (some ⟨w.heap.size, 0, none⟩) 0 0) (hx : a.eval x = .slice A n c) (hR : RdE w w.heap.size A n xs) (hn : 0 < n) (hl : n ≤ 1000) (hb : base ≤ w.heap.size)
    (h : ∀ v' w', Pile w' base v' xs → Below w.heap.size w w' → wpList Tryd.prog ops Q rest (a.put o.dst v') w') :
    wpList Tryd.prog ops Q (o :: rest) a (w.alloc (.cells #[] 27)) := by
  refine wpList_plain hgd fun K hK => ?_
  obtain ⟨b, off, M, rfl, hbB, hM, hel, hmap, hcell⟩ := hR.quads hn
  have hb1 : Below w.heap.size w (w.alloc (.cells #[] 27)) := (Below.refl _ _).alloc (Nat.le_refl _) _
  have hO : OwnE (w.alloc (.cells #[] 27)) w.heap.size (.slice (some ⟨w.heap.size, 0, none⟩) 0 0) [] := World.ownsRow_made w #[] 0 (Nat.le_refl _) (by decide) rfl
  have hadd : ∀ j, (⟨b, off, none⟩ : Addr).add j = ⟨b, off + j, none⟩ := fun j => add_flat b off j
  obtain ⟨v', w', hr, g2, g3, g4⟩ := run_append_elt 89 Tryd.underlying89 (w.alloc (.cells #[] 27)) w.heap.size o.type (.slice (some ⟨w.heap.size, 0, none⟩) 0 0) [] M hO ⟨b, off, none⟩ c (by omega)
    (fun j u hj => by have := hcell j u hj; rw [hadd] at this ⊢; exact (hb1.cell (p := ⟨b, off + j, none⟩) hbB).trans this) (by simp; omega) (by simp)
  have hP : Pile w' base v' xs := ⟨M, OwnE.mono (by rw [List.nil_append] at g2; exact g2) hb, hel, hmap⟩
  unfold Oper.wp execOp
  rw [hM] at hr
  simp only [ho, resolve, invoke, builtin, Sem.run_bind, Sem.run_pure, Result.andThen_ok, List.map_toArray, List.map_cons, List.map_nil, hs, hx, hr]
  exact hK _ _ (h v' w' hP (hb1.grown g3 (by simp) (fun k hk => by injection hk with hk; simp at hk; omega)))
theorem app_clone0 {ops : Array Oper} {rest : List Oper} {o : Oper} {a : Act} {Q : Exit → Act → World → Prop} {w : World} (hgd : o.guard = none) (s x : Operand)
    (ho : o.op = .call { callee := .builtin .append, args := #[s, x], argTypes := #[89, 89] })
    (c : Nat) (A : Addr) (hs : a.eval s = .slice (some ⟨w.heap.size, 0, none⟩) 0 0) (hx : a.eval x = .slice (some A) 0 c)
    (h : wpList Tryd.prog ops Q rest (a.put o.dst (.slice (some ⟨w.heap.size, 0, none⟩) 0 0)) (w.alloc (.cells #[] 27))) :
    wpList Tryd.prog ops Q (o :: rest) a (w.alloc (.cells #[] 27)) := by
  refine wpList_plain hgd fun K hK => ?_
  obtain ⟨i0, hi, hz, hs1, hb⟩ := info_parts el_info
  have hr : (Builtin.append_ #[89, 89] o.type #[.slice (some ⟨w.heap.size, 0, none⟩) 0 0, .slice (some A) 0 c]).run Tryd.prog (w.alloc (.cells #[] 27)) = .ok (.slice (some ⟨w.heap.size, 0, none⟩) 0 0) (w.alloc (.cells #[] 27)) := by
    simp [Builtin.append_, run_underlying Tryd.underlying89, sizeOf, typeInfo, hi, Builtin.lenOf, Builtin.firstCells, storeCells, loadCells, loadCellsFrom]
  unfold Oper.wp execOp
  simp only [ho, resolve, invoke, builtin, Sem.run_bind, Sem.run_pure, Result.andThen_ok, List.map_toArray, List.map_cons, List.map_nil, hs, hx, hr]
  exact hK _ _ h

end Go.Proofs.YtdepkfdceidikaaDoor
/-
  calc.Run: what the call does.
-/
namespace Go.Proofs.YtdepkfdceidikaaDoor
open Go.RowKit
set_option linter.unusedVariables false

/-- The slice of n steps at A reads as st, and lies below block B. -/
structure RdS (w : World) (B : Nat) (A : Option Addr) (n : Nat) (st : List (Int × Nat)) : Prop where
  len : st.length = n
  lt : ∀ s ∈ st, s.2 < 18446744073709551616
  cells : 0 < n → ∃ b off, A = some ⟨b, off, none⟩ ∧ b < B ∧ ∀ i, i < n → w.cell? ⟨b, off + i * 2, none⟩ = some (.int .i64 (st.getD i (0, 0)).1) ∧ w.cell? ⟨b, off + i * 2 + 1, none⟩ = some (.int .u64 (((st.getD i (0, 0)).2 : Nat) : Int))
theorem RdS.below {w w' : World} {B B' n : Nat} {A : Option Addr} {l : List (Int × Nat)} (h : RdS w B A n l) (hb : Below B' w w') (hB : B ≤ B') : RdS w' B A n l :=
  ⟨h.len, h.lt, fun hn => by
    obtain ⟨b, off, e, hbB, hc⟩ := h.cells hn
    have k : ∀ i, w'.cell? ⟨b, i, none⟩ = w.cell? ⟨b, i, none⟩ := fun i => hb.cell (p := ⟨b, i, none⟩) (Nat.lt_of_lt_of_le hbB hB)
    exact ⟨b, off, e, hbB, fun i hi => ⟨(k _).trans (hc i hi).1, (k _).trans (hc i hi).2⟩⟩⟩
theorem RdS.more {w : World} {B B' n : Nat} {A : Option Addr} {l : List (Int × Nat)} (h : RdS w B A n l) (hB : B ≤ B') : RdS w B' A n l :=
  ⟨h.len, h.lt, fun hn => by
    obtain ⟨b, off, e, hb, hc⟩ := h.cells hn
    exact ⟨b, off, e, by omega, hc⟩⟩
theorem RdS.nil (w : World) (B : Nat) (A : Option Addr) : RdS w B A 0 [] := ⟨rfl, fun s hs => by simp at hs, fun h => absurd h (by omega)⟩
theorem RdS.up {w w' : World} {B n : Nat} {A : Option Addr} {l : List (Int × Nat)} (h : RdS w B A n l) (hb : Below w.heap.size w w') (hB : B ≤ w.heap.size) : RdS w' w'.heap.size A n l := (h.below hb hB).more (Nat.le_trans hB hb.size)

theorem drop_at (st : List (Int × Nat)) (k : Nat) (h : k < st.length) : st.drop k = st.getD k (0, 0) :: st.drop (k + 1) := by
  rw [List.drop_eq_getElem_cons h]
  simp [List.getD_eq_getElem?_getD, h]
theorem runL_bad (st : List (Int × Nat)) (k : Nat) (xs : List Nat) (h : k < st.length) (e : Nat) (he : stepE (st.getD k (0, 0)).1 (st.getD k (0, 0)).2 xs = e) (h0 : e ≠ 0) : runL (st.drop k) k xs = ([], (k : Int), e) := by
  rw [drop_at st k h, runL, if_neg (by rw [he]; exact h0), he]
theorem runL_good (st : List (Int × Nat)) (k : Nat) (xs : List Nat) (h : k < st.length) (he : stepE (st.getD k (0, 0)).1 (st.getD k (0, 0)).2 xs = 0) : runL (st.drop k) k xs = runL (st.drop (k + 1)) (k + 1) (act (st.getD k (0, 0)).1.toNat (st.getD k (0, 0)).2 xs) := by
  rw [drop_at st k h, runL, if_pos he]
theorem runL_end (st : List (Int × Nat)) (k : Nat) (xs : List Nat) (h : st.length ≤ k) : runL (st.drop k) k xs = (xs, -1, 0) := by
  rw [List.drop_eq_nil_of_le h]; rfl

end Go.Proofs.YtdepkfdceidikaaDoor
/-
  Rows of steps that a call makes, appends to and changes; avouchlaw03.of, first, speaks.
-/
namespace Go.Proofs.YtdepkfdceidikaaDoor
open Go.RowKit
set_option linter.unusedVariables false

abbrev St := Int × Nat
def sc (s : St) : List Value := [.int .i64 s.1, .int .u64 ((s.2 : Nat) : Int)]
def flatS : List St → List Value
  | [] => []
  | s :: L => sc s ++ flatS L
theorem flatS_append (L M : List St) : flatS (L ++ M) = flatS L ++ flatS M := by
  induction L with
  | nil => rfl
  | cons q L ih => simp [flatS, ih]
theorem flatS_length (L : List St) : (flatS L).length = L.length * 2 := by
  induction L with
  | nil => rfl
  | cons q L ih => simp [flatS, sc, ih]; omega
theorem flatS_one (L : List St) : ∀ u ∈ flatS L, u.oneCell' = true := by
  induction L with
  | nil => intro u hu; simp [flatS] at hu
  | cons q L ih =>
    intro u hu
    simp only [flatS, List.mem_append] at hu
    rcases hu with h | h
    · simp only [sc, List.mem_cons, List.not_mem_nil, or_false] at h
      rcases h with rfl | rfl <;> rfl
    · exact ih u h
theorem flatS_get (L : List St) : ∀ (i : Nat) (q : St), L[i]? = some q → ∀ k, k < 2 → (flatS L)[i * 2 + k]? = (sc q)[k]? := by
  induction L with
  | nil => intro i q h; simp at h
  | cons p L ih =>
    intro i q h k hk
    cases i with
    | zero =>
      simp only [List.getElem?_cons_zero, Option.some.injEq] at h
      subst h
      simp only [flatS, Nat.zero_mul, Nat.zero_add]
      exact List.getElem?_append_left (by simp [sc]; exact hk)
    | succ i =>
      simp only [List.getElem?_cons_succ] at h
      have h1 := ih i q h k hk
      simp only [flatS]
      rw [List.getElem?_append_right (by simp [sc]; omega), ← h1]
      congr 1
      simp [sc]
      omega
theorem flatS_set (L : List St) : ∀ (i : Nat) (q : St), i < L.length → ((flatS L).set (i * 2) (.int .i64 q.1)).set (i * 2 + 1) (.int .u64 ((q.2 : Nat) : Int)) = flatS (L.set i q) := by
  induction L with
  | nil => intro i q h; simp at h
  | cons p L ih =>
    intro i q h
    cases i with
    | zero => simp [flatS, sc, List.set]
    | succ i =>
      have := ih i q (by simpa using h)
      simp only [flatS, List.set_cons_succ]
      rw [← this]
      have e : ∀ (j : Nat) (u : Value) (l : List Value), (sc p ++ l).set ((i + 1) * 2 + j) u = sc p ++ l.set (i * 2 + j) u := by
        intro j u l
        rw [List.set_append_right _ _ (by simp [sc]; omega)]
        congr 2
        simp [sc]; omega
      have e0 := e 0
      simp only [Nat.add_zero] at e0
      rw [e0, e 1]

/-- Parts of a row of steps. -/
theorem RdS.take {w : World} {B n : Nat} {A : Option Addr} {L : List St} (h : RdS w B A n L) (k : Nat) (hk : k ≤ n) : RdS w B A k (L.take k) :=
  ⟨by rw [List.length_take, h.len]; omega, fun s hs => h.lt s (List.mem_of_mem_take hs), fun h0 => by
    obtain ⟨b, off, e, hb, hc⟩ := h.cells (by omega)
    refine ⟨b, off, e, hb, fun i hi => ?_⟩
    rw [show (L.take k).getD i (0, 0) = L.getD i (0, 0) by simp [List.getD_eq_getElem?_getD, hi]]
    exact hc i (by omega)⟩
theorem RdS.rest {w : World} {B n b off : Nat} {L : List St} (h : RdS w B (some ⟨b, off, none⟩) n L) (k : Nat) (hk : k ≤ n) : RdS w B (some ⟨b, off + k * 2, none⟩) (n - k) (L.drop k) :=
  ⟨by rw [List.length_drop, h.len], fun s hs => h.lt s (List.mem_of_mem_drop hs), fun h0 => by
    obtain ⟨b', off', e, hb, hc⟩ := h.cells (by omega)
    injection e with e
    injection e with e1 e2
    subst e1 e2
    refine ⟨b, off + k * 2, rfl, hb, fun i hi => ?_⟩
    rw [show (L.drop k).getD i (0, 0) = L.getD (k + i) (0, 0) by simp [List.getD_eq_getElem?_getD]]
    have := hc (k + i) (by omega)
    rw [show off + (k + i) * 2 = off + k * 2 + i * 2 by omega] at this
    exact this⟩

/-- One element of a row, kept through calls. -/
structure EnvP (w0 : World) (g : Nat) (x0 x1 x2 x3 : Int) (w : World) : Prop where
  gl : Glob w
  sz : g < w.heap.size
  c : w.cell? ⟨g, 0, none⟩ = some (.int .u64 x0) ∧ w.cell? ⟨g, 1, none⟩ = some (.int .u64 x1) ∧ w.cell? ⟨g, 2, none⟩ = some (.int .u64 x2) ∧ w.cell? ⟨g, 3, none⟩ = some (.int .u64 x3)
  b : Below w0.heap.size w0 w
theorem EnvP.up {w0 : World} {g : Nat} {x0 x1 x2 x3 : Int} {w w' : World} (h : EnvP w0 g x0 x1 x2 x3 w) (hb : Below w.heap.size w w') : EnvP w0 g x0 x1 x2 x3 w' := by
  have k : ∀ i, w'.cell? ⟨g, i, none⟩ = w.cell? ⟨g, i, none⟩ := fun i => hb.cell (p := ⟨g, i, none⟩) h.sz
  obtain ⟨c0, c1, c2, c3⟩ := h.c
  exact ⟨h.gl.up hb, Nat.lt_of_lt_of_le h.sz hb.size, ⟨(k _).trans c0, (k _).trans c1, (k _).trans c2, (k _).trans c3⟩, h.b.trans (hb.mono h.b.size)⟩

theorem from15_c (w : World) (hG : Glob w) : Calls Tryd.prog 18 #[.int .u64 15] w fun e w' => ∃ r, e = .returned r ∧ El r 15 ∧ Below w.heap.size w w' := fromUint64_c 15 w (by decide) hG
theorem speaks_runs : runA [(0, 3), (0, 5), (3, 0)] [] = ([15], -1, 0) := by decide

end Go.Proofs.YtdepkfdceidikaaDoor
