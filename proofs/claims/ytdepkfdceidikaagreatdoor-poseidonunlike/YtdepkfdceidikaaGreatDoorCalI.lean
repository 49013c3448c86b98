import Derived.Test.YtdepkfdceidikaaGreatDoorCalC
import Derived.Lib.SliceRun
import Derived.Deep.RegionHeld3
import Derived.Deep.CutBlock
import Derived.Deep.DeepCutAuto
import Derived.Test.YtdepkfdceidikaaGreatDoorRef2H
import Derived.Deep.RegionLaw
import Derived.BigRegion
/-
  calc.deeds, enough, and what each deed does: as lists of numbers.
-/
namespace Go.Proofs.YtdepkfdceidikaaGreatDoor
open Go.RowKit
set_option linter.unusedVariables false

def fv (F : Nat) : Value := .func (.func F) #[] #[]
end Go.Proofs.YtdepkfdceidikaaGreatDoor
/-
  calc's enough, slices.Clone of elements, and which deed is found: what each does.
-/
namespace Go.Proofs.YtdepkfdceidikaaGreatDoor
open Go.RowKit
set_option linter.unusedVariables false

theorem add_flat (b off j : Nat) : (⟨b, off, none⟩ : Addr).add j = ⟨b, off + j, none⟩ := by unfold Addr.add; split <;> simp_all
/-- A slice of elements, as a list of their words and numbers. -/
theorem RdE.quads {w : World} {B n : Nat} {A : Option Addr} {xs : List Nat} (h : RdE w B A n xs) (hn : 0 < n) :
    ∃ b off M, A = some ⟨b, off, none⟩ ∧ b < B ∧ M.length = n ∧ (∀ q ∈ M, El (qv q) (qn q)) ∧ M.map qn = xs ∧ ∀ j u, (flat M)[j]? = some u → w.cell? ((⟨b, off, none⟩ : Addr).add j) = some u := by
  obtain ⟨b, off, hA, hb, hc⟩ := h.cells hn
  have hq : ∀ i, ∃ q : Qd, i < n → (El (qv q) (qn q) ∧ qn q = xs.getD i 0 ∧ ∀ k, k < 4 → w.cell? ⟨b, off + i * 4 + k, none⟩ = (qc q)[k]?) := by
    intro i
    by_cases hi : i < n
    · obtain ⟨r0, r1, r2, r3, he, c0, c1, c2, c3⟩ := hc i hi
      refine ⟨(r0, r1, r2, r3, xs.getD i 0), fun _ => ⟨he, rfl, fun k hk => ?_⟩⟩
      match k, hk with
      | 0, _ => exact c0
      | 1, _ => exact c1
      | 2, _ => exact c2
      | 3, _ => exact c3
    · exact ⟨(0, 0, 0, 0, 0), fun h => absurd h hi⟩
  have hsp := fun i => Classical.choose_spec (hq i)
  generalize (fun i => Classical.choose (hq i)) = F at hsp
  refine ⟨b, off, (List.range n).map (fun i => Classical.choose (hq i)), hA, hb, by simp, ?_, ?_, ?_⟩
  · intro q hq'
    obtain ⟨i, hi, rfl⟩ := List.mem_map.1 hq'
    exact (hsp i (List.mem_range.1 hi)).1
  · apply List.ext_getElem
    · simp [h.len]
    · intro i h1 h2
      have hi : i < n := by simpa using h1
      simp only [List.getElem_map, List.getElem_range]
      rw [(hsp i hi).2.1]
      simp [List.getD_eq_getElem?_getD, h2]
  · intro j u hj
    have hlen := flat_length ((List.range n).map (fun i => Classical.choose (hq i)))
    have hjl : j < n * 4 := by
      have := (List.getElem?_eq_some_iff.1 hj).1
      rw [hlen] at this
      simpa using this
    have hi : j / 4 < n := by omega
    have hg := flat_get ((List.range n).map (fun i => Classical.choose (hq i))) (j / 4) (Classical.choose (hq (j / 4))) (by rw [List.getElem?_map, List.getElem?_range hi]; rfl) (j % 4) (by omega)
    rw [show j / 4 * 4 + j % 4 = j by omega, hj] at hg
    have hadd := add_flat b off j
    have := (hsp (j / 4) hi).2.2 (j % 4) (by omega)
    rw [← hg, show off + j / 4 * 4 + j % 4 = off + j by omega] at this
    rw [hadd, this]

end Go.Proofs.YtdepkfdceidikaaGreatDoor
/-
  calc.Run: what the call does.
-/
namespace Go.Proofs.YtdepkfdceidikaaGreatDoor
open Go.RowKit
set_option linter.unusedVariables false

/-- The slice of n steps at A reads as st, and lies below block B. -/
structure RdS (w : World) (B : Nat) (A : Option Addr) (n : Nat) (st : List (Int × Nat)) : Prop where
  len : st.length = n
  lt : ∀ s ∈ st, s.2 < 18446744073709551616
  cells : 0 < n → ∃ b off, A = some ⟨b, off, none⟩ ∧ b < B ∧ ∀ i, i < n → w.cell? ⟨b, off + i * 2, none⟩ = some (.int .i64 (st.getD i (0, 0)).1) ∧ w.cell? ⟨b, off + i * 2 + 1, none⟩ = some (.int .u64 (((st.getD i (0, 0)).2 : Nat) : Int))
theorem RdS.below {w w' : World} {B B' n : Nat} {A : Option Addr} {l : List (Int × Nat)} (h : RdS w B A n l) (hb : Below B' w w') (hB : B ≤ B') : RdS w' B A n l :=
  ⟨h.len, h.lt, fun hn => by
    obtain ⟨b, off, e, hbB, hc⟩ := h.cells hn
    have k : ∀ i, w'.cell? ⟨b, i, none⟩ = w.cell? ⟨b, i, none⟩ := fun i => hb.cell (p := ⟨b, i, none⟩) (Nat.lt_of_lt_of_le hbB hB)
    exact ⟨b, off, e, hbB, fun i hi => ⟨(k _).trans (hc i hi).1, (k _).trans (hc i hi).2⟩⟩⟩
theorem RdS.more {w : World} {B B' n : Nat} {A : Option Addr} {l : List (Int × Nat)} (h : RdS w B A n l) (hB : B ≤ B') : RdS w B' A n l :=
  ⟨h.len, h.lt, fun hn => by
    obtain ⟨b, off, e, hb, hc⟩ := h.cells hn
    exact ⟨b, off, e, by omega, hc⟩⟩
theorem RdS.nil (w : World) (B : Nat) (A : Option Addr) : RdS w B A 0 [] := ⟨rfl, fun s hs => by simp at hs, fun h => absurd h (by omega)⟩
theorem RdS.up {w w' : World} {B n : Nat} {A : Option Addr} {l : List (Int × Nat)} (h : RdS w B A n l) (hb : Below w.heap.size w w') (hB : B ≤ w.heap.size) : RdS w' w'.heap.size A n l := (h.below hb hB).more (Nat.le_trans hB hb.size)

theorem drop_at (st : List (Int × Nat)) (k : Nat) (h : k < st.length) : st.drop k = st.getD k (0, 0) :: st.drop (k + 1) := by
  rw [List.drop_eq_getElem_cons h]
  simp [List.getD_eq_getElem?_getD, h]
theorem runL_bad (st : List (Int × Nat)) (k : Nat) (xs : List Nat) (h : k < st.length) (e : Nat) (he : stepE (st.getD k (0, 0)).1 (st.getD k (0, 0)).2 xs = e) (h0 : e ≠ 0) : runL (st.drop k) k xs = ([], (k : Int), e) := by
  rw [drop_at st k h, runL, if_neg (by rw [he]; exact h0), he]
theorem runL_good (st : List (Int × Nat)) (k : Nat) (xs : List Nat) (h : k < st.length) (he : stepE (st.getD k (0, 0)).1 (st.getD k (0, 0)).2 xs = 0) : runL (st.drop k) k xs = runL (st.drop (k + 1)) (k + 1) (act (st.getD k (0, 0)).1.toNat (st.getD k (0, 0)).2 xs) := by
  rw [drop_at st k h, runL, if_pos he]
theorem runL_end (st : List (Int × Nat)) (k : Nat) (xs : List Nat) (h : st.length ≤ k) : runL (st.drop k) k xs = (xs, -1, 0) := by
  rw [List.drop_eq_nil_of_le h]; rfl

end Go.Proofs.YtdepkfdceidikaaGreatDoor
/-
  Rows of steps that a call makes, appends to and changes; avouchlaw03.of, first, speaks.
-/
namespace Go.Proofs.YtdepkfdceidikaaGreatDoor
open Go.RowKit
set_option linter.unusedVariables false

abbrev St := Int × Nat
def sc (s : St) : List Value := [.int .i64 s.1, .int .u64 ((s.2 : Nat) : Int)]
def flatS : List St → List Value
  | [] => []
  | s :: L => sc s ++ flatS L
theorem flatS_append (L M : List St) : flatS (L ++ M) = flatS L ++ flatS M := by
  induction L with
  | nil => rfl
  | cons q L ih => simp [flatS, ih]
theorem flatS_length (L : List St) : (flatS L).length = L.length * 2 := by
  induction L with
  | nil => rfl
  | cons q L ih => simp [flatS, sc, ih]; omega
theorem flatS_one (L : List St) : ∀ u ∈ flatS L, u.oneCell' = true := by
  induction L with
  | nil => intro u hu; simp [flatS] at hu
  | cons q L ih =>
    intro u hu
    simp only [flatS, List.mem_append] at hu
    rcases hu with h | h
    · simp only [sc, List.mem_cons, List.not_mem_nil, or_false] at h
      rcases h with rfl | rfl <;> rfl
    · exact ih u h
theorem flatS_get (L : List St) : ∀ (i : Nat) (q : St), L[i]? = some q → ∀ k, k < 2 → (flatS L)[i * 2 + k]? = (sc q)[k]? := by
  induction L with
  | nil => intro i q h; simp at h
  | cons p L ih =>
    intro i q h k hk
    cases i with
    | zero =>
      simp only [List.getElem?_cons_zero, Option.some.injEq] at h
      subst h
      simp only [flatS, Nat.zero_mul, Nat.zero_add]
      exact List.getElem?_append_left (by simp [sc]; exact hk)
    | succ i =>
      simp only [List.getElem?_cons_succ] at h
      have h1 := ih i q h k hk
      simp only [flatS]
      rw [List.getElem?_append_right (by simp [sc]; omega), ← h1]
      congr 1
      simp [sc]
      omega
theorem flatS_set (L : List St) : ∀ (i : Nat) (q : St), i < L.length → ((flatS L).set (i * 2) (.int .i64 q.1)).set (i * 2 + 1) (.int .u64 ((q.2 : Nat) : Int)) = flatS (L.set i q) := by
  induction L with
  | nil => intro i q h; simp at h
  | cons p L ih =>
    intro i q h
    cases i with
    | zero => simp [flatS, sc, List.set]
    | succ i =>
      have := ih i q (by simpa using h)
      simp only [flatS, List.set_cons_succ]
      rw [← this]
      have e : ∀ (j : Nat) (u : Value) (l : List Value), (sc p ++ l).set ((i + 1) * 2 + j) u = sc p ++ l.set (i * 2 + j) u := by
        intro j u l
        rw [List.set_append_right _ _ (by simp [sc]; omega)]
        congr 2
        simp [sc]; omega
      have e0 := e 0
      simp only [Nat.add_zero] at e0
      rw [e0, e 1]

/-- Parts of a row of steps. -/
theorem RdS.take {w : World} {B n : Nat} {A : Option Addr} {L : List St} (h : RdS w B A n L) (k : Nat) (hk : k ≤ n) : RdS w B A k (L.take k) :=
  ⟨by rw [List.length_take, h.len]; omega, fun s hs => h.lt s (List.mem_of_mem_take hs), fun h0 => by
    obtain ⟨b, off, e, hb, hc⟩ := h.cells (by omega)
    refine ⟨b, off, e, hb, fun i hi => ?_⟩
    rw [show (L.take k).getD i (0, 0) = L.getD i (0, 0) by simp [List.getD_eq_getElem?_getD, hi]]
    exact hc i (by omega)⟩
theorem RdS.rest {w : World} {B n b off : Nat} {L : List St} (h : RdS w B (some ⟨b, off, none⟩) n L) (k : Nat) (hk : k ≤ n) : RdS w B (some ⟨b, off + k * 2, none⟩) (n - k) (L.drop k) :=
  ⟨by rw [List.length_drop, h.len], fun s hs => h.lt s (List.mem_of_mem_drop hs), fun h0 => by
    obtain ⟨b', off', e, hb, hc⟩ := h.cells (by omega)
    injection e with e
    injection e with e1 e2
    subst e1 e2
    refine ⟨b, off + k * 2, rfl, hb, fun i hi => ?_⟩
    rw [show (L.drop k).getD i (0, 0) = L.getD (k + i) (0, 0) by simp [List.getD_eq_getElem?_getD]]
    have := hc (k + i) (by omega)
    rw [show off + (k + i) * 2 = off + k * 2 + i * 2 by omega] at this
    exact this⟩

/-- One element of a row, kept through calls. -/
structure EnvP (w0 : World) (g : Nat) (x0 x1 x2 x3 : Int) (w : World) : Prop where
  gl : Glob w
  sz : g < w.heap.size
  c : w.cell? ⟨g, 0, none⟩ = some (.int .u64 x0) ∧ w.cell? ⟨g, 1, none⟩ = some (.int .u64 x1) ∧ w.cell? ⟨g, 2, none⟩ = some (.int .u64 x2) ∧ w.cell? ⟨g, 3, none⟩ = some (.int .u64 x3)
  b : Below w0.heap.size w0 w
theorem EnvP.up {w0 : World} {g : Nat} {x0 x1 x2 x3 : Int} {w w' : World} (h : EnvP w0 g x0 x1 x2 x3 w) (hb : Below w.heap.size w w') : EnvP w0 g x0 x1 x2 x3 w' := by
  have k : ∀ i, w'.cell? ⟨g, i, none⟩ = w.cell? ⟨g, i, none⟩ := fun i => hb.cell (p := ⟨g, i, none⟩) h.sz
  obtain ⟨c0, c1, c2, c3⟩ := h.c
  exact ⟨h.gl.up hb, Nat.lt_of_lt_of_le h.sz hb.size, ⟨(k _).trans c0, (k _).trans c1, (k _).trans c2, (k _).trans c3⟩, h.b.trans (hb.mono h.b.size)⟩

theorem from15_c (w : World) (hG : Glob w) : Calls Tryz.prog 26 #[.int .u64 15] w fun e w' => ∃ r, e = .returned r ∧ El r 15 ∧ Below w.heap.size w w' := fromUint64_c 15 w (by decide) hG
theorem speaks_runs : runA [(0, 3), (0, 5), (3, 0)] [] = ([15], -1, 0) := by decide

end Go.Proofs.YtdepkfdceidikaaGreatDoor
/-
  Rows of slices that a call makes (stacks of digits).
-/
namespace Go.Proofs.YtdepkfdceidikaaGreatDoor
open Go.RowKit
set_option linter.unusedVariables false

def isSl : Value → Bool
  | .slice _ _ _ => true
  | _ => false
theorem isSl_one {v : Value} (h : isSl v = true) : v.oneCell' = true := by
  cases v <;> simp [isSl] at h
  rfl
/-- The slice v owns the slices ds, among the blocks from base on; nothing but slices lies in its block. -/
structure RowV (w : World) (base : Nat) (v : Value) (ds : List Value) : Prop where
  ex : ∃ g cap cur, v = .slice (some ⟨g, 0, none⟩) ds.length cap ∧ base ≤ g ∧ w.heap[g]? = some (.cells cur 50 (0, 0)) ∧ ds.length ≤ cap ∧ cap ≤ maxLen ∧ cur.size = cap ∧ cur.toList.take ds.length = ds ∧ ∀ c ∈ cur.toList, isSl c = true
theorem RowV.kept {w w' : World} {b : Nat} {v : Value} {ds : List Value} {row : Option Nat} (h : RowV w b v ds) (hg : w.grownBy w' row) (hne : v.ownBlock ≠ row) : RowV w' b v ds := by
  obtain ⟨g, cap, cur, rfl, h1, h2, h3⟩ := h.ex
  exact ⟨g, cap, cur, rfl, h1, (hg.block g (Array.getElem?_eq_some_iff.1 h2).1 hne).trans h2, h3⟩
theorem RowV.below {w w' : World} {b : Nat} {v : Value} {ds : List Value} (h : RowV w b v ds) (hb : Below w.heap.size w w') : RowV w' b v ds := by
  refine h.kept (gb_below hb none) ?_
  obtain ⟨g, cap, cur, rfl, _⟩ := h.ex
  simp [Value.ownBlock]
theorem RowV.alloc {w : World} {b : Nat} {v : Value} {ds : List Value} (h : RowV w b v ds) (o : Obj) : RowV (w.alloc o) b v ds := h.below ((Below.refl _ _).alloc (Nat.le_refl _) _)
theorem RowV.mono {w : World} {b b' : Nat} {v : Value} {ds : List Value} (h : RowV w b v ds) (hb : b' ≤ b) : RowV w b' v ds := by
  obtain ⟨g, cap, cur, h0, h1, h2⟩ := h.ex
  exact ⟨g, cap, cur, h0, Nat.le_trans hb h1, h2⟩
theorem RowV.lt {w : World} {b : Nat} {v : Value} {ds : List Value} (h : RowV w b v ds) : ∀ k, v.ownBlock = some k → b ≤ k ∧ k < w.heap.size := by
  obtain ⟨g, cap, cur, rfl, h1, h2, _⟩ := h.ex
  intro k hk
  simp [Value.ownBlock] at hk
  subst hk
  exact ⟨h1, (Array.getElem?_eq_some_iff.1 h2).1⟩
theorem RowV.sl {w : World} {b : Nat} {v : Value} {ds : List Value} (h : RowV w b v ds) : ∀ d ∈ ds, isSl d = true := by
  obtain ⟨g, cap, cur, rfl, h1, h2, h3, h4, h5, h6, h7⟩ := h.ex
  intro d hd
  rw [← h6] at hd
  exact h7 d (List.mem_of_mem_take hd)
theorem RowV.new (w : World) (base : Nat) (hb : base ≤ w.heap.size) : RowV (w.alloc (.cells #[] 50)) base (.slice (some ⟨w.heap.size, 0, none⟩) 0 0) [] :=
  ⟨w.heap.size, 0, #[], rfl, hb, heap_alloc_new w _, Nat.le_refl _, by decide, rfl, rfl, fun c hc => by simp at hc⟩
/-- The cell of the i-th slice. -/
theorem RowV.cell {w : World} {base g n cap : Nat} {ds : List Value} (h : RowV w base (.slice (some ⟨g, 0, none⟩) n cap) ds) (i : Nat) (hi : i < ds.length) : w.cell? ⟨g, i, none⟩ = some (ds.getD i undef) ∧ ∀ j, w.frozen? ⟨g, j, none⟩ = false := by
  obtain ⟨g', cap', cur, e, h1, h2, h3, h4, h5, h6, h7⟩ := h.ex
  injection e with e1 e2 e3
  injection e1 with e1
  injection e1 with e1
  subst e1
  refine ⟨?_, fun j => frozen_of_row w g j cur _ h2⟩
  rw [cell_of_row w g i cur _ (0, 0) h2, List.getD_eq_getElem?_getD]
  have : ds[i]? = cur.toList[i]? := by
    conv => lhs; rw [← h6]
    rw [List.getElem?_take, if_pos hi]
  rw [show cur[i]? = cur.toList[i]? by simp, ← this, List.getElem?_eq_getElem hi]
  rfl
/-- A store into a place of the row. -/
theorem RowV.set {w : World} {base g n cap : Nat} {ds : List Value} (h : RowV w base (.slice (some ⟨g, 0, none⟩) n cap) ds) (i : Nat) (hi : i < ds.length) (d : Value) (hd : isSl d = true) :
    RowV (w.setCell ⟨g, i, none⟩ d) base (.slice (some ⟨g, 0, none⟩) n cap) (ds.set i d) := by
  obtain ⟨g', cap', cur, e, h1, h2, h3, h4, h5, h6, h7⟩ := h.ex
  injection e with e1 e2 e3
  injection e1 with e1
  injection e1 with e1
  subst e1 e2 e3
  refine ⟨g, cap, cur.setIfInBounds i d, by rw [List.length_set], h1, heap_setCell_same w g i cur _ d h2, by rw [List.length_set]; exact h3, h4, by simpa using h5, ?_, ?_⟩
  · rw [List.length_set, Array.toList_setIfInBounds, List.take_set, h6]
  · intro c hc
    rw [Array.toList_setIfInBounds] at hc
    rcases List.mem_or_eq_of_mem_set hc with h | rfl
    · exact h7 c h
    · exact hd
theorem RowV.cut {w : World} {base g n cap : Nat} {ds : List Value} (h : RowV w base (.slice (some ⟨g, 0, none⟩) n cap) ds) (m : Nat) (hm : m ≤ n) : RowV w base (.slice (some ⟨g, 0, none⟩) m cap) (ds.take m) := by
  obtain ⟨g', cap', cur, e, h1, h2, h3, h4, h5, h6, h7⟩ := h.ex
  injection e with e1 e2 e3
  injection e1 with e1
  injection e1 with e1
  subst e1 e2 e3
  have hl : (ds.take m).length = m := by rw [List.length_take]; omega
  refine ⟨g, cap, cur, by rw [hl], h1, h2, by rw [hl]; omega, h4, h5, ?_, h7⟩
  rw [hl, ← h6, List.take_take, Nat.min_eq_left hm]

theorem sl_info : (Tryz.prog.info? 50).map (fun i => (i.zero, i.size, i.bytes)) = some (some (.slice none 0 0), 1, 24) := by kernel_rfl
theorem zeroCells_sl (n : Nat) : ∀ c ∈ (Builtin.zeroCells (Value.slice none 0 0).cells n).toList, isSl c = true := by
  intro c hc
  simp only [Builtin.zeroCells, Value.cells] at hc
  simp at hc
  obtain ⟨i, _, rfl⟩ := hc
  simp [Nat.mod_one, isSl]

theorem run_append_row (w : World) (base : Nat) (ty : TypeId) (v : Value) (ds ms : List Value) (hR : RowV w base v ds) (hms : ∀ m ∈ ms, isSl m = true) (a : Addr) (c : Nat) (hM : 0 < ms.length)
    (hnews : ∀ j u, ms[j]? = some u → w.cell? (a.add j) = some u) (hlen : ds.length + ms.length ≤ 100000) (hbase : base ≤ w.heap.size) :
    ∃ v' w', (Builtin.append_ #[28, 28] ty #[v, .slice (some a) ms.length c]).run Tryz.prog w = .ok v' w' ∧ RowV w' base v' (ds ++ ms) ∧ w.grownBy w' v.ownBlock ∧
      (v'.ownBlock = v.ownBlock ∨ ∃ k, v'.ownBlock = some k ∧ w.heap.size ≤ k) := by
  obtain ⟨i0, hi, hz, hs1, hb⟩ := info_parts sl_info
  obtain ⟨g, cap, cur, rfl, h1, h2, h3, h4, h5, h6, h7⟩ := hR.ex
  have hone : ∀ u ∈ ms, u.oneCell' = true := fun u hu => isSl_one (hms u hu)
  by_cases hroom : ds.length + ms.length ≤ cap
  · have hr := run_append_room (P := Tryz.prog) w 28 ty 50 i0 Tryz.underlying28 hi g ds.length cap cur h2 a ms.length c ms (by rw [hs1]; omega) hnews hone hroom (by rw [hs1]; omega)
    refine ⟨_, _, hr, ⟨g, cap, _, by rw [List.length_append], h1, setRow_heap w g cur _ _ _ h2, by rw [List.length_append]; exact hroom, h4, ?_, ?_, ?_⟩, ⟨rfl, rfl, rfl, by simp, fun k _ hk => setRow_other w g k _ (fun e => hk (by simp [Value.ownBlock, e]))⟩, Or.inl rfl⟩
    · rw [hs1]
      simp only [List.size_toArray, List.length_append, List.length_take, List.length_drop, Array.length_toList]
      omega
    · rw [hs1, Nat.mul_one, h6]
      rw [List.take_append_of_le_length (by simp), List.take_of_length_le (by simp)]
    · intro x hx
      simp only [List.mem_append] at hx
      rcases hx with (hx | hx) | hx
      · exact h7 x (List.mem_of_mem_take hx)
      · exact hms x hx
      · exact h7 x (List.mem_of_mem_drop hx)
  · have holds : ∀ j u, ds[j]? = some u → w.cell? ((⟨g, 0, none⟩ : Addr).add j) = some u := by
      intro j u hj
      have hjl := (List.getElem?_eq_some_iff.1 hj).1
      have := (hR.cell j hjl).1
      rw [add_flat, Nat.zero_add, this, List.getD_eq_getElem?_getD, hj]
      rfl
    have hr := run_append_grow (P := Tryz.prog) w 28 ty 50 i0 _ Tryz.underlying28 hi hz ⟨g, 0, none⟩ ds.length cap ds (by rw [hs1]; omega) holds a ms.length c ms (by rw [hs1]; omega) hnews (by omega) (by omega)
      (by rw [hb]; have := nextslicecap_le (need := ds.length + ms.length) (old := cap) (by omega); omega)
    have hge := grownCap_ge w (ds.length + ms.length) cap 50
    refine ⟨_, _, hr, ⟨w.heap.size, _, _, by rw [List.length_append], hbase, heap_alloc_new w.drew _, by rw [List.length_append]; exact hge, grownCap_le_maxLen w _ _ _ (by unfold maxLen; omega), ?_, ?_, ?_⟩, gb_below (((Below.refl _ _).drew).alloc (Nat.le_refl _) _) _, Or.inr ⟨_, rfl, Nat.le_refl _⟩⟩
    · simp only [Array.size_append, List.size_toArray, size_zeroCells]
      rw [show (Value.slice none 0 0).cells.size = 1 from rfl]
      omega
    · simp only [Array.toList_append]
      rw [List.take_append_of_le_length (by simp), List.take_of_length_le (by simp)]
    · intro x hx
      simp only [Array.toList_append, List.mem_append] at hx
      rcases hx with (hx | hx) | hx
      · exact hR.sl x hx
      · exact hms x hx
      · exact zeroCells_sl _ x hx
end Go.Proofs.YtdepkfdceidikaaGreatDoor
/-
  avouchref02.Of gives new memory; avouchlaw03.first: what the call does.
-/
namespace Go.Proofs.YtdepkfdceidikaaGreatDoor
open Go.RowKit
set_option linter.unusedVariables false

/-- What came back lies in memory that was not there before. -/
def Fresh (w : World) (e : Ending) : Prop := ∃ A m c, e = .returned (.slice A m c) ∧ ∀ a : Addr, A = some a → w.heap.size ≤ a.block

/-- A stack of digits, as it is handed on. -/
structure Digs (w : World) (v : Value) (Xs : List Nat) : Prop where
  ex : ∃ A c, v = .slice A Xs.length c ∧ Xs.length ≤ c ∧ c ≤ maxLen ∧ (0 < Xs.length → ∃ b, A = some ⟨b, 0, none⟩ ∧ b < w.heap.size ∧ ∀ i, i < Xs.length → ∃ d, isSl d = true ∧ w.cell? ⟨b, i, none⟩ = some d ∧ Dg w d (Xs.getD i 0))
theorem Digs.up {w w' : World} {v : Value} {Xs : List Nat} (h : Digs w v Xs) (hb : Below w.heap.size w w') : Digs w' v Xs := by
  obtain ⟨A, c, h1, h2, h3, h4⟩ := h.ex
  refine ⟨A, c, h1, h2, h3, fun h0 => ?_⟩
  obtain ⟨b, e, hbB, hc⟩ := h4 h0
  refine ⟨b, e, Nat.lt_of_lt_of_le hbB hb.size, fun i hi => ?_⟩
  obtain ⟨d, q1, q2, q3⟩ := hc i hi
  exact ⟨d, q1, (hb.cell (p := ⟨b, i, none⟩) hbB).trans q2, q3.up hb⟩
theorem Dg.sl {w : World} {d : Value} {X : Nat} (h : Dg w d X) : isSl d = true := by
  obtain ⟨A, c, l, rfl, _⟩ := h.ex
  rfl
/-- Digits do not change where a block changes that holds none. -/
theorem Dg.kept {w w' : World} {d : Value} {X : Nat} {row : Option Nat} (h : Dg w d X) (hg : w.grownBy w' row) (hs : ∀ a n c, d = .slice (some a) n c → 0 < n → some a.block ≠ row) : Dg w' d X := by
  obtain ⟨A, c, l, rfl, h1, h2, h3, h4⟩ := h.ex
  refine ⟨A, c, l, rfl, h1, h2, ⟨h3.len, h3.lt, fun h0 => ?_⟩, h4⟩
  obtain ⟨b, off, e, hb, hc⟩ := h3.cells h0
  refine ⟨b, off, e, Nat.lt_of_lt_of_le hb hg.size, fun i hi => ?_⟩
  have hne := hs ⟨b, off, none⟩ l.length c (by rw [e]) h0
  exact (World.cell?_of_block (a := ⟨b, off + i, none⟩) (hg.block b hb hne)).trans (hc i hi)
/-- Digits lie in no block of slices. -/
theorem Dg.off {w : World} {d : Value} {X base : Nat} {v : Value} {ds : List Value} (h : Dg w d X) (hr : RowV w base v ds) : ∀ a n c, d = .slice (some a) n c → 0 < n → some a.block ≠ v.ownBlock := by
  intro a n c e hn
  obtain ⟨A, c', l, rfl, h1, h2, h3, h4⟩ := h.ex
  injection e with e1 e2 e3
  subst e1 e2
  obtain ⟨b, off, e, hb, hc⟩ := h3.cells hn
  injection e with e
  subst e
  obtain ⟨g, cap, cur, rfl, g1, g2, g3, g4, g5, g6, g7⟩ := hr.ex
  intro e
  simp only [Value.ownBlock, Option.some.injEq] at e
  subst e
  have := hc 0 hn
  rw [cell_of_row w b (off + 0) cur _ (0, 0) g2] at this
  have hm : (.int .u64 (at64 l 0) : Value) ∈ cur.toList := by
    rw [Array.mem_toList_iff]
    exact Array.mem_of_getElem? this
  have := g7 _ hm
  simp [isSl] at this

/-- All of a row's slices are digits. -/
def AllD (w : World) (ds : List Value) (Xs : List Nat) : Prop := ds.length = Xs.length ∧ ∀ i, i < Xs.length → Dg w (ds.getD i undef) (Xs.getD i 0)
theorem AllD.up {w w' : World} {ds : List Value} {Xs : List Nat} (h : AllD w ds Xs) (hb : Below w.heap.size w w') : AllD w' ds Xs := ⟨h.1, fun i hi => (h.2 i hi).up hb⟩
theorem AllD.snoc {w : World} {ds : List Value} {Xs : List Nat} (h : AllD w ds Xs) {d : Value} {X : Nat} (hd : Dg w d X) : AllD w (ds ++ [d]) (Xs ++ [X]) := by
  refine ⟨by simp [h.1], fun i hi => ?_⟩
  by_cases hlt : i < Xs.length
  · have e1 : (ds ++ [d]).getD i undef = ds.getD i undef := by simp [List.getD_eq_getElem?_getD, List.getElem?_append_left (show i < ds.length by rw [h.1]; exact hlt)]
    have e2 : (Xs ++ [X]).getD i 0 = Xs.getD i 0 := by simp [List.getD_eq_getElem?_getD, List.getElem?_append_left hlt]
    rw [e1, e2]
    exact h.2 i hlt
  · have : i = Xs.length := by simp at hi; omega
    subst this
    have e1 : (ds ++ [d]).getD Xs.length undef = d := by rw [← h.1]; simp [List.getD_eq_getElem?_getD]
    have e2 : (Xs ++ [X]).getD Xs.length 0 = X := getD_top Xs X
    rw [e1, e2]
    exact hd
theorem AllD.take {w : World} {ds : List Value} {Xs : List Nat} (h : AllD w ds Xs) (m : Nat) : AllD w (ds.take m) (Xs.take m) := by
  refine ⟨by rw [List.length_take, List.length_take, h.1], fun i hi => ?_⟩
  rw [List.length_take] at hi
  have hm : i < m := by omega
  have e1 : (ds.take m).getD i undef = ds.getD i undef := by simp [List.getD_eq_getElem?_getD, hm]
  have e2 : (Xs.take m).getD i 0 = Xs.getD i 0 := by simp [List.getD_eq_getElem?_getD, hm]
  rw [e1, e2]
  exact h.2 i (by omega)
theorem AllD.set {w : World} {ds : List Value} {Xs : List Nat} (h : AllD w ds Xs) (k : Nat) {d : Value} {X : Nat} (hd : Dg w d X) : AllD w (ds.set k d) (Xs.set k X) := by
  refine ⟨by rw [List.length_set, List.length_set, h.1], fun i hi => ?_⟩
  rw [List.length_set] at hi
  have hi2 : i < ds.length := by rw [h.1]; exact hi
  by_cases hk : k = i
  · subst hk
    rw [show (ds.set k d).getD k undef = d by simp [List.getD_eq_getElem?_getD, hi2], show (Xs.set k X).getD k 0 = X by simp [List.getD_eq_getElem?_getD, hi]]
    exact hd
  · rw [show (ds.set k d).getD i undef = ds.getD i undef by simp [List.getD_eq_getElem?_getD, List.getElem?_set_ne hk], show (Xs.set k X).getD i 0 = Xs.getD i 0 by simp [List.getD_eq_getElem?_getD, List.getElem?_set_ne hk]]
    exact h.2 i hi
theorem AllD.kept {w w' : World} {base : Nat} {v : Value} {es ds : List Value} {Xs : List Nat} (h : AllD w ds Xs) (hr : RowV w base v es) (hg : w.grownBy w' v.ownBlock) : AllD w' ds Xs :=
  ⟨h.1, fun i hi => (h.2 i hi).kept hg (fun a n c e hn => (h.2 i hi).off hr a n c e hn)⟩
theorem RowV.digs {w : World} {base : Nat} {v : Value} {ds : List Value} {Xs : List Nat} (h : RowV w base v ds) (hd : AllD w ds Xs) : Digs w v Xs := by
  obtain ⟨g, cap, cur, e, h1, h2, h3, h4, h5⟩ := h.ex
  subst e
  refine ⟨some ⟨g, 0, none⟩, cap, by rw [← hd.1], by rw [← hd.1]; exact h3, h4, fun _ => ⟨g, rfl, (Array.getElem?_eq_some_iff.1 h2).1, fun i hi => ⟨ds.getD i undef, ?_, (h.cell i (by rw [hd.1]; exact hi)).1, hd.2 i hi⟩⟩⟩
  exact (hd.2 i hi).sl
theorem Digs.nil (w : World) : Digs w (.slice none 0 0) [] := ⟨none, 0, rfl, Nat.le_refl _, by decide, fun h => absurd h (by decide)⟩

/-- append of one slice that was just laid out. -/
theorem app_row {ops : Array Oper} {rest : List Oper} {o : Oper} {a : Act} {Q : Exit → Act → World → Prop} {w : World} (hgd : o.guard = none) (s x : Operand)
    (ho : o.op = .call { callee := .builtin .append, args := #[s, x], argTypes := #[28, 28] })
    (v : Value) (base : Nat) (ds : List Value) (d : Value) (hs : a.eval s = v) (hx : a.eval x = .slice (some ⟨w.heap.size, 0, none⟩) 1 1) (hR : RowV w base v ds) (hl : ds.length ≤ 1000) (hbase : base ≤ w.heap.size) (hd : isSl d = true)
    (h : ∀ v' w', RowV w' base v' (ds ++ [d]) → Moved w w' v v' → wpList Tryz.prog ops Q rest (a.put o.dst v') w') :
    wpList Tryz.prog ops Q (o :: rest) a (w.alloc (.cells #[d] 50)) := by
  refine wpList_plain hgd fun K hK => ?_
  have hb1 : Below w.heap.size w (w.alloc (.cells #[d] 50)) := (Below.refl _ _).alloc (Nat.le_refl _) _
  obtain ⟨v', w', hr, g2, g3, g4⟩ := run_append_row (w.alloc (.cells #[d] 50)) base o.type v ds [d] (hR.alloc _) (fun m hm => by rw [List.mem_singleton.1 hm]; exact hd) ⟨w.heap.size, 0, none⟩ 1 (by simp)
    (fun j u hj => by
      rw [add_flat, Nat.zero_add, cell_of_row _ _ j _ _ (0, 0) (heap_alloc_new w _), ← hj]
      simp) (by simp; omega) (by simp; omega)
  unfold Oper.wp execOp
  simp only [List.length_cons, List.length_nil, Nat.zero_add] at hr
  simp only [ho, resolve, invoke, builtin, Sem.run_bind, Sem.run_pure, Result.andThen_ok, List.map_toArray, List.map_cons, List.map_nil, hs, hx, hr]
  exact hK _ _ (h v' w' g2 (Moved.pre ⟨g3, g4⟩ hb1))
end Go.Proofs.YtdepkfdceidikaaGreatDoor
