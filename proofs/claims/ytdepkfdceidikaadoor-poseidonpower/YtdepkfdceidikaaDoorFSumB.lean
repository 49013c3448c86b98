import Derived.Test.YtdepkfdceidikaaDoorFldJ
import Derived.Test.YtdepkfdceidikaaDoorBytes0
import Derived.Laws.OwnMore
/-
  Rows of field elements that a call makes and appends to.
-/
namespace Go.Proofs.YtdepkfdceidikaaDoor
open Go.RowKit
set_option linter.unusedVariables false

/-- An element's four words, and its number. -/
abbrev Qd := Int × Int × Int × Int × Nat
def qc (q : Qd) : List Value := [.int .u64 q.1, .int .u64 q.2.1, .int .u64 q.2.2.1, .int .u64 q.2.2.2.1]
def qv (q : Qd) : Value := .agg #[.int .u64 q.1, .int .u64 q.2.1, .int .u64 q.2.2.1, .int .u64 q.2.2.2.1]
def qn (q : Qd) : Nat := q.2.2.2.2
def flat : List Qd → List Value
  | [] => []
  | q :: L => qc q ++ flat L
theorem flat_append (L M : List Qd) : flat (L ++ M) = flat L ++ flat M := by
  induction L with
  | nil => rfl
  | cons q L ih => simp [flat, ih]
theorem flat_length (L : List Qd) : (flat L).length = L.length * 4 := by
  induction L with
  | nil => rfl
  | cons q L ih => simp [flat, qc, ih]; omega
theorem flat_one (L : List Qd) : ∀ u ∈ flat L, u.oneCell' = true := by
  induction L with
  | nil => intro u hu; simp [flat] at hu
  | cons q L ih =>
    intro u hu
    simp only [flat, List.mem_append] at hu
    rcases hu with h | h
    · simp only [qc, List.mem_cons, List.not_mem_nil, or_false] at h
      rcases h with rfl | rfl | rfl | rfl <;> rfl
    · exact ih u h
theorem flat_get (L : List Qd) : ∀ (i : Nat) (q : Qd), L[i]? = some q → ∀ k, k < 4 → (flat L)[i * 4 + k]? = (qc q)[k]? := by
  induction L with
  | nil => intro i q h; simp at h
  | cons p L ih =>
    intro i q h k hk
    cases i with
    | zero =>
      simp only [List.getElem?_cons_zero, Option.some.injEq] at h
      subst h
      simp only [flat, Nat.zero_mul, Nat.zero_add]
      exact List.getElem?_append_left (by simp [qc]; exact hk)
    | succ i =>
      simp only [List.getElem?_cons_succ] at h
      have h1 := ih i q h k hk
      simp only [flat]
      rw [List.getElem?_append_right (by simp [qc]; omega), ← h1]
      congr 1
      simp [qc]
      omega

/-- The slice value v owns the elements L, among the blocks from base on. -/
abbrev OwnE (w : World) (base : Nat) (v : Value) (L : List Qd) : Prop := w.ownsRow base 27 4 v L.length (flat L)

theorem OwnE.rd {w : World} {base : Nat} {v : Value} {L : List Qd} (h : OwnE w base v L) (hel : ∀ q ∈ L, El (qv q) (qn q)) : ∃ A c, v = .slice A L.length c ∧ L.length ≤ c ∧ (c ≤ maxLen) ∧ RdE w w.heap.size A L.length (L.map qn) := by
  rcases h.2 with ⟨rfl, hn⟩ | ⟨g, cap, cur, rfl, hb, hg, hc, hm, _, ht⟩
  · rw [hn]
    have : L = [] := List.eq_nil_of_length_eq_zero hn
    subst this
    exact ⟨none, 0, rfl, Nat.le_refl _, by decide, rfl, fun h => absurd h (by decide)⟩
  · refine ⟨some ⟨g, 0, none⟩, cap, rfl, hc, hm, by simp, fun _ => ⟨g, 0, rfl, (Array.getElem?_eq_some_iff.1 hg).1, fun i hi => ?_⟩⟩
    have hq : L[i]? = some L[i] := List.getElem?_eq_getElem hi
    have hcell : ∀ k, k < 4 → w.cell? ⟨g, 0 + i * 4 + k, none⟩ = (qc L[i])[k]? := by
      intro k hk
      rw [Nat.zero_add, h.cellAt (i * 4 + k) (by omega)]
      exact flat_get L i _ hq k hk
    refine ⟨L[i].1, L[i].2.1, L[i].2.2.1, L[i].2.2.2.1, ?_, hcell 0 (by decide), hcell 1 (by decide), hcell 2 (by decide), hcell 3 (by decide)⟩
    have := hel L[i] (List.getElem_mem hi)
    simp only [List.getD_eq_getElem?_getD, List.getElem?_map, hq, Option.map_some, Option.getD_some]
    exact this

theorem OwnE.mono {w : World} {base base' : Nat} {v : Value} {L : List Qd} (h : OwnE w base v L) (hb : base' ≤ base) : OwnE w base' v L := by
  refine ⟨h.1, ?_⟩
  rcases h.2 with h' | ⟨g, cap, cur, h1, h2, h3⟩
  · exact Or.inl h'
  · exact Or.inr ⟨g, cap, cur, h1, Nat.le_trans hb h2, h3⟩
theorem OwnE.below {w w' : World} {base B : Nat} {v : Value} {L : List Qd} (h : OwnE w base v L) (hb : Below B w w') (hB : w.heap.size ≤ B) : OwnE w' base v L := by
  refine ⟨h.1, ?_⟩
  rcases h.2 with h' | ⟨g, cap, cur, h1, h2, h3, h4⟩
  · exact Or.inl h'
  · exact Or.inr ⟨g, cap, cur, h1, h2, by rw [hb.block g (Nat.lt_of_lt_of_le (Array.getElem?_eq_some_iff.1 h3).1 hB)]; exact h3, h4⟩

theorem el_info : (Tryd.prog.info? 27).map (fun i => (i.zero, i.size, i.bytes)) = some (some (.agg #[.int .u64 0, .int .u64 0, .int .u64 0, .int .u64 0]), 4, 32) := by kernel_rfl

/-- append onto an own row of elements: where the new row lies. -/
theorem run_append_els (w : World) (base : Nat) (ty : TypeId) (v : Value) (L M : List Qd) (hown : OwnE w base v L) (a : Addr) (c : Nat) (hM : 0 < M.length)
    (hnews : ∀ j u, (flat M)[j]? = some u → w.cell? (a.add j) = some u) (hlen : L.length + M.length ≤ 1000000) (hbase : base ≤ w.heap.size) :
    ∃ v' w', (Builtin.append_ #[89, 89] ty #[v, .slice (some a) M.length c]).run Tryd.prog w = .ok v' w' ∧ OwnE w' base v' (L ++ M) ∧ w.grownBy w' v.ownBlock ∧
      (v'.ownBlock = v.ownBlock ∨ ∃ k, v'.ownBlock = some k ∧ w.heap.size ≤ k) := by
  obtain ⟨i0, hi, hz, hs1, hb⟩ := info_parts el_info
  have hML : (flat M).length = M.length * 4 := flat_length M
  rcases hown.2 with ⟨rfl, hn⟩ | ⟨g, cap, cur, rfl, hbg, hg, hnc, hcm, hcs, htake⟩
  · have hL : L = [] := List.eq_nil_of_length_eq_zero hn
    subst hL
    obtain ⟨v', w', h1, h2, h3, h4⟩ := run_append_own (P := Tryd.prog) w w.heap.size 89 ty 27 i0 _ 4 32 Tryd.underlying89 hi hz hs1 hb rfl (by decide) (.slice none 0 0) 0 [] (World.ownsRow_nil w _ _ 4) a M.length c (flat M) hML hnews (flat_one M) (by unfold maxLen; omega) (by omega) (Nat.le_refl _)
    rw [Nat.zero_add, List.nil_append] at h2
    refine ⟨v', w', h1, OwnE.mono (L := M) h2 hbase, h3, Or.inr ?_⟩
    rcases h2.2 with ⟨rfl, h0⟩ | ⟨g, cap, cur, rfl, hbg, _⟩
    · omega
    · exact ⟨g, rfl, hbg⟩
  · obtain ⟨v', w', h1, h2, h3, h4⟩ := run_append_own (P := Tryd.prog) w base 89 ty 27 i0 _ 4 32 Tryd.underlying89 hi hz hs1 hb rfl (by decide) _ L.length (flat L) hown a M.length c (flat M) hML hnews (flat_one M) (by unfold maxLen; omega) (by omega) hbase
    refine ⟨v', w', h1, ?_, h3, ?_⟩
    · show World.ownsRow _ _ _ _ _ (L ++ M).length _
      rw [flat_append, List.length_append]
      exact h2
    · by_cases hroom : L.length + M.length ≤ cap
      · obtain ⟨w'', h5, _, _⟩ := run_append_fits (P := Tryd.prog) w base 89 ty 27 i0 4 Tryd.underlying89 hi hs1 g L.length cap (flat L) hown a M.length c (flat M) hML hnews (flat_one M) hroom
        rw [h1] at h5
        simp only [Result.ok.injEq] at h5
        rw [h5.1]
        exact Or.inl rfl
      · have h6 := run_append_grow (P := Tryd.prog) w 89 ty 27 i0 _ Tryd.underlying89 hi hz ⟨g, 0, none⟩ L.length cap (flat L) (by rw [hs1]; exact flat_length L) (hown.cells rfl) a M.length c (flat M) (by rw [hs1]; exact hML) hnews (by omega) (by omega)
          (by rw [hb]; have := nextslicecap_le (need := L.length + M.length) (old := cap) (by omega); omega)
        rw [h1] at h6
        simp only [Result.ok.injEq] at h6
        rw [h6.1]
        exact Or.inr ⟨_, rfl, Nat.le_refl _⟩
end Go.Proofs.YtdepkfdceidikaaDoor
/-
  Two rows of elements, one grown behind and one grown in front, as avouchlaw02.FieldSums makes them.
-/
namespace Go.Proofs.YtdepkfdceidikaaDoor
open Go.RowKit
set_option linter.unusedVariables false

structure Two (w0 w : World) (va vt : Value) (L : List Qd) : Prop where
  a : OwnE w w0.heap.size va L
  t : OwnE w w0.heap.size vt L.reverse
  ne : vt.ownBlock = none ∨ vt.ownBlock ≠ va.ownBlock
  z : L.length = 0 → vt = .slice none 0 0
  b : Below w0.heap.size w0 w
structure Mid (w0 w : World) (va vt : Value) (L : List Qd) (q : Qd) (be : Nat) : Prop where
  a : OwnE w w0.heap.size va (L ++ [q])
  t : OwnE w w0.heap.size vt L.reverse
  ne : vt.ownBlock = none ∨ vt.ownBlock ≠ va.ownBlock
  z : L.length = 0 → vt = .slice none 0 0
  e : B4 w be q.1 q.2.1 q.2.2.1 q.2.2.2.1
  b : Below w0.heap.size w0 w
theorem Two.up {w0 w w' : World} {va vt : Value} {L : List Qd} (h : Two w0 w va vt L) (hb : Below w.heap.size w w') : Two w0 w' va vt L :=
  ⟨h.a.below hb (Nat.le_refl _), h.t.below hb (Nat.le_refl _), h.ne, h.z, h.b.trans (hb.mono h.b.size)⟩
theorem two_nil (w : World) : Two w w (.slice none 0 0) (.slice none 0 0) [] := ⟨World.ownsRow_nil w _ _ 4, World.ownsRow_nil w _ _ 4, Or.inl rfl, fun _ => rfl, Below.refl _ _⟩
theorem B4.grownBy {w w' : World} {b : Nat} {row : Option Nat} {a0 a1 a2 a3 : Int} (h : B4 w b a0 a1 a2 a3) (hg : w.grownBy w' row) (hne : row ≠ some b) : B4 w' b a0 a1 a2 a3 := by
  have hs := h.size
  obtain ⟨t, h⟩ := h.heap
  exact ⟨t, (hg.block b hs (fun e => hne e.symm)).trans h⟩
theorem lit_cells (w : World) (q : Qd) : ∀ j u, (flat [q])[j]? = some u → (w.alloc (.cells #[.int .u64 q.1, .int .u64 q.2.1, .int .u64 q.2.2.1, .int .u64 q.2.2.2.1] 27)).cell? ((⟨w.heap.size, 0, none⟩ : Addr).add j) = some u := by
  intro j u hj
  have hadd : (⟨w.heap.size, 0, none⟩ : Addr).add j = ⟨w.heap.size, j, none⟩ := by unfold Addr.add; split <;> simp_all
  rw [hadd, cell_of_row _ _ j _ _ (0, 0) (heap_alloc_new w _), ← hj]
  simp [flat, qc]

theorem app_all {ops : Array Oper} {rest : List Oper} {o : Oper} {a : Act} {Q : Exit → Act → World → Prop} {w0 w : World} (hgd : o.guard = none) (s x : Operand)
    (ho : o.op = .call { callee := .builtin .append, args := #[s, x], argTypes := #[89, 89] })
    (va vt : Value) (L : List Qd) (q : Qd) (be : Nat) (hs : a.eval s = va) (hx : a.eval x = .slice (some ⟨w.heap.size, 0, none⟩) 1 1) (hT : Two w0 w va vt L) (hl : L.length ≤ 1000)
    (hbe : B4 w be q.1 q.2.1 q.2.2.1 q.2.2.2.1) (hne : ∀ k, va.ownBlock = some k → k < be)
    (h : ∀ v' w', Mid w0 w' v' vt L q be → wpList Tryd.prog ops Q rest (a.put o.dst v') w') :
    wpList Tryd.prog ops Q (o :: rest) a (w.alloc (.cells #[.int .u64 q.1, .int .u64 q.2.1, .int .u64 q.2.2.1, .int .u64 q.2.2.2.1] 27)) := by
  refine wpList_plain hgd fun K hK => ?_
  have hsz : w0.heap.size ≤ w.heap.size := hT.b.size
  obtain ⟨v', w', hr, h2, h3, h4⟩ := run_append_els (w.alloc (.cells #[.int .u64 q.1, .int .u64 q.2.1, .int .u64 q.2.2.1, .int .u64 q.2.2.2.1] 27)) w0.heap.size o.type va L [q] (hT.a.alloc _) ⟨w.heap.size, 0, none⟩ 1 (by simp)
    (lit_cells w q) (by simp; omega) (by simp; omega)
  have hM : Mid w0 w' v' vt L q be := by
    refine ⟨h2, (hT.t.alloc _).kept h3 hT.ne, ?_, hT.z, (hbe.alloc _).grownBy h3 (fun e => absurd (hne be e) (Nat.lt_irrefl _)), ((hT.b.alloc hT.b.size _).grown h3 (by simp; omega) (fun k hk => (hT.a.lt k hk).1))⟩
    rcases hT.ne with h5 | h5
    · exact Or.inl h5
    · rcases h4 with h6 | ⟨k, h6, h7⟩
      · exact Or.inr (by rw [h6]; exact h5)
      · refine Or.inr fun e => ?_
        rw [h6] at e
        have := (hT.t.lt k e).2
        simp at h7
        omega
  unfold Oper.wp execOp
  simp only [List.length_cons, List.length_nil, Nat.zero_add] at hr
  simp only [ho, resolve, invoke, builtin, Sem.run_bind, Sem.run_pure, Result.andThen_ok, List.map_toArray, List.map_cons, List.map_nil, hs, hx, hr]
  exact hK _ _ (h v' w' hM)

theorem app_turned {ops : Array Oper} {rest : List Oper} {o : Oper} {a : Act} {Q : Exit → Act → World → Prop} {w0 w : World} (hgd : o.guard = none) (s x : Operand)
    (ho : o.op = .call { callee := .builtin .append, args := #[s, x], argTypes := #[89, 89] })
    (va vt : Value) (L : List Qd) (q : Qd) (be : Nat) (hs : a.eval s = .slice (some ⟨w.heap.size, 0, none⟩) 1 1) (hx : a.eval x = vt) (hT : Mid w0 w va vt L q be) (hl : L.length ≤ 1000)
    (h : ∀ v' w', Two w0 w' va v' (L ++ [q]) → B4 w' be q.1 q.2.1 q.2.2.1 q.2.2.2.1 → wpList Tryd.prog ops Q rest (a.put o.dst v') w') :
    wpList Tryd.prog ops Q (o :: rest) a (w.alloc (.cells #[.int .u64 q.1, .int .u64 q.2.1, .int .u64 q.2.2.1, .int .u64 q.2.2.2.1] 27)) := by
  refine wpList_plain hgd fun K hK => ?_
  have hsz : w0.heap.size ≤ w.heap.size := hT.b.size
  have hlit : OwnE (w.alloc (.cells #[.int .u64 q.1, .int .u64 q.2.1, .int .u64 q.2.2.1, .int .u64 q.2.2.2.1] 27)) w0.heap.size (.slice (some ⟨w.heap.size, 0, none⟩) 1 1) [q] :=
    World.ownsRow_lit w _ 1 hsz (by decide) rfl
  have hrev : (L ++ [q]).reverse = [q] ++ L.reverse := by simp
  have hbe := hT.e.alloc (.cells #[.int .u64 q.1, .int .u64 q.2.1, .int .u64 q.2.2.1, .int .u64 q.2.2.2.1] 27)
  have hva : ∀ k, va.ownBlock = some k → k < w.heap.size := fun k hk => (hT.a.lt k hk).2
  rcases hT.t.2 with ⟨hn, h0⟩ | ⟨g, cap, cur, hv, hbg, hg, hnc, hcm, hcs, htake⟩
  · obtain ⟨i0, hi, hz, hs1, hb⟩ := info_parts el_info
    have hr := run_append_owned_none (P := Tryd.prog) (w.alloc (.cells #[.int .u64 q.1, .int .u64 q.2.1, .int .u64 q.2.2.1, .int .u64 q.2.2.2.1] 27)) w0.heap.size 89 o.type 27 i0 4 Tryd.underlying89 hi _ 1 _ hlit
    have hL : L = [] := List.eq_nil_of_length_eq_zero (by simpa using h0)
    subst hL
    have hTw : Two w0 (w.alloc (.cells #[.int .u64 q.1, .int .u64 q.2.1, .int .u64 q.2.2.1, .int .u64 q.2.2.2.1] 27)) va (.slice (some ⟨w.heap.size, 0, none⟩) 1 1) ([] ++ [q]) :=
      ⟨hT.a.alloc _, hlit, Or.inr fun e => absurd (hva _ e.symm) (Nat.lt_irrefl _), fun h => by simp at h, hT.b.alloc hT.b.size _⟩
    unfold Oper.wp execOp
    simp only [ho, resolve, invoke, builtin, Sem.run_bind, Sem.run_pure, Result.andThen_ok, List.map_toArray, List.map_cons, List.map_nil, hs, hx, hn, hr]
    exact hK _ _ (h _ _ hTw hbe)
  · have hpos : 0 < L.reverse.length := by
      rcases Nat.eq_zero_or_pos L.reverse.length with h0 | h0
      · have := hT.z (by simpa using h0)
        rw [hv] at this
        simp at this
      · exact h0
    obtain ⟨v', w', hr, h2, h3, h4⟩ := run_append_els (w.alloc (.cells #[.int .u64 q.1, .int .u64 q.2.1, .int .u64 q.2.2.1, .int .u64 q.2.2.2.1] 27)) w0.heap.size o.type _ [q] L.reverse hlit ⟨g, 0, none⟩ cap hpos
      ((hT.t.alloc _).cells (by rw [hv]; rfl)) (by simp; omega) (by simp; omega)
    have hTw : Two w0 w' va v' (L ++ [q]) := by
      refine ⟨(hT.a.alloc _).kept h3 (Or.inr fun e => absurd (hva _ e) (Nat.lt_irrefl _)), ?_, Or.inr fun e => ?_, fun h => by simp at h, (hT.b.alloc hT.b.size _).grown h3 (by simp; omega) (fun k hk => (hlit.lt k hk).1)⟩
      · show OwnE _ _ _ _
        rw [hrev]
        exact h2
      · rcases h4 with h6 | ⟨k, h6, h7⟩
        · rw [h6] at e
          exact absurd (hva _ e.symm) (Nat.lt_irrefl _)
        · rw [h6] at e
          have := hva _ e.symm
          simp at h7
          omega
    unfold Oper.wp execOp
    simp only [ho, resolve, invoke, builtin, Sem.run_bind, Sem.run_pure, Result.andThen_ok, List.map_toArray, List.map_cons, List.map_nil, hs, hx, hv, hr]
    exact hK _ _ (h v' w' hTw (hbe.grownBy h3 (fun e => by
      have := hT.e.size
      simp only [Value.ownBlock, Option.some.injEq] at e
      omega)))
end Go.Proofs.YtdepkfdceidikaaDoor
