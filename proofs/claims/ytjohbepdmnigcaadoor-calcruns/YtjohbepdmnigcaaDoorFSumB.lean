/-
  Two rows of elements, one grown behind and one grown in front, as avouchlaw02.FieldSums makes them.
-/
import Derived.Test.YtjohbepdmnigcaaDoorFSumA
namespace Go.Proofs.YtjohbepdmnigcaaDoor
open Go.RowKit
set_option linter.unusedVariables false

structure Two (w0 w : World) (va vt : Value) (L : List Qd) : Prop where
  a : OwnE w w0.heap.size va L
  t : OwnE w w0.heap.size vt L.reverse
  ne : vt.ownBlock = none ∨ vt.ownBlock ≠ va.ownBlock
  z : L.length = 0 → vt = .slice none 0 0
  b : Below w0.heap.size w0 w
structure Mid (w0 w : World) (va vt : Value) (L : List Qd) (q : Qd) (be : Nat) : Prop where
  a : OwnE w w0.heap.size va (L ++ [q])
  t : OwnE w w0.heap.size vt L.reverse
  ne : vt.ownBlock = none ∨ vt.ownBlock ≠ va.ownBlock
  z : L.length = 0 → vt = .slice none 0 0
  e : B4 w be q.1 q.2.1 q.2.2.1 q.2.2.2.1
  b : Below w0.heap.size w0 w
theorem Two.up {w0 w w' : World} {va vt : Value} {L : List Qd} (h : Two w0 w va vt L) (hb : Below w.heap.size w w') : Two w0 w' va vt L :=
  ⟨h.a.below hb (Nat.le_refl _), h.t.below hb (Nat.le_refl _), h.ne, h.z, h.b.trans (hb.mono h.b.size)⟩
theorem two_nil (w : World) : Two w w (.slice none 0 0) (.slice none 0 0) [] := ⟨World.ownsRow_nil w _ _ 4, World.ownsRow_nil w _ _ 4, Or.inl rfl, fun _ => rfl, Below.refl _ _⟩
theorem B4.grownBy {w w' : World} {b : Nat} {row : Option Nat} {a0 a1 a2 a3 : Int} (h : B4 w b a0 a1 a2 a3) (hg : w.grownBy w' row) (hne : row ≠ some b) : B4 w' b a0 a1 a2 a3 := by
  have hs := h.size
  obtain ⟨t, h⟩ := h.heap
  exact ⟨t, (hg.block b hs (fun e => hne e.symm)).trans h⟩
theorem lit_cells (w : World) (q : Qd) : ∀ j u, (flat [q])[j]? = some u → (w.alloc (.cells #[.int .u64 q.1, .int .u64 q.2.1, .int .u64 q.2.2.1, .int .u64 q.2.2.2.1] 40)).cell? ((⟨w.heap.size, 0, none⟩ : Addr).add j) = some u := by
  intro j u hj
  have hadd : (⟨w.heap.size, 0, none⟩ : Addr).add j = ⟨w.heap.size, j, none⟩ := by unfold Addr.add; split <;> simp_all
  rw [hadd, cell_of_row _ _ j _ _ (0, 0) (heap_alloc_new w _), ← hj]
  simp [flat, qc]

theorem app_all {ops : Array Oper} {rest : List Oper} {o : Oper} {a : Act} {Q : Exit → Act → World → Prop} {w0 w : World} (hgd : o.guard = none) (s x : Operand)
    (ho : o.op = .call { callee := .builtin .append, args := #[s, x], argTypes := #[25, 25] })
    (va vt : Value) (L : List Qd) (q : Qd) (be : Nat) (hs : a.eval s = va) (hx : a.eval x = .slice (some ⟨w.heap.size, 0, none⟩) 1 1) (hT : Two w0 w va vt L) (hl : L.length ≤ 1000)
    (hbe : B4 w be q.1 q.2.1 q.2.2.1 q.2.2.2.1) (hne : ∀ k, va.ownBlock = some k → k < be)
    (h : ∀ v' w', Mid w0 w' v' vt L q be → wpList Tryd.prog ops Q rest (a.put o.dst v') w') :
    wpList Tryd.prog ops Q (o :: rest) a (w.alloc (.cells #[.int .u64 q.1, .int .u64 q.2.1, .int .u64 q.2.2.1, .int .u64 q.2.2.2.1] 40)) := by
  refine wpList_plain hgd fun K hK => ?_
  have hsz : w0.heap.size ≤ w.heap.size := hT.b.size
  obtain ⟨v', w', hr, h2, h3, h4⟩ := run_append_els (w.alloc (.cells #[.int .u64 q.1, .int .u64 q.2.1, .int .u64 q.2.2.1, .int .u64 q.2.2.2.1] 40)) w0.heap.size o.type va L [q] (hT.a.alloc _) ⟨w.heap.size, 0, none⟩ 1 (by simp)
    (lit_cells w q) (by simp; omega) (by simp; omega)
  have hM : Mid w0 w' v' vt L q be := by
    refine ⟨h2, (hT.t.alloc _).kept h3 hT.ne, ?_, hT.z, (hbe.alloc _).grownBy h3 (fun e => absurd (hne be e) (Nat.lt_irrefl _)), ((hT.b.alloc hT.b.size _).grown h3 (by simp; omega) (fun k hk => (hT.a.lt k hk).1))⟩
    rcases hT.ne with h5 | h5
    · exact Or.inl h5
    · rcases h4 with h6 | ⟨k, h6, h7⟩
      · exact Or.inr (by rw [h6]; exact h5)
      · refine Or.inr fun e => ?_
        rw [h6] at e
        have := (hT.t.lt k e).2
        simp at h7
        omega
  unfold Oper.wp execOp
  simp only [List.length_cons, List.length_nil, Nat.zero_add] at hr
  simp only [ho, resolve, invoke, builtin, Sem.run_bind, Sem.run_pure, Result.andThen_ok, List.map_toArray, List.map_cons, List.map_nil, hs, hx, hr]
  exact hK _ _ (h v' w' hM)

theorem app_turned {ops : Array Oper} {rest : List Oper} {o : Oper} {a : Act} {Q : Exit → Act → World → Prop} {w0 w : World} (hgd : o.guard = none) (s x : Operand)
    (ho : o.op = .call { callee := .builtin .append, args := #[s, x], argTypes := #[25, 25] })
    (va vt : Value) (L : List Qd) (q : Qd) (be : Nat) (hs : a.eval s = .slice (some ⟨w.heap.size, 0, none⟩) 1 1) (hx : a.eval x = vt) (hT : Mid w0 w va vt L q be) (hl : L.length ≤ 1000)
    (h : ∀ v' w', Two w0 w' va v' (L ++ [q]) → B4 w' be q.1 q.2.1 q.2.2.1 q.2.2.2.1 → wpList Tryd.prog ops Q rest (a.put o.dst v') w') :
    wpList Tryd.prog ops Q (o :: rest) a (w.alloc (.cells #[.int .u64 q.1, .int .u64 q.2.1, .int .u64 q.2.2.1, .int .u64 q.2.2.2.1] 40)) := by
  refine wpList_plain hgd fun K hK => ?_
  have hsz : w0.heap.size ≤ w.heap.size := hT.b.size
  have hlit : OwnE (w.alloc (.cells #[.int .u64 q.1, .int .u64 q.2.1, .int .u64 q.2.2.1, .int .u64 q.2.2.2.1] 40)) w0.heap.size (.slice (some ⟨w.heap.size, 0, none⟩) 1 1) [q] :=
    World.ownsRow_lit w _ 1 hsz (by decide) rfl
  have hrev : (L ++ [q]).reverse = [q] ++ L.reverse := by simp
  have hbe := hT.e.alloc (.cells #[.int .u64 q.1, .int .u64 q.2.1, .int .u64 q.2.2.1, .int .u64 q.2.2.2.1] 40)
  have hva : ∀ k, va.ownBlock = some k → k < w.heap.size := fun k hk => (hT.a.lt k hk).2
  rcases hT.t.2 with ⟨hn, h0⟩ | ⟨g, cap, cur, hv, hbg, hg, hnc, hcm, hcs, htake⟩
  · obtain ⟨i0, hi, hz, hs1, hb⟩ := info_parts el_info
    have hr := run_append_owned_none (P := Tryd.prog) (w.alloc (.cells #[.int .u64 q.1, .int .u64 q.2.1, .int .u64 q.2.2.1, .int .u64 q.2.2.2.1] 40)) w0.heap.size 25 o.type 40 i0 4 Tryd.underlying25 hi _ 1 _ hlit
    have hL : L = [] := List.eq_nil_of_length_eq_zero (by simpa using h0)
    subst hL
    have hTw : Two w0 (w.alloc (.cells #[.int .u64 q.1, .int .u64 q.2.1, .int .u64 q.2.2.1, .int .u64 q.2.2.2.1] 40)) va (.slice (some ⟨w.heap.size, 0, none⟩) 1 1) ([] ++ [q]) :=
      ⟨hT.a.alloc _, hlit, Or.inr fun e => absurd (hva _ e.symm) (Nat.lt_irrefl _), fun h => by simp at h, hT.b.alloc hT.b.size _⟩
    unfold Oper.wp execOp
    simp only [ho, resolve, invoke, builtin, Sem.run_bind, Sem.run_pure, Result.andThen_ok, List.map_toArray, List.map_cons, List.map_nil, hs, hx, hn, hr]
    exact hK _ _ (h _ _ hTw hbe)
  · have hpos : 0 < L.reverse.length := by
      rcases Nat.eq_zero_or_pos L.reverse.length with h0 | h0
      · have := hT.z (by simpa using h0)
        rw [hv] at this
        simp at this
      · exact h0
    obtain ⟨v', w', hr, h2, h3, h4⟩ := run_append_els (w.alloc (.cells #[.int .u64 q.1, .int .u64 q.2.1, .int .u64 q.2.2.1, .int .u64 q.2.2.2.1] 40)) w0.heap.size o.type _ [q] L.reverse hlit ⟨g, 0, none⟩ cap hpos
      ((hT.t.alloc _).cells (by rw [hv]; rfl)) (by simp; omega) (by simp; omega)
    have hTw : Two w0 w' va v' (L ++ [q]) := by
      refine ⟨(hT.a.alloc _).kept h3 (Or.inr fun e => absurd (hva _ e) (Nat.lt_irrefl _)), ?_, Or.inr fun e => ?_, fun h => by simp at h, (hT.b.alloc hT.b.size _).grown h3 (by simp; omega) (fun k hk => (hlit.lt k hk).1)⟩
      · show OwnE _ _ _ _
        rw [hrev]
        exact h2
      · rcases h4 with h6 | ⟨k, h6, h7⟩
        · rw [h6] at e
          exact absurd (hva _ e.symm) (Nat.lt_irrefl _)
        · rw [h6] at e
          have := hva _ e.symm
          simp at h7
          omega
    unfold Oper.wp execOp
    simp only [ho, resolve, invoke, builtin, Sem.run_bind, Sem.run_pure, Result.andThen_ok, List.map_toArray, List.map_cons, List.map_nil, hs, hx, hv, hr]
    exact hK _ _ (h v' w' hTw (hbe.grownBy h3 (fun e => by
      have := hT.e.size
      simp only [Value.ownBlock, Option.some.injEq] at e
      omega)))
end Go.Proofs.YtjohbepdmnigcaaDoor
