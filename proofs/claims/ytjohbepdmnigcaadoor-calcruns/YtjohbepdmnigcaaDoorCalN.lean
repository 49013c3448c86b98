/-
  avouchref03: what its parts do. need; Trim of digits; a copy of a stack of digits.
-/
import Derived.Test.YtjohbepdmnigcaaDoorCalJ
namespace Go.Proofs.YtjohbepdmnigcaaDoor
open Go.RowKit
set_option linter.unusedVariables false

theorem trimD_c (d : Value) (X : Nat) (w : World) (h : Dg w d X) (hX : X < 4294967296 ^ bigE) :
    Calls Tryd.prog 37 #[d] w fun e w' => ∃ r, e = .returned r ∧ Dg w' r X ∧ Below w.heap.size w w' := by
  obtain ⟨A, c, l, rfl, hc, h2, hr, hd, ht, hv⟩ := h.ex
  refine (trim_c A l.length c _ l w hr (by omega) hc).mono ?_
  rintro e w' ⟨m, hm, he, hw, htr, hz⟩
  have := dig_of_trim hr hd (Below.refl _ w) hm hc he hw htr hz
  rw [hv] at this
  exact Dg.of this hX

set_option maxRecDepth 20000 in
theorem need7_c (N : Nat) (w : World) (hN : N < 18446744073709551616) :
    Calls Tryd.prog 36 #[.agg #[.int .i64 7, .int .u64 (N : Int)]] w fun e w' => e = .returned (.int .i64 ((if 100 < N then 101 else N + 1 : Nat) : Int)) ∧ Below w.heap.size w w' := by
  by_cases h : 100 < N
  · have d1 : decide ((100 : Int) < (N : Int)) = true := decide_eq_true (by omega)
    rw [if_pos h]
    go_enter Tryd.func36, Tryd.ntmps36
    go_wp2
    go_ret
    exact ⟨rfl, by go_grown⟩
  · have d1 : decide ((100 : Int) < (N : Int)) = false := decide_eq_false (by omega)
    have d2 : IntKind.i64.wrap (N : Int) = (N : Int) := by rw [IntKind.wrap_i64]; omega
    have d3 : N ≤ 100 := by omega
    rw [if_neg h]
    go_enter Tryd.func36, Tryd.ntmps36
    go_wp2
    go_ret
    exact ⟨by go_num, by go_grown⟩
set_option maxRecDepth 20000 in
theorem need0_c (N : Nat) (w : World) (hN : N < 18446744073709551616) :
    Calls Tryd.prog 36 #[.agg #[.int .i64 0, .int .u64 (N : Int)]] w fun e w' => e = .returned (.int .i64 0) ∧ Below w.heap.size w w' := by
  go_enter Tryd.func36, Tryd.ntmps36
  go_wp2
  go_ret
  exact ⟨rfl, by go_grown⟩
set_option maxRecDepth 20000 in
theorem need1_c (N : Nat) (w : World) (hN : N < 18446744073709551616) :
    Calls Tryd.prog 36 #[.agg #[.int .i64 1, .int .u64 (N : Int)]] w fun e w' => e = .returned (.int .i64 2) ∧ Below w.heap.size w w' := by
  go_enter Tryd.func36, Tryd.ntmps36
  go_wp2
  go_ret
  exact ⟨rfl, by go_grown⟩
set_option maxRecDepth 20000 in
theorem need2_c (N : Nat) (w : World) (hN : N < 18446744073709551616) :
    Calls Tryd.prog 36 #[.agg #[.int .i64 2, .int .u64 (N : Int)]] w fun e w' => e = .returned (.int .i64 2) ∧ Below w.heap.size w w' := by
  go_enter Tryd.func36, Tryd.ntmps36
  go_wp2
  go_ret
  exact ⟨rfl, by go_grown⟩
set_option maxRecDepth 20000 in
theorem need3_c (N : Nat) (w : World) (hN : N < 18446744073709551616) :
    Calls Tryd.prog 36 #[.agg #[.int .i64 3, .int .u64 (N : Int)]] w fun e w' => e = .returned (.int .i64 2) ∧ Below w.heap.size w w' := by
  go_enter Tryd.func36, Tryd.ntmps36
  go_wp2
  go_ret
  exact ⟨rfl, by go_grown⟩
set_option maxRecDepth 20000 in
theorem need4_c (N : Nat) (w : World) (hN : N < 18446744073709551616) :
    Calls Tryd.prog 36 #[.agg #[.int .i64 4, .int .u64 (N : Int)]] w fun e w' => e = .returned (.int .i64 1) ∧ Below w.heap.size w w' := by
  go_enter Tryd.func36, Tryd.ntmps36
  go_wp2
  go_ret
  exact ⟨rfl, by go_grown⟩
set_option maxRecDepth 20000 in
theorem need5_c (N : Nat) (w : World) (hN : N < 18446744073709551616) :
    Calls Tryd.prog 36 #[.agg #[.int .i64 5, .int .u64 (N : Int)]] w fun e w' => e = .returned (.int .i64 1) ∧ Below w.heap.size w w' := by
  go_enter Tryd.func36, Tryd.ntmps36
  go_wp2
  go_ret
  exact ⟨rfl, by go_grown⟩
set_option maxRecDepth 20000 in
theorem need6_c (N : Nat) (w : World) (hN : N < 18446744073709551616) :
    Calls Tryd.prog 36 #[.agg #[.int .i64 6, .int .u64 (N : Int)]] w fun e w' => e = .returned (.int .i64 1) ∧ Below w.heap.size w w' := by
  go_enter Tryd.func36, Tryd.ntmps36
  go_wp2
  go_ret
  exact ⟨rfl, by go_grown⟩
set_option maxRecDepth 20000 in
theorem need8_c (N : Nat) (w : World) (hN : N < 18446744073709551616) :
    Calls Tryd.prog 36 #[.agg #[.int .i64 8, .int .u64 (N : Int)]] w fun e w' => e = .returned (.int .i64 2) ∧ Below w.heap.size w w' := by
  go_enter Tryd.func36, Tryd.ntmps36
  go_wp2
  go_ret
  exact ⟨rfl, by go_grown⟩
set_option maxRecDepth 20000 in
theorem need9_c (N : Nat) (w : World) (hN : N < 18446744073709551616) :
    Calls Tryd.prog 36 #[.agg #[.int .i64 9, .int .u64 (N : Int)]] w fun e w' => e = .returned (.int .i64 1) ∧ Below w.heap.size w w' := by
  go_enter Tryd.func36, Tryd.ntmps36
  go_wp2
  go_ret
  exact ⟨rfl, by go_grown⟩
set_option maxRecDepth 20000 in
theorem need10_c (N : Nat) (w : World) (hN : N < 18446744073709551616) :
    Calls Tryd.prog 36 #[.agg #[.int .i64 10, .int .u64 (N : Int)]] w fun e w' => e = .returned (.int .i64 2) ∧ Below w.heap.size w w' := by
  go_enter Tryd.func36, Tryd.ntmps36
  go_wp2
  go_ret
  exact ⟨rfl, by go_grown⟩

/-- append of a stack of digits onto an empty one. -/
theorem app_rows {ops : Array Oper} {rest : List Oper} {o : Oper} {a : Act} {Q : Exit → Act → World → Prop} {w : World} (hgd : o.guard = none) (s x : Operand)
    (ho : o.op = .call { callee := .builtin .append, args := #[s, x], argTypes := #[26, 26] })
    (v : Value) (Xs : List Nat) (base : Nat) (hs : a.eval s = .slice (some ⟨w.heap.size, 0, none⟩) 0 0) (hx : a.eval x = v) (hD : Digs w v Xs) (hl : Xs.length ≤ 1000) (hb : base ≤ w.heap.size)
    (h : ∀ v' w' ds, RowV w' base v' ds → AllD w' ds Xs → Below w.heap.size w w' → wpList Tryd.prog ops Q rest (a.put o.dst v') w') :
    wpList Tryd.prog ops Q (o :: rest) a (w.alloc (.cells #[] 23)) := by
  refine wpList_plain hgd fun K hK => ?_
  obtain ⟨A, c, rfl, hc, hm, hcell⟩ := hD.ex
  have hb1 : Below w.heap.size w (w.alloc (.cells #[] 23)) := (Below.refl _ _).alloc (Nat.le_refl _) _
  have hR := RowV.new w base hb
  rcases Nat.eq_zero_or_pos Xs.length with h0 | h0
  · have hX : Xs = [] := List.eq_nil_of_length_eq_zero h0
    subst hX
    obtain ⟨i0, hi, hz, hs1, hbb⟩ := info_parts sl_info
    have hr : (Builtin.append_ #[26, 26] o.type #[.slice (some ⟨w.heap.size, 0, none⟩) 0 0, .slice A 0 c]).run Tryd.prog (w.alloc (.cells #[] 23)) = .ok (.slice (some ⟨w.heap.size, 0, none⟩) 0 0) (w.alloc (.cells #[] 23)) := by
      cases A <;> simp [Builtin.append_, run_underlying Tryd.underlying26, sizeOf, typeInfo, hi, Builtin.lenOf, Builtin.firstCells, storeCells, loadCells, loadCellsFrom]
    unfold Oper.wp execOp
    simp only [List.length_nil] at hx
    simp only [ho, resolve, invoke, builtin, Sem.run_bind, Sem.run_pure, Result.andThen_ok, List.map_toArray, List.map_cons, List.map_nil, hs, hx, hr]
    exact hK _ _ (h _ _ [] hR ⟨rfl, fun i hi => by simp at hi⟩ hb1)
  · obtain ⟨b, rfl, hbB, hcs⟩ := hcell h0
    have hex : ∀ i, ∃ d, i < Xs.length → isSl d = true ∧ w.cell? ⟨b, i, none⟩ = some d ∧ Dg w d (Xs.getD i 0) := fun i => by
      by_cases hi : i < Xs.length
      · obtain ⟨d, h1⟩ := hcs i hi
        exact ⟨d, fun _ => h1⟩
      · exact ⟨undef, fun h => absurd h hi⟩
    obtain ⟨f, hf⟩ := Classical.axiomOfChoice hex
    have hlen : ((List.range Xs.length).map f).length = Xs.length := by simp
    obtain ⟨v', w', hr, g2, g3, g4⟩ := run_append_row (w.alloc (.cells #[] 23)) base o.type (.slice (some ⟨w.heap.size, 0, none⟩) 0 0) [] ((List.range Xs.length).map f) hR
      (fun m hm => by
        obtain ⟨i, hi, rfl⟩ := List.mem_map.1 hm
        exact (hf i (List.mem_range.1 hi)).1) ⟨b, 0, none⟩ c (by rw [hlen]; exact h0)
      (fun j u hj => by
        have hjl := (List.getElem?_eq_some_iff.1 hj).1
        rw [hlen] at hjl
        rw [add_flat, Nat.zero_add, hb1.cell (p := ⟨b, j, none⟩) hbB, (hf j hjl).2.1, ← hj]
        simp [hjl]) (by rw [hlen]; simp; omega) (by simp; omega)
    rw [hlen] at hr
    have hbw : Below w.heap.size w w' := hb1.grown g3 (by simp) (fun k hk => by injection hk with hk; simp at hk; omega)
    unfold Oper.wp execOp
    simp only [ho, resolve, invoke, builtin, Sem.run_bind, Sem.run_pure, Result.andThen_ok, List.map_toArray, List.map_cons, List.map_nil, hs, hx, hr]
    refine hK _ _ (h v' w' _ g2 ⟨by rw [List.nil_append, hlen], fun i hi => ?_⟩ hbw)
    rw [List.nil_append, show ((List.range Xs.length).map f).getD i undef = f i by simp [List.getD_eq_getElem?_getD, hi]]
    exact (hf i hi).2.2.up hbw
end Go.Proofs.YtjohbepdmnigcaaDoor
