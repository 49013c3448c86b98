/-
  Texts of bytes: a string's bytes as numbers (bl), a slice of bytes turned into a string and back, strings held against each other, bytes appended to an own row. Helpers for the walks; nothing of the program.
-/
import Derived.Test.YtokfldecjknamaaBytes0
import Derived.Laws.CopyOwn
import Derived.Laws.BytesArg
import Derived.Laws.AppendOwnNone
import Derived.Lib.AppendStr
import Derived.Lib.ConvBytes
import Derived.Deep.MidRow
namespace Go.Proofs.Ytokfldecjknamaa
open Go.RowKit
set_option linter.unusedVariables false

theorem src8 {w : World} {B n : Nat} {A : Option Addr} {l : List Nat} (h : Rd8 w B A n l) (hn : 0 < n) : ∃ ad, A = some ad ∧ ∀ j v, (cells8 l)[j]? = some v → w.cell? (ad.add j) = some v := by
  obtain ⟨b, off, e, _, hc⟩ := h.cells hn
  refine ⟨⟨b, off, none⟩, e, fun j v hj => ?_⟩
  have hjl : j < l.length := by
    have := (List.getElem?_eq_some_iff.1 hj).1
    simpa [cells8] using this
  rw [Addr.add_mid, hc j (by rw [← h.len]; exact hjl), ← hj]
  simp [cells8, at64, List.getElem?_eq_getElem hjl, List.getD_eq_getElem?_getD]
theorem one8 (l : List Nat) : ∀ v ∈ cells8 l, v.oneCell' = true := by
  intro u hu
  simp only [cells8, List.mem_map] at hu
  obtain ⟨y, _, rfl⟩ := hu
  rfl
theorem str_list (l : List Nat) : (strOfNums (l.map fun (x : Nat) => (x : Int))).toList = l.map fun (x : Nat) => UInt8.ofNat x := by
  rw [ByteArray.toList_eq]
  show ((l.map fun (x : Nat) => (x : Int)).map fun n => UInt8.ofNat n.toNat) = _
  rw [List.map_map]
  rfl
theorem u8_inj {a b : Nat} (ha : a < 256) (hb : b < 256) (h : UInt8.ofNat a = UInt8.ofNat b) : a = b := by
  have := congrArg UInt8.toNat h
  simp at this
  omega
theorem map_u8_inj : ∀ {l l' : List Nat}, allLt8 l → allLt8 l' → (l.map fun (x : Nat) => UInt8.ofNat x) = (l'.map fun (x : Nat) => UInt8.ofNat x) → l = l'
  | [], [], _, _, _ => rfl
  | [], _ :: _, _, _, h => by simp at h
  | _ :: _, [], _, _, h => by simp at h
  | a :: l, b :: l', h1, h2, h => by
    simp only [List.map_cons, List.cons.injEq] at h
    rw [u8_inj (h1 a (by simp)) (h2 b (by simp)) h.1, map_u8_inj (fun x hx => h1 x (by simp [hx])) (fun x hx => h2 x (by simp [hx])) h.2]
theorem conv8 {w : World} {B n : Nat} {A : Option Addr} {l : List Nat} (h : Rd8 w B A n l) (c : Nat) :
    (convert 28 9 (.slice A n c)).run Try.prog w = .ok (.string (strOfNums (l.map fun (x : Nat) => (x : Int)))) w := by
  rcases Nat.eq_zero_or_pos n with h0 | h0
  · subst h0
    have hl : l = [] := List.eq_nil_of_length_eq_zero h.len
    subst hl
    rw [run_convert_bytes_string w _ _ 5 A 0 c Try.underlying28 Try.underlying5 Try.underlying9]
    cases A with
    | none => simp [Conv.bytesToString]; rfl
    | some a =>
      have hl : (loadCells a 0).run Try.prog w = .ok (([] : List Int).map (Value.int .u8)).toArray w := by simpa using run_loadCells_list (P := Try.prog) w a [] (fun j v hj => by simp at hj)
      rw [run_bytesToString w a 0 c [] hl]; rfl
  · obtain ⟨b, off, rfl, hb, hc⟩ := h.cells h0
    refine run_convert_bytes_arg w _ 5 Try.underlying28 Try.underlying5 b off n c _ (by simp [h.len]) (fun i hi => ?_) _ Try.underlying9
    rw [hc i hi]
    have hi' : i < l.length := by rw [h.len]; exact hi
    simp [at64, List.getD_eq_getElem?_getD, List.getElem?_eq_getElem hi']
/-- append of a slice that is read onto an own row of bytes. -/
theorem append_rd {ops : Array Oper} {rest : List Oper} {o : Oper} {a : Act} {Q : Exit → Act → World → Prop} {w : World} (hgd : o.guard = none) (s x : Operand)
    (ho : o.op = .call { callee := .builtin .append, args := #[s, x], argTypes := #[28, 28] })
    (base : Nat) (v : Value) (l : List Nat) (hs : a.eval s = v) (hown : OwnB w base v l) (A : Option Addr) (n c B : Nat) (news : List Nat) (hr : Rd8 w B A n news) (hx : a.eval x = .slice A n c)
    (hlen : l.length + n ≤ 1000000) (hbase : base ≤ w.heap.size)
    (h : ∀ v' w', OwnB w' base v' (l ++ news) → Below base w w' → wpList Try.prog ops Q rest (a.put o.dst v') w') : wpList Try.prog ops Q (o :: rest) a w := by
  obtain ⟨i0, hi, hz, hs1, hb⟩ := info_parts u8_info
  have hnl := hr.len
  have hcat : ∀ {w' : World} {v' : Value}, w'.ownsRow base 5 1 v' (l.length + n) (cells8 l ++ cells8 news) → OwnB w' base v' (l ++ news) := fun {w' v'} ho' => by
    refine ⟨?_, ?_⟩
    · have e : cells8 (l ++ news) = cells8 l ++ cells8 news := by simp [cells8]
      rw [e, List.length_append, hnl]
      exact ho'
    · intro y hy
      rcases List.mem_append.1 hy with h' | h'
      · exact hown.lt y h'
      · exact hr.lt y h'
  cases A with
  | none =>
    have h0 : n = 0 := by
      rcases Nat.eq_zero_or_pos n with h' | h'
      · exact h'
      · obtain ⟨_, _, e, _⟩ := hr.cells h'; cases e
    subst h0
    obtain rfl : news = [] := List.eq_nil_of_length_eq_zero hnl
    refine wpList_plain hgd fun K hK => ?_
    have hrun : (Builtin.append_ #[28, 28] o.type #[v, .slice none 0 c]).run Try.prog w = .ok v w := by
      rcases hown.own.2 with ⟨rfl, hl0⟩ | ⟨g, cap, cur, rfl, _, _, hnc, _⟩
      · simp [Builtin.append_, run_underlying Try.underlying28, sizeOf, typeInfo, hi, Builtin.lenOf, Builtin.firstCells]
      · simp [Builtin.append_, run_underlying Try.underlying28, sizeOf, typeInfo, hi, Builtin.lenOf, Builtin.firstCells, hnc, storeCells]
    unfold Oper.wp
    simp [execOp, ho, resolve, invoke, builtin, hs, hx, hrun, Result.andThen]
    exact hK _ _ (h v w (by rw [List.append_nil]; exact hown) (Below.refl _ _))
  | some ad =>
    refine wpList_append_own w hgd s x 28 ho base 5 i0 (.int .u8 0) 1 1 Try.underlying28 hi hz hs1 hb rfl (by decide) v l.length (cells8 l) hs hown.own ad n c (cells8 news) hx
      (by simp [cells8, hnl]) ?_ (one8 news) (by unfold maxLen; omega) (by omega) hbase ?_
    · intro j u hj
      have hjl : j < news.length := by
        have := (List.getElem?_eq_some_iff.1 hj).1
        simpa [cells8] using this
      obtain ⟨ad', e, hc⟩ := src8 hr (by omega)
      obtain rfl := Option.some.inj e
      exact hc j u hj
    · intro v' w' ho' hg _
      exact h v' w' (hcat ho') ((Below.refl _ _).grown hg hbase fun k hk => (hown.own.lt k hk).1)
/-- The same, told with what becomes of all else. -/
theorem run_append_rd {w : World} (ty : TypeId) (base : Nat) (v : Value) (l : List Nat) (hown : OwnB w base v l) (A : Option Addr) (n c B : Nat) (news : List Nat) (hr : Rd8 w B A n news)
    (hlen : l.length + n ≤ 1000000) (hbase : base ≤ w.heap.size) :
    ∃ v' w', (Builtin.append_ #[28, 28] ty #[v, .slice A n c]).run Try.prog w = .ok v' w' ∧ OwnB w' base v' (l ++ news) ∧ w.grownBy w' v.ownBlock := by
  obtain ⟨i0, hi, hz, hs1, hb⟩ := info_parts u8_info
  have hnl := hr.len
  cases A with
  | none =>
    have h0 : n = 0 := by
      rcases Nat.eq_zero_or_pos n with h' | h'
      · exact h'
      · obtain ⟨_, _, e, _⟩ := hr.cells h'; cases e
    subst h0
    obtain rfl : news = [] := List.eq_nil_of_length_eq_zero hnl
    have hrun : (Builtin.append_ #[28, 28] ty #[v, .slice none 0 c]).run Try.prog w = .ok v w := by
      rcases hown.own.2 with ⟨rfl, hl0⟩ | ⟨g, cap, cur, rfl, _, _, hnc, _⟩
      · simp [Builtin.append_, run_underlying Try.underlying28, sizeOf, typeInfo, hi, Builtin.lenOf, Builtin.firstCells]
      · simp [Builtin.append_, run_underlying Try.underlying28, sizeOf, typeInfo, hi, Builtin.lenOf, Builtin.firstCells, hnc, storeCells]
    exact ⟨v, w, hrun, by rw [List.append_nil]; exact hown, ⟨rfl, rfl, rfl, Nat.le_refl _, fun _ _ _ => rfl⟩⟩
  | some ad =>
    have hsrc : ∀ j u, (cells8 news)[j]? = some u → w.cell? (ad.add j) = some u := by
      intro j u hj
      have hjl : j < news.length := by
        have := (List.getElem?_eq_some_iff.1 hj).1
        simpa [cells8] using this
      obtain ⟨ad', e, hc⟩ := src8 hr (by omega)
      obtain rfl := Option.some.inj e
      exact hc j u hj
    obtain ⟨v', w', h1, h2, h3, _⟩ := run_append_own (P := Try.prog) w base 28 ty 5 i0 (.int .u8 0) 1 1 Try.underlying28 hi hz hs1 hb rfl (by decide) v l.length (cells8 l) hown.own ad n c (cells8 news)
      (by simp [cells8, hnl]) hsrc (one8 news) (by unfold maxLen; omega) (by omega) hbase
    refine ⟨v', w', h1, ⟨?_, ?_⟩, h3⟩
    · have e : cells8 (l ++ news) = cells8 l ++ cells8 news := by simp [cells8]
      rw [e, List.length_append, hnl]
      exact h2
    · intro y hy
      rcases List.mem_append.1 hy with h' | h'
      · exact hown.lt y h'
      · exact hr.lt y h'
/-- append of a slice that is read onto an own row, as one operation. -/
theorem wp_append_rd {o : Oper} {a : Act} {K : Act → World → Prop} {Q : Exit → Act → World → Prop} {w : World} (s x : Operand)
    (ho : o.op = .call { callee := .builtin .append, args := #[s, x], argTypes := #[28, 28] })
    (base : Nat) (v : Value) (l : List Nat) (hs : a.eval s = v) (hown : OwnB w base v l) (A : Option Addr) (n c B : Nat) (news : List Nat) (hr : Rd8 w B A n news) (hx : a.eval x = .slice A n c)
    (hlen : l.length + n ≤ 1000000) (hbase : base ≤ w.heap.size)
    (h : ∀ v' w', OwnB w' base v' (l ++ news) → w.grownBy w' v.ownBlock → K (a.put o.dst v') w') : o.wp Try.prog a w K Q := by
  obtain ⟨v', w', h1, h2, h3⟩ := run_append_rd o.type base v l hown A n c B news hr hlen hbase
  unfold Oper.wp execOp
  simp only [ho, resolve, invoke, builtin, Sem.run_bind, Sem.run_pure, Result.andThen_ok, List.map_toArray, List.map_cons, List.map_nil, hs, hx, h1]
  exact h v' w' h2 h3
theorem OwnB.keptG {w w' : World} {lo : Nat} {v : Value} {l : List Nat} {row : Option Nat} (h : OwnB w lo v l) (hg : w.grownBy w' row) (hr : ∀ k, row = some k → k < lo) : OwnB w' lo v l := by
  refine ⟨h.own.kept hg ?_, h.lt⟩
  rcases hv : v.ownBlock with _ | k
  · exact Or.inl rfl
  · refine Or.inr fun e => ?_
    have h1 := (h.own.lt k hv).1
    have h2 := hr k e.symm
    omega
theorem OwnB.up {w w' : World} {lo : Nat} {v : Value} {l : List Nat} (h : OwnB w lo v l) (hb : Below w.heap.size w w') : OwnB w' lo v l :=
  ⟨h.own.kept (row := none) ⟨hb.os, hb.tape, hb.output, hb.size, fun k hk _ => hb.block k hk⟩ (by rcases v.ownBlock with _ | k <;> simp), h.lt⟩
theorem OwnB.drew {w : World} {lo : Nat} {v : Value} {l : List Nat} (h : OwnB w lo v l) : OwnB w.drew lo v l := h.up ⟨rfl, rfl, rfl, Nat.le_refl _, fun _ _ => rfl⟩
theorem OwnB.below {w w' : World} {lo B : Nat} {v : Value} {l : List Nat} {row : Option Nat} (h : OwnB w lo v l) (hg : w.grownBy w' v.ownBlock) (hB : B ≤ lo) (hs : B ≤ w.heap.size) : Below B w w' :=
  (Below.refl _ _).grown hg hs fun k hk => Nat.le_trans hB (h.own.lt k hk).1
/-- An own row's block lies below the world's end. -/
theorem OwnB.blk_lt {w : World} {lo : Nat} {v : Value} {l : List Nat} (h : OwnB w lo v l) : ∀ k, v.ownBlock = some k → k < w.heap.size := fun k hk => (h.own.lt k hk).2
/-- A string's bytes, as numbers. -/
def bl (s : ByteArray) : List Nat := s.data.toList.map fun (b : UInt8) => b.toNat
theorem bl_lt (s : ByteArray) : allLt8 (bl s) := by
  intro x hx
  simp only [bl, List.mem_map] at hx
  obtain ⟨b, _, rfl⟩ := hx
  exact b.toNat_lt
theorem bl_len (s : ByteArray) : (bl s).length = s.size := by unfold bl; rw [List.length_map]; rfl
theorem bl_inj {s s' : ByteArray} (h : bl s = bl s') : s = s' := by
  obtain ⟨⟨x⟩⟩ := s
  obtain ⟨⟨y⟩⟩ := s'
  have e : x = y := by
    have h2 : x.map (fun (b : UInt8) => b.toNat) = y.map (fun (b : UInt8) => b.toNat) := h
    exact List.map_inj_right (fun a b hab => UInt8.toNat_inj.1 hab) |>.1 h2
  rw [e]
theorem str_eq (s s' : ByteArray) : (s.toList == s'.toList) = decide (bl s = bl s') := by
  rw [ByteArray.toList_eq, ByteArray.toList_eq]
  by_cases h : s = s'
  · subst h; simp
  · have h1 : ¬ bl s = bl s' := fun e => h (bl_inj e)
    rw [decide_eq_false h1, beq_eq_false_iff_ne]
    intro e
    apply h
    obtain ⟨⟨x⟩⟩ := s
    obtain ⟨⟨y⟩⟩ := s'
    have e' : x = y := e
    rw [e']
/-- The string of these bytes. -/
def sb (l : List Nat) : ByteArray := strOfNums (l.map fun (x : Nat) => (x : Int))
theorem bl_sb {l : List Nat} (h : allLt8 l) : bl (sb l) = l := by
  have e := str_list l
  rw [ByteArray.toList_eq] at e
  unfold bl sb
  rw [e, List.map_map]
  conv => rhs; rw [← List.map_id l]
  exact List.map_congr_left fun x hx => by
    have := h x hx
    simp
    omega
theorem sb_bl (s : ByteArray) : sb (bl s) = s := bl_inj (bl_sb (bl_lt s))
/-- A slice of bytes turned into a string. -/
theorem conv_s {w : World} {B n : Nat} {A : Option Addr} {l : List Nat} (h : Rd8 w B A n l) (c : Nat) : (convert 28 9 (.slice A n c)).run Try.prog w = .ok (.string (sb l)) w := conv8 h c
theorem strCells_bl (s : ByteArray) : Go.Lib.strCells s = cells8 (bl s) := by
  unfold Go.Lib.strCells cells8 bl
  rw [List.map_map]
  rfl
theorem bl_add (s s' : ByteArray) : bl (s ++ s') = bl s ++ bl s' := by
  unfold bl
  rw [← List.map_append]
  simp
/-- append of a string onto an own row of bytes. -/
theorem append_str {ops : Array Oper} {rest : List Oper} {o : Oper} {a : Act} {Q : Exit → Act → World → Prop} {w : World} (hgd : o.guard = none) (s x : Operand)
    (ho : o.op = .call { callee := .builtin .append, args := #[s, x], argTypes := #[28, 9] })
    (base : Nat) (v : Value) (l : List Nat) (hs : a.eval s = v) (hown : OwnB w base v l) (t : ByteArray) (hx : a.eval x = .string t)
    (hlen : l.length + t.size ≤ 1000000) (hbase : base ≤ w.heap.size)
    (h : ∀ v' w', OwnB w' base v' (l ++ bl t) → Below base w w' → wpList Try.prog ops Q rest (a.put o.dst v') w') : wpList Try.prog ops Q (o :: rest) a w := by
  obtain ⟨i0, hi, hz, hs1, hb⟩ := info_parts u8_info
  refine Go.Lib.wpList_append_own_string w hgd s x 28 9 ho base 5 i0 Try.underlying28 Try.underlying9 hi hz hs1 hb v l.length (cells8 l) hs hown.own t hx (by unfold maxLen; omega) (by omega) hbase ?_
  intro v' w' ho' hg _
  refine h v' w' ⟨?_, ?_⟩ ((Below.refl _ _).grown hg hbase fun k hk => (hown.own.lt k hk).1)
  · have e : cells8 (l ++ bl t) = cells8 l ++ Go.Lib.strCells t := by rw [strCells_bl]; simp [cells8]
    rw [e, List.length_append, bl_len]
    exact ho'
  · intro y hy
    rcases List.mem_append.1 hy with h' | h'
    · exact hown.lt y h'
    · exact bl_lt t y h'
/-- A string turned into a slice of bytes, in new memory. -/
theorem conv_b (t : ByteArray) (w : World) : ∃ c w', (convert 9 28 (.string t)).run Try.prog w = .ok (.slice (some ⟨w.heap.size, 0, none⟩) t.size c) w' ∧ Rd8 w' w'.heap.size (some ⟨w.heap.size, 0, none⟩) t.size (bl t) ∧ Below w.heap.size w w' := by
  refine ⟨_, _, Go.Lib.run_convert_string_bytes w 9 28 5 t Try.underlying9 Try.underlying28 Try.underlying5, ⟨bl_len t, bl_lt t, fun _ => ⟨w.heap.size, 0, rfl, ?_, fun i hi => ?_⟩⟩, ?_⟩
  · rw [Go.Lib.bytesWorld_size]; omega
  · rw [Nat.zero_add, Go.Lib.bytesWorld_cell w _ t i hi]
    have hi' : i < t.data.toList.length := hi
    have e : at64 (bl t) i = ((t.data.toList.getD i 0).toNat : Int) := by
      unfold at64 bl
      rw [List.getD_eq_getElem?_getD, List.getD_eq_getElem?_getD, List.getElem?_map, List.getElem?_eq_getElem hi']
      rfl
    rw [e]
  · exact ⟨rfl, rfl, rfl, by rw [Go.Lib.bytesWorld_size]; omega, fun k hk => Go.Lib.bytesWorld_at_old w _ t k hk⟩
theorem getD_take8 (l : List Nat) {i m : Nat} (h : i < m) : (l.take m).getD i 0 = l.getD i 0 := by
  rw [List.getD_eq_getElem?_getD, List.getD_eq_getElem?_getD, List.getElem?_take_of_lt h]
theorem getD_drop8 (l : List Nat) (i m : Nat) : (l.drop m).getD i 0 = l.getD (m + i) 0 := by
  rw [List.getD_eq_getElem?_getD, List.getD_eq_getElem?_getD, List.getElem?_drop]
/-- A piece of a slice that is read. -/
theorem Rd8.sub {w : World} {B n : Nat} {A A2 : Option Addr} {l : List Nat} (h : Rd8 w B A n l) (i m : Nat) (him : i + m ≤ n) (hA : 0 < m → A2 = A.map (·.add i)) : Rd8 w B A2 m ((l.drop i).take m) := by
  refine ⟨?_, ?_, fun hm => ?_⟩
  · have := h.len; rw [List.length_take, List.length_drop]; omega
  · intro x hx; exact h.lt x (List.mem_of_mem_drop (List.mem_of_mem_take hx))
  · obtain ⟨b, off, e, hb, hc⟩ := h.cells (by omega)
    refine ⟨b, off + i, ?_, hb, fun j hj => ?_⟩
    · rw [hA hm, e]
      show some ((⟨b, off, none⟩ : Addr).add i) = _
      rw [Addr.add_mid]
    · rw [show off + i + j = off + (i + j) by omega, hc (i + j) (by omega)]
      unfold at64
      rw [getD_take8 _ hj, getD_drop8]
theorem szE8 (v : World) : (sizeOf (Try.prog.elem 28)).run Try.prog v = .ok 1 v := by kernel_rfl
/-- x[t:] of a slice that is read. -/
theorem cut_l {w : World} {B n : Nat} {A : Option Addr} {l : List Nat} (h : Rd8 w B A n l) (c t : Nat) (ht : t ≤ n) (hc : n ≤ c) (T : Int) (hT : T = (t : Int)) : ∃ A2,
    (∀ v, (Instr.slice 28 (.slice A n c) (some (.int .i64 T)) none none).run Try.prog v = .ok (.slice A2 (n - t) (c - t)) v) ∧ Rd8 w B A2 (n - t) (l.drop t) := by
  subst hT
  refine ⟨(if c = t then A else A.map (·.add (t * 1))), fun v => ?_, ?_⟩
  · have h1 := run_slice_l (P := Try.prog) v 28 A n c (by kernel_rfl) .i64 (t : Int) (by omega) (by omega)
    rw [h1, szE8]
    rfl
  · have h2 := h.sub (A2 := if c = t then A else A.map (·.add (t * 1))) t (n - t) (by omega) (fun hm => by rw [if_neg (by omega), Nat.mul_one])
    rw [List.take_of_length_le (by have := h.len; rw [List.length_drop]; omega)] at h2
    exact h2
/-- x[i:j] -/
theorem cut_lh {w : World} {B n : Nat} {A : Option Addr} {l : List Nat} (h : Rd8 w B A n l) (c i j : Nat) (hij : i ≤ j) (hj : j ≤ n) (hc : n ≤ c) (I J : Int) (hI : I = (i : Int)) (hJ : J = (j : Int)) : ∃ A2,
    (∀ v, (Instr.slice 28 (.slice A n c) (some (.int .i64 I)) (some (.int .i64 J)) none).run Try.prog v = .ok (.slice A2 (j - i) (c - i)) v) ∧ Rd8 w B A2 (j - i) ((l.drop i).take (j - i)) := by
  subst hI hJ
  refine ⟨(if c = i then A else A.map (·.add (i * 1))), fun v => ?_, ?_⟩
  · have h1 := run_slice_lh (P := Try.prog) v 28 A n c (by kernel_rfl) .i64 .i64 (i : Int) (j : Int) (by omega) (by omega) (by omega)
    rw [h1, szE8]
    rfl
  · exact h.sub (A2 := if c = i then A else A.map (·.add (i * 1))) i (j - i) (by omega) (fun hm => by rw [if_neg (by omega), Nat.mul_one])
/-- x[:j] -/
theorem cut_h {w : World} {B n : Nat} {A : Option Addr} {l : List Nat} (h : Rd8 w B A n l) (c j : Nat) (hj : j ≤ n) (hc : n ≤ c) (J : Int) (hJ : J = (j : Int)) : ∃ A2,
    (∀ v, (Instr.slice 28 (.slice A n c) none (some (.int .i64 J)) none).run Try.prog v = .ok (.slice A2 j c) v) ∧ Rd8 w B A2 j (l.take j) := by
  subst hJ
  refine ⟨(if c = 0 then A else A.map (·.add (0 * 1))), fun v => ?_, ?_⟩
  · have h1 := run_slice_h (P := Try.prog) v 28 A n c (by kernel_rfl) .i64 (j : Int) (by omega) (by omega)
    rw [h1, szE8]
    rfl
  · exact h.sub (A2 := if c = 0 then A else A.map (·.add (0 * 1))) 0 j (by omega) (fun hm => by rw [if_neg (by omega), Nat.mul_one])
/-- x[:j:j] -/
theorem cut_hm {w : World} {B n : Nat} {A : Option Addr} {l : List Nat} (h : Rd8 w B A n l) (c j : Nat) (hj : j ≤ n) (hc : n ≤ c) (J : Int) (hJ : J = (j : Int)) : ∃ A2,
    (∀ v, (Instr.slice 28 (.slice A n c) none (some (.int .i64 J)) (some (.int .i64 J))).run Try.prog v = .ok (.slice A2 j j) v) ∧ Rd8 w B A2 j (l.take j) := by
  subst hJ
  refine ⟨(if j = 0 then A else A.map (·.add (0 * 1))), fun v => ?_, ?_⟩
  · have h1 := run_slice_hm (P := Try.prog) v 28 A n c (by kernel_rfl) .i64 .i64 (j : Int) (j : Int) (by omega) (by omega) (by omega)
    rw [h1, szE8]
    rfl
  · exact h.sub (A2 := if j = 0 then A else A.map (·.add (0 * 1))) 0 j (by omega) (fun hm => by rw [if_neg (by omega), Nat.mul_one])
/-- A slice that is read, where one block that it does not lie in is turned. -/
theorem Rd8.keepO {w w' : World} {b n : Nat} {A : Option Addr} {l : List Nat} (h : Rd8 w w.heap.size A n l) (ho : ∀ k, k ≠ b → w'.heap[k]? = w.heap[k]?) (hs : w.heap.size ≤ w'.heap.size) (hA : ∀ x, A = some x → x.block ≠ b) : Rd8 w' w'.heap.size A n l :=
  ⟨h.len, h.lt, fun hn => by
    obtain ⟨c, off, e, hc, hr⟩ := h.cells hn
    have hne : c ≠ b := hA _ e
    exact ⟨c, off, e, Nat.lt_of_lt_of_le hc hs, fun i hi => (World.cell?_of_block (w := w) (ho c hne)).trans (hr i hi)⟩⟩
/-- x[:j:j], and where it lies. -/
theorem cut_hmB {w : World} {B n : Nat} {A : Option Addr} {l : List Nat} (h : Rd8 w B A n l) (c j : Nat) (hj : j ≤ n) (hc : n ≤ c) (J : Int) (hJ : J = (j : Int)) : ∃ A2,
    (∀ v, (Instr.slice 28 (.slice A n c) none (some (.int .i64 J)) (some (.int .i64 J))).run Try.prog v = .ok (.slice A2 j j) v) ∧ Rd8 w B A2 j (l.take j) ∧ ∀ x, A2 = some x → ∃ y, A = some y ∧ x.block = y.block := by
  subst hJ
  refine ⟨(if j = 0 then A else A.map (·.add (0 * 1))), fun v => ?_, ?_, fun x hx => ?_⟩
  · have h1 := run_slice_hm (P := Try.prog) v 28 A n c (by kernel_rfl) .i64 .i64 (j : Int) (j : Int) (by omega) (by omega) (by omega)
    rw [h1, szE8]
    rfl
  · exact h.sub (A2 := if j = 0 then A else A.map (·.add (0 * 1))) 0 j (by omega) (fun hm => by rw [if_neg (by omega), Nat.mul_one])
  · split at hx
    · exact ⟨x, hx, rfl⟩
    · rcases A with _ | y
      · cases hx
      · have e : y.add (0 * 1) = x := Option.some.inj hx
        refine ⟨y, rfl, ?_⟩
        rw [← e]
        unfold Addr.add
        split <;> rfl
theorem OwnB.rdB {w : World} {base : Nat} {v : Value} {l : List Nat} (h : OwnB w base v l) : ∃ A c, v = .slice A l.length c ∧ l.length ≤ c ∧ Rd8 w w.heap.size A l.length l ∧ ∀ x, A = some x → base ≤ x.block := by
  obtain ⟨A, c, e, h1, h2⟩ := h.rd
  refine ⟨A, c, e, h1, h2, fun x hx => ?_⟩
  subst hx
  exact (h.own.lt x.block (by rw [e]; rfl)).1
end Go.Proofs.Ytokfldecjknamaa
