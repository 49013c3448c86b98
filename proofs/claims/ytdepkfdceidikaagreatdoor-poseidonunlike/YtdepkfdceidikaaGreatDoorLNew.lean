import Derived.Test.YtdepkfdceidikaaGreatDoorLMul
import Derived.Lib.BitFns
import Derived.Lib.Walk
import Derived.Laws.AppendOwn
import Derived.OwnWalk
import Derived.Test.YtdepkfdceidikaaGreatDoorLShift
import Derived.Lib.SliceRun
/-
  bits.Len64, bits.LeadingZeros64, limb.Bits: what each call does.
-/
namespace Go.Proofs.YtdepkfdceidikaaGreatDoor
open Go.RowKit
set_option linter.unusedVariables false

theorem len8_at (i : Int) (h : i.toNat < Lib.len8tab.size) (h0 : 0 ≤ i) (h1 : i ≤ 255) : ((Lib.len8tab[i.toNat]'h).toNat : Int) = (Lib.bitLen i.toNat : Int) := by
  have e := Lib.len8_of i h0 h1
  unfold Lib.len8 at e
  rw [← e, ByteArray.getElem?_lt' _ _ h, Option.getD_some]
theorem wrap_small (x : Int) (h0 : 0 ≤ x) (h1 : x ≤ 1000) : wrap64 x = x := by
  unfold wrap64; omega
theorem len_fin (k : Nat) (x i : Int) (h : i.toNat < Lib.len8tab.size) (h0 : 0 ≤ i) (h1 : i ≤ 255) (hk : k ≤ 64) (hx : x < 18446744073709551616) (hi : i.toNat = x.toNat / 2 ^ k) (hp : 2 ^ k ≤ x.toNat) :
    wrap64 (k + wrap64 ((Lib.len8tab[i.toNat]'h).toNat : Int)) = (Lib.bitLen x.toNat : Int) := by
  have b := Lib.bitLen_le8' i h0 h1
  rw [len8_at i h h0 h1, wrap_small (Lib.bitLen i.toNat : Int) (by omega) (by omega), wrap_small _ (by omega) (by omega), hi, Lib.bitLen_shift k x.toNat hp (by omega)]
  rfl
theorem len_fin0 (x : Int) (h : x.toNat < Lib.len8tab.size) (h0 : 0 ≤ x) (h1 : x ≤ 255) :
    wrap64 (wrap64 ((Lib.len8tab[x.toNat]'h).toNat : Int)) = (Lib.bitLen x.toNat : Int) := by
  have b := Lib.bitLen_le8' x h0 h1
  rw [len8_at x h h0 h1, wrap_small (Lib.bitLen x.toNat : Int) (by omega) (by omega), wrap_small _ (by omega) (by omega)]
set_option maxHeartbeats 4000000 in
set_option maxRecDepth 100000 in
theorem len64_c (x : Int) (h0 : 0 ≤ x) (h1 : x ≤ 18446744073709551615) (w : World) :
    Calls Tryz.prog 110 #[.int .u64 x] w fun e w' => e = .returned (.int .i64 (Lib.bitLen x.toNat)) ∧ w = w' := by
  have hsz := Lib.len8tab_size
  go_enter Tryz.func110, Tryz.ntmps110
  go_wp2
  all_goals (go_ret; refine ⟨ret_int ?_, rfl⟩)
  all_goals first
    | exact len_fin0 _ _ (by omega) (by omega)
    | exact len_fin 56 _ _ _ (by omega) (by omega) (by omega) (by omega) (by omega) (by omega)
    | exact len_fin 48 _ _ _ (by omega) (by omega) (by omega) (by omega) (by omega) (by omega)
    | exact len_fin 40 _ _ _ (by omega) (by omega) (by omega) (by omega) (by omega) (by omega)
    | exact len_fin 32 _ _ _ (by omega) (by omega) (by omega) (by omega) (by omega) (by omega)
    | exact len_fin 24 _ _ _ (by omega) (by omega) (by omega) (by omega) (by omega) (by omega)
    | exact len_fin 16 _ _ _ (by omega) (by omega) (by omega) (by omega) (by omega) (by omega)
    | exact len_fin 8 _ _ _ (by omega) (by omega) (by omega) (by omega) (by omega) (by omega)

theorem lz64_c (x : Int) (h0 : 0 ≤ x) (h1 : x ≤ 18446744073709551615) (w : World) :
    Calls Tryz.prog 81 #[.int .u64 x] w fun e w' => e = .returned (.int .i64 (64 - Lib.bitLen x.toNat)) ∧ w = w' := by
  have b := Lib.bitLen_le x.toNat 64 (by omega) (by omega)
  go_enter Tryz.func81, Tryz.ntmps81
  go_wp2_with fail
  refine (len64_c x h0 h1 _).mono ?_
  rintro e w' ⟨rfl, rfl⟩
  go_wp2
  go_ret
  exact ⟨rfl, rfl⟩
end Go.Proofs.YtdepkfdceidikaaGreatDoor
/-
  A slice of words that the call itself made and appends to (OwnW), and the law of append for it.
-/
namespace Go.Proofs.YtdepkfdceidikaaGreatDoor
open Go.RowKit
set_option linter.unusedVariables false

def cellsOf64 (l : List Nat) : List Value := l.map fun (x : Nat) => Value.int .u64 (x : Int)

/-- The slice value v owns the words l, among the blocks from base on. -/
structure OwnW (w : World) (base : Nat) (v : Value) (l : List Nat) : Prop where
  own : w.ownsRow base 34 1 v l.length (cellsOf64 l)
  lt : allLt l

theorem OwnW.alloc {w : World} {base : Nat} {v : Value} {l : List Nat} (h : OwnW w base v l) (o : Obj) : OwnW (w.alloc o) base v l := ⟨h.own.alloc o, h.lt⟩
theorem OwnW.rd {w : World} {base : Nat} {v : Value} {l : List Nat} (h : OwnW w base v l) : ∃ A c, v = .slice A l.length c ∧ l.length ≤ c ∧ Rd w w.heap.size A l.length l := by
  rcases h.own.2 with ⟨rfl, hn⟩ | ⟨g, cap, cur, rfl, hb, hg, hc, _, _, ht⟩
  · have : l = [] := List.eq_nil_of_length_eq_zero hn
    subst this
    exact ⟨none, 0, rfl, Nat.le_refl _, Rd.nil _ _ _⟩
  · refine ⟨some ⟨g, 0, none⟩, cap, rfl, hc, rfl, h.lt, fun _ => ⟨g, 0, rfl, (Array.getElem?_eq_some_iff.1 hg).1, fun i hi => ?_⟩⟩
    have := h.own.cells (g := g) rfl i (.int .u64 (at64 l i)) (by simp [cellsOf64, at64, List.getElem?_eq_getElem hi, List.getD_eq_getElem?_getD])
    have hadd : (⟨g, 0, none⟩ : Addr).add i = ⟨g, 0 + i, none⟩ := by unfold Addr.add; split <;> simp_all
    rw [hadd] at this
    exact this
theorem own_nil (w : World) (base : Nat) : OwnW w base (.slice none 0 0) [] := ⟨World.ownsRow_nil w base _ 1, fun x hx => by simp at hx⟩
/-- make([]uint64, 0, c). -/
theorem own_made (w : World) (c : Nat) (hc : c ≤ 1000000) : OwnW (w.alloc (.cells (zeros c) 34)) w.heap.size (.slice (some ⟨w.heap.size, 0, none⟩) 0 c) [] :=
  ⟨World.ownsRow_made w (zeros c) c (Nat.le_refl _) (by unfold maxLen; omega) (by simp [zeros, size_madeCells]), fun x hx => by simp at hx⟩
/-- A block that is known whole, as a slice of all of it. -/
theorem BlkW.own {w : World} {b : Nat} {ws : List Nat} (h : BlkW w b 34 ws) (hl : ws.length ≤ 1000000) : OwnW w b (.slice (some ⟨b, 0, none⟩) ws.length ws.length) ws :=
  ⟨⟨by simp [cellsOf64], .inr ⟨b, ws.length, _, rfl, Nat.le_refl _, h.heap, Nat.le_refl _, by unfold maxLen; omega, by simp, by simp only [cellsOf64, Nat.mul_one]; exact List.take_of_length_le (by simp)⟩⟩, h.lt⟩

theorem append_words {ops : Array Oper} {rest : List Oper} {o : Oper} {a : Act} {Q : Exit → Act → World → Prop} {w : World} (hgd : o.guard = none) (s x : Operand)
    (ho : o.op = .call { callee := .builtin .append, args := #[s, x], argTypes := #[50, 50] })
    (base : Nat) (v : Value) (l : List Nat) (hs : a.eval s = v) (hown : OwnW w base v l) (b c : Nat) (news : List Nat) (hnl : allLt news) (hx : a.eval x = .slice (some ⟨b, 0, none⟩) news.length c)
    (hcell : ∀ i, i < news.length → w.cell? ⟨b, i, none⟩ = some (.int .u64 (at64 news i))) (hlen : l.length + news.length ≤ 1000000) (hbase : base ≤ w.heap.size)
    (h : ∀ v' w', OwnW w' base v' (l ++ news) → Below base w w' → wpList Tryz.prog ops Q rest (a.put o.dst v') w') : wpList Tryz.prog ops Q (o :: rest) a w := by
  obtain ⟨i0, hi, hz, hs1, hb⟩ := info_parts u64_info
  refine wpList_append_own w hgd s x 50 ho base 34 i0 (.int .u64 0) 1 8 Tryz.underlying50 hi hz hs1 hb rfl (by decide) v l.length (cellsOf64 l) hs hown.own ⟨b, 0, none⟩ news.length c (cellsOf64 news) hx
    (by simp [cellsOf64]) ?_ ?_ (by unfold maxLen; omega) (by omega) hbase ?_
  · intro j u hj
    have hadd : (⟨b, 0, none⟩ : Addr).add j = ⟨b, j, none⟩ := by unfold Addr.add; split <;> simp_all
    rw [hadd]
    have hjl : j < news.length := by
      have := (List.getElem?_eq_some_iff.1 hj).1
      simpa [cellsOf64] using this
    rw [hcell j hjl, ← hj]
    simp [cellsOf64, at64, List.getElem?_eq_getElem hjl, List.getD_eq_getElem?_getD]
  · intro u hu
    simp only [cellsOf64, List.mem_map] at hu
    obtain ⟨y, _, rfl⟩ := hu
    rfl
  · intro v' w' ho' hg _
    refine h v' w' ⟨?_, ?_⟩ ((Below.refl _ _).grown hg hbase fun k hk => (hown.own.lt k hk).1)
    · have e : cellsOf64 (l ++ news) = cellsOf64 l ++ cellsOf64 news := by simp [cellsOf64]
      rw [e, List.length_append]
      exact ho'
    · intro y hy
      rcases List.mem_append.1 hy with h' | h'
      · exact hown.lt y h'
      · exact hnl y h'

/-- append of one word, in the world behind the building of its one-word slice. -/
theorem append_word {ops : Array Oper} {rest : List Oper} {o : Oper} {a : Act} {Q : Exit → Act → World → Prop} {w : World} (hgd : o.guard = none) (s x : Operand)
    (ho : o.op = .call { callee := .builtin .append, args := #[s, x], argTypes := #[50, 50] })
    (base : Nat) (v : Value) (l : List Nat) (hs : a.eval s = v) (hown : OwnW w base v l) (X : Int) (n : Nat) (hX : X = (n : Int)) (hn : n < 18446744073709551616) (hx : a.eval x = .slice (some ⟨w.heap.size, 0, none⟩) 1 1)
    (hlen : l.length ≤ 100000) (hbase : base ≤ w.heap.size)
    (h : ∀ v' w', OwnW w' base v' (l ++ [n]) → Below base w w' → wpList Tryz.prog ops Q rest (a.put o.dst v') w') : wpList Tryz.prog ops Q (o :: rest) a (w.alloc (.cells #[.int .u64 X] 34)) := by
  subst hX
  refine append_words hgd s x ho base v l hs (hown.alloc _) w.heap.size 1 [n] (fun y hy => by simp at hy; omega) hx ?_ (by simp; omega) (by simp; omega) fun v' w' h1 h2 => h v' w' h1 (((Below.refl _ _).alloc hbase _).trans h2)
  intro i hi
  have : i = 0 := by simp at hi; omega
  subst this
  simp [at64]

/-- The same as one step of a region that draws its order. -/
theorem step_append_words {ops : Array Oper} {o : Oper} {a : Act} {K : Act → World → Prop} {Q : Exit → Act → World → Prop} {E : Prop} {w : World} (hgd : o.guard = none) (s x : Operand)
    (ho : o.op = .call { callee := .builtin .append, args := #[s, x], argTypes := #[50, 50] })
    (base : Nat) (v : Value) (l : List Nat) (hs : a.eval s = v) (hown : OwnW w base v l) (b c : Nat) (news : List Nat) (hnl : allLt news) (hx : a.eval x = .slice (some ⟨b, 0, none⟩) news.length c)
    (hcell : ∀ i, i < news.length → w.cell? ⟨b, i, none⟩ = some (.int .u64 (at64 news i))) (hlen : l.length + news.length ≤ 1000000) (hbase : base ≤ w.heap.size)
    (h : ∀ v' w', OwnW w' base v' (l ++ news) → Below base w w' → K (a.put o.dst v') w') : if Region.wanted o (yielded ops a.tmps) = true then Oper.wp Tryz.prog o a w K Q else E := by
  have hw : Region.wanted o (yielded ops a.tmps) = true := by simp [Region.wanted, hgd]
  rw [if_pos hw]
  obtain ⟨i0, hi, hz, hs1, hb⟩ := info_parts u64_info
  refine wp_append_own w s x 50 ho base 34 i0 (.int .u64 0) 1 8 Tryz.underlying50 hi hz hs1 hb rfl (by decide) v l.length (cellsOf64 l) hs hown.own ⟨b, 0, none⟩ news.length c (cellsOf64 news) hx
    (by simp [cellsOf64]) ?_ ?_ (by unfold maxLen; omega) (by omega) hbase ?_
  · intro j u hj
    have hadd : (⟨b, 0, none⟩ : Addr).add j = ⟨b, j, none⟩ := by unfold Addr.add; split <;> simp_all
    rw [hadd]
    have hjl : j < news.length := by
      have := (List.getElem?_eq_some_iff.1 hj).1
      simpa [cellsOf64] using this
    rw [hcell j hjl, ← hj]
    simp [cellsOf64, at64, List.getElem?_eq_getElem hjl, List.getD_eq_getElem?_getD]
  · intro u hu
    simp only [cellsOf64, List.mem_map] at hu
    obtain ⟨y, _, rfl⟩ := hu
    rfl
  · intro v' w' ho' hg _
    refine h v' w' ⟨?_, ?_⟩ ((Below.refl _ _).grown hg hbase fun k hk => (hown.own.lt k hk).1)
    · have e : cellsOf64 (l ++ news) = cellsOf64 l ++ cellsOf64 news := by simp [cellsOf64]
      rw [e, List.length_append]
      exact ho'
    · intro y hy
      rcases List.mem_append.1 hy with h' | h'
      · exact hown.lt y h'
      · exact hnl y h'

theorem OwnW.drew {w : World} {base : Nat} {v : Value} {l : List Nat} (h : OwnW w base v l) : OwnW w.drew base v l := ⟨h.own, h.lt⟩
theorem OwnW.drewN {w : World} {base : Nat} {v : Value} {l : List Nat} (h : OwnW w base v l) (n : Nat) : OwnW (w.drewN n) base v l := ⟨h.own, h.lt⟩
/-- append of two words. -/
theorem append_two {ops : Array Oper} {rest : List Oper} {o : Oper} {a : Act} {Q : Exit → Act → World → Prop} {w : World} (hgd : o.guard = none) (s x : Operand)
    (ho : o.op = .call { callee := .builtin .append, args := #[s, x], argTypes := #[50, 50] })
    (base : Nat) (v : Value) (l : List Nat) (hs : a.eval s = v) (hown : OwnW w base v l) (X Y : Int) (m n : Nat) (hX : X = (m : Int)) (hY : Y = (n : Int)) (hm : m < 18446744073709551616) (hn : n < 18446744073709551616) (hx : a.eval x = .slice (some ⟨w.heap.size, 0, none⟩) 2 2)
    (hlen : l.length ≤ 100000) (hbase : base ≤ w.heap.size)
    (h : ∀ v' w', OwnW w' base v' (l ++ [m, n]) → Below base w w' → wpList Tryz.prog ops Q rest (a.put o.dst v') w') : wpList Tryz.prog ops Q (o :: rest) a (w.alloc (.cells #[.int .u64 X, .int .u64 Y] 34)) := by
  subst hX hY
  refine append_words hgd s x ho base v l hs (hown.alloc _) w.heap.size 2 [m, n] (fun y hy => by simp at hy; omega) hx ?_ (by simp; omega) (by simp; omega) fun v' w' h1 h2 => h v' w' h1 (((Below.refl _ _).alloc hbase _).trans h2)
  intro i hi
  have : i = 0 ∨ i = 1 := by simp at hi; omega
  rcases this with rfl | rfl <;> simp [at64]
end Go.Proofs.YtdepkfdceidikaaGreatDoor
/-
  slices.Clone, limb.isModulus, avouchref01.Right, limb.New: what each call does.
-/
namespace Go.Proofs.YtdepkfdceidikaaGreatDoor
open Go.RowKit
set_option linter.unusedVariables false

theorem zeroCells_eq (n : Nat) : Builtin.zeroCells (Value.int .u64 0).cells n = ((List.replicate n 0).map fun (x : Nat) => Value.int .u64 (x : Int)).toArray := by
  unfold Builtin.zeroCells
  apply Array.ext
  · simp [Value.cells]
  · intro i h1 h2
    simp [Value.cells, Nat.mod_one]

set_option maxRecDepth 20000 in
/-- append of the words of a slice onto an empty slice without room. -/
theorem append_clone {ops : Array Oper} {rest : List Oper} {o : Oper} {a : Act} {Q : Exit → Act → World → Prop} {w : World} (hgd : o.guard = none) (s x : Operand)
    (ho : o.op = .call { callee := .builtin .append, args := #[s, x], argTypes := #[50, 50] })
    (g : Nat) (hs : a.eval s = .slice (some ⟨g, 0, none⟩) 0 0) (b off n c B : Nat) (l : List Nat) (hx : a.eval x = .slice (some ⟨b, off, none⟩) n c) (hr : Rd w B (some ⟨b, off, none⟩) n l) (h0 : 1 ≤ n) (hn : n ≤ 100000)
    (h : ∀ k w', BlkW w' w.heap.size 34 (l ++ List.replicate k 0) → Below w.heap.size w w' → wpList Tryz.prog ops Q rest (a.put o.dst (.slice (some ⟨w.heap.size, 0, none⟩) n (n + k))) w') : wpList Tryz.prog ops Q (o :: rest) a w := by
  obtain ⟨i0, hi, hz, hs1, hb⟩ := info_parts u64_info
  have hcells : ∀ j v, (cellsOf64 l)[j]? = some v → w.cell? ((⟨b, off, none⟩ : Addr).add j) = some v := by
    intro j v hj
    have hadd : (⟨b, off, none⟩ : Addr).add j = ⟨b, off + j, none⟩ := by unfold Addr.add; split <;> simp_all
    have hjl : j < l.length := by
      have := (List.getElem?_eq_some_iff.1 hj).1
      simpa [cellsOf64] using this
    obtain ⟨b', off', e, _, hc⟩ := hr.cells (by omega)
    injection e with e
    injection e with e1 e2
    subst e1 e2
    rw [hadd, hc j (by rw [← hr.len]; exact hjl), ← hj]
    simp [cellsOf64, at64, List.getElem?_eq_getElem hjl, List.getD_eq_getElem?_getD]
  have hrun := run_append_grow (P := Tryz.prog) w 50 o.type 34 i0 _ Tryz.underlying50 hi hz ⟨g, 0, none⟩ 0 0 [] (by simp) (by intro j v hj; simp at hj) ⟨b, off, none⟩ n c (cellsOf64 l) (by simp [cellsOf64, hs1, hr.len]) hcells (by omega) (by omega)
    (growslice_fits (by omega) (by rw [hb]; omega))
  simp only [Nat.zero_add] at hrun
  have hge := grownCap_ge w n 0 34
  refine wpList_plain hgd fun K hK' => ?_
  unfold Oper.wp
  simp only [execOp, ho, resolve, invoke, builtin, Sem.run_bind, Sem.run_pure, Result.andThen_ok, List.map_toArray, List.map_cons, List.map_nil, hs, hx, hrun]
  have := h (grownCap w n 0 34 - n) (w.drew.alloc (.cells ([].toArray ++ (cellsOf64 l).toArray ++ Builtin.zeroCells (Value.int .u64 0).cells (grownCap w n 0 34 - n)) 34)) ?_ ?_
  · rw [show n + (grownCap w n 0 34 - n) = grownCap w n 0 34 by omega] at this
    exact hK' _ _ this
  · refine ⟨?_, ?_⟩
    · rw [zeroCells_eq]
      have : ([].toArray ++ (cellsOf64 l).toArray ++ ((List.replicate (grownCap w n 0 34 - n) 0).map fun (x : Nat) => Value.int .u64 (x : Int)).toArray) = ((l ++ List.replicate (grownCap w n 0 34 - n) 0).map fun (x : Nat) => Value.int .u64 (x : Int)).toArray := by
        simp [cellsOf64]
      rw [this]
      exact heap_alloc_new w.drew _
    · intro x hx
      rcases List.mem_append.1 hx with h' | h'
      · exact hr.lt x h'
      · have := List.eq_of_mem_replicate h'; omega
  · exact ((Below.refl _ _).drew).alloc (Nat.le_refl _) _

set_option maxHeartbeats 400000 in
theorem clone_c (b off n c : Nat) (l : List Nat) (w : World) (h : Rd w w.heap.size (some ⟨b, off, none⟩) n l) (h0 : 1 ≤ n) (hn : n ≤ 100000) :
    Calls Tryz.prog 82 #[.slice (some ⟨b, off, none⟩) n c] w fun e w' => ∃ g k, e = .returned (.slice (some ⟨g, 0, none⟩) n (n + k)) ∧ w.heap.size ≤ g ∧ BlkW w' g 34 (l ++ List.replicate k 0) ∧ Below w.heap.size w w' := by
  have hnil : ∀ w, (binOp .eql 50 (.slice (some ⟨b, off, none⟩) n c) (.slice none 0 0)).run Tryz.prog w = .ok (.bool false) w := fun w => by
    have := Lib.run_eql_slice_nil (P := Tryz.prog) w 50 34 (some ⟨b, off, none⟩) n c 0 0 Tryz.underlying50
    simpa using this
  have hb : Below w.heap.size w (w.alloc (.cells #[] 34)) := (Below.refl _ _).alloc (Nat.le_refl _) _
  have hr := h.below hb (Nat.le_refl _)
  go_enter Tryz.func82, Tryz.ntmps82
  go_wp2_with (at_builtin; refine append_clone rfl (.tmp 5) (.tmp 6) rfl w.heap.size rfl b off n c w.heap.size l rfl hr h0 hn ?_)
  intro k w' hB hb'
  have hb2 : Below w.heap.size w w' := hb.trans (hb'.mono (by simp))
  clear hnil hb'
  go_wp2
  go_ret
  exact ⟨_, k, rfl, by simp, hB, hb2⟩

/-- May words be a modulus? -/
def Rt (l : List Nat) : Prop := 1 ≤ l.length ∧ l.length ≤ 16 ∧ l.getD 0 0 % 2 = 1 ∧ l.getD (l.length - 1) 0 ≠ 0 ∧ (1 < l.length ∨ l.getD 0 0 ≠ 1)
def rtB (l : List Nat) : Bool := decide (1 ≤ l.length ∧ l.length ≤ 16 ∧ l.getD 0 0 % 2 = 1 ∧ l.getD (l.length - 1) 0 ≠ 0 ∧ (1 < l.length ∨ l.getD 0 0 ≠ 1))
theorem rtB_t {l : List Nat} (h : Rt l) : rtB l = true := by unfold rtB; unfold Rt at h; exact decide_eq_true h
theorem rtB_f {l : List Nat} (h : ¬ Rt l) : rtB l = false := by unfold rtB; unfold Rt at h; exact decide_eq_false h
theorem rtB_of {l : List Nat} (h : rtB l = true) : Rt l := by unfold rtB at h; unfold Rt; exact of_decide_eq_true h

set_option maxHeartbeats 1000000 in
theorem isModulus_c (A : Option Addr) (n c B : Nat) (l : List Nat) (w : World) (h : Rd w B A n l) (hn : n ≤ 100000) :
    Calls Tryz.prog 80 #[.slice A n c] w fun e w' => e = .returned (.bool (rtB l)) ∧ w = w' := by
  have hl := h.len
  by_cases h0 : n = 0
  · subst h0
    have HF : Hid (rtB l = false) := rtB_f (by unfold Rt; omega)
    clear hl
    go_enter Tryz.func80, Tryz.ntmps80
    go_wp2
    go_ret
    exact ⟨ret_bool HF.out.symm, rfl⟩
  obtain ⟨m, rfl⟩ : ∃ m, n = m + 1 := ⟨n - 1, by omega⟩
  by_cases h16 : 16 < m + 1
  · have HF : Hid (rtB l = false) := rtB_f (by unfold Rt; omega)
    have e0 : ((m : Int) + 1 == 0) = false := by simp; omega
    have e1 : decide (16 < (m : Int) + 1) = true := by simp; omega
    clear hl h0
    go_enter Tryz.func80, Tryz.ntmps80
    go_wp2
    go_ret
    exact ⟨ret_bool HF.out.symm, rfl⟩
  have e0 : ((m : Int) + 1 == 0) = false := by simp; omega
  have e1 : decide (16 < (m : Int) + 1) = false := by simp; omega
  obtain ⟨b, off, rfl, hb, c0⟩ := h.at_ (k := 0) (by omega)
  obtain ⟨b', off', ee, _, c1⟩ := h.at_ (k := m) (by omega)
  obtain ⟨rfl, rfl⟩ : b = b' ∧ off = off' := by injection ee with ee; injection ee with e1 e2; exact ⟨e1, e2⟩
  rw [Nat.add_zero] at c0
  have x0 := at64_nonneg l 0
  have x0' := at64_lt h.lt 0
  clear ee
  by_cases hodd : l.getD 0 0 % 2 = 1
  · have o1 : (at64 l 0 % 2 == 1) = true := beq_iff_eq.2 (by unfold at64; omega)
    by_cases hz : l.getD m 0 = 0
    · have HF : Hid (rtB l = false) := rtB_f (by unfold Rt; rw [hl, show m + 1 - 1 = m from rfl]; omega)
      have z1 : (at64 l m != 0) = false := by unfold at64; rw [hz]; rfl
      clear hl h0 hodd hz
      by_cases h1 : m = 0
      · subst h1
        by_cases hone : l.getD 0 0 = 1
        · have p1 : (at64 l 0 == 1) = true := by unfold at64; rw [hone]; rfl
          clear hone
          go_enter Tryz.func80, Tryz.ntmps80
          go_wp2
          go_ret
          exact ⟨ret_bool HF.out.symm, rfl⟩
        · have p1 : (at64 l 0 == 1) = false := beq_eq_false_iff_ne.2 (by unfold at64; omega)
          clear hone
          go_enter Tryz.func80, Tryz.ntmps80
          go_wp2
          go_ret
          exact ⟨ret_bool HF.out.symm, rfl⟩
      · have p2 : ((m : Int) + 1 == 1) = false := by simp; omega
        clear h1
        go_enter Tryz.func80, Tryz.ntmps80
        go_wp2
        go_ret
        exact ⟨ret_bool HF.out.symm, rfl⟩
    · have z1 : (at64 l m != 0) = true := bne_iff_ne.2 (by unfold at64; omega)
      by_cases h1 : m = 0
      · subst h1
        by_cases hone : l.getD 0 0 = 1
        · have HF : Hid (rtB l = false) := rtB_f (by unfold Rt; omega)
          have p1 : (at64 l 0 == 1) = true := by unfold at64; rw [hone]; rfl
          clear hl h0 hodd hz hone
          go_enter Tryz.func80, Tryz.ntmps80
          go_wp2
          go_ret
          exact ⟨ret_bool HF.out.symm, rfl⟩
        · have HF : Hid (rtB l = true) := rtB_t (by unfold Rt; rw [hl]; exact ⟨by omega, by omega, hodd, hz, .inr hone⟩)
          have p1 : (at64 l 0 == 1) = false := beq_eq_false_iff_ne.2 (by unfold at64; omega)
          clear hl h0 hodd hz hone
          go_enter Tryz.func80, Tryz.ntmps80
          go_wp2
          go_ret
          exact ⟨ret_bool HF.out.symm, rfl⟩
      · have HF : Hid (rtB l = true) := rtB_t (by unfold Rt; rw [hl]; exact ⟨by omega, by omega, hodd, hz, .inl (by omega)⟩)
        have p2 : ((m : Int) + 1 == 1) = false := by simp; omega
        clear hl h0 hodd hz h1
        go_enter Tryz.func80, Tryz.ntmps80
        go_wp2
        go_ret
        exact ⟨ret_bool HF.out.symm, rfl⟩
  · have HF : Hid (rtB l = false) := rtB_f (by unfold Rt; omega)
    have o1 : (at64 l 0 % 2 == 1) = false := beq_eq_false_iff_ne.2 (by unfold at64; omega)
    clear hl h0 hodd
    by_cases h1 : m = 0
    · subst h1
      by_cases hone : l.getD 0 0 = 1
      · have p1 : (at64 l 0 == 1) = true := by unfold at64; rw [hone]; rfl
        clear hone
        go_enter Tryz.func80, Tryz.ntmps80
        go_wp2
        go_ret
        exact ⟨ret_bool HF.out.symm, rfl⟩
      · have p1 : (at64 l 0 == 1) = false := beq_eq_false_iff_ne.2 (by unfold at64; omega)
        clear hone
        go_enter Tryz.func80, Tryz.ntmps80
        go_wp2
        go_ret
        exact ⟨ret_bool HF.out.symm, rfl⟩
    · have p2 : ((m : Int) + 1 == 1) = false := by simp; omega
      clear h1
      go_enter Tryz.func80, Tryz.ntmps80
      go_wp2
      go_ret
      exact ⟨ret_bool HF.out.symm, rfl⟩
end Go.Proofs.YtdepkfdceidikaaGreatDoor
