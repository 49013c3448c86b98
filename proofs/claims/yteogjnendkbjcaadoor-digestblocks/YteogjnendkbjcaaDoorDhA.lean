/-
  A Hash as it lies in memory; worlds that differ in one old block alone; rows appended, rows copied. Helpers for the walks of stage 7.
-/
import Derived.Test.YteogjnendkbjcaaDoorDgC
import Derived.Test.YteogjnendkbjcaaDoorKLb
import Derived.Laws.AppendOwnNone
import Derived.Laws.CopyOwn
namespace Go.Proofs.YteogjnendkbjcaaDoor
open Go.RowKit
set_option linter.unusedVariables false

/-- Of the blocks that w had, w' has all but b as they were. -/
structure Only (b : Nat) (w w' : World) : Prop where
  os : w'.os = w.os
  tape : w'.tape = w.tape
  output : w'.output = w.output
  size : w.heap.size ≤ w'.heap.size
  block : ∀ k, k < w.heap.size → k ≠ b → w'.heap[k]? = w.heap[k]?
theorem Only.refl (b : Nat) (w : World) : Only b w w := ⟨rfl, rfl, rfl, Nat.le_refl _, fun _ _ _ => rfl⟩
theorem Only.trans {b : Nat} {x y z : World} (h : Only b x y) (k : Only b y z) : Only b x z :=
  ⟨k.os.trans h.os, k.tape.trans h.tape, k.output.trans h.output, Nat.le_trans h.size k.size, fun i hi hb => (k.block i (Nat.lt_of_lt_of_le hi h.size) hb).trans (h.block i hi hb)⟩
theorem Only.of {b : Nat} {w w' : World} (h : Below w.heap.size w w') : Only b w w' := ⟨h.os, h.tape, h.output, h.size, fun k hk _ => h.block k hk⟩
theorem Only.drew {b : Nat} {w w' : World} (h : Only b w w') : Only b w w'.drew := ⟨h.os, h.tape, h.output, h.size, h.block⟩
theorem Only.set {b : Nat} {w w' : World} (h : Only b w w') (i : Nat) (v : Value) : Only b w (w'.setCell ⟨b, i, none⟩ v) :=
  h.trans ⟨rfl, rfl, rfl, by simp [World.setCell], fun k _ hb => Below.heap_setCell _ _ _ _ hb⟩
theorem Only.sets {b : Nat} {w : World} : ∀ (vs : List Value) (o : Nat) (w' : World), Only b w w' → Only b w (w'.setCells b o vs)
  | [], _, _, h => h
  | v :: r, o, w', h => Only.sets r (o + 1) _ (h.set o v)
theorem Only.below {b B : Nat} {w w' : World} (h : Only b w w') (hB : B ≤ b) (hs : B ≤ w.heap.size) : Below B w w' :=
  ⟨h.os, h.tape, h.output, h.size, fun k hk => h.block k (by omega) (by omega)⟩
theorem Only.own {b : Nat} {w w' : World} {v : Value} {l : List Nat} (h : Only b w w') (ho : OwnB w (b + 1) v l) : OwnB w' (b + 1) v l := by
  refine ⟨⟨ho.own.1, ?_⟩, ho.lt⟩
  rcases ho.own.2 with h' | ⟨g, cap, cur, e, hb, hg, r⟩
  · exact Or.inl h'
  · have hgs := (Array.getElem?_eq_some_iff.1 hg).1
    exact Or.inr ⟨g, cap, cur, e, hb, (h.block g hgs (by omega)).trans hg, r⟩
theorem Only.blk {b c : Nat} {w w' : World} {t : TypeId} {vs : List Value} (h : Only b w w') (hv : BlkV w c t vs) (hne : c ≠ b) : BlkV w' c t vs := ⟨(h.block c hv.size hne).trans hv.heap⟩
theorem Only.glob {b : Nat} {w w' : World} (h : Only b w w') (hG : GlobK w) (hlo : 1 < b ∧ 0 < b) : GlobK w' := by
  have key : ∀ g : Nat, g < w.heap.size → g < b → ∀ i, w'.cell? ⟨g, i, none⟩ = w.cell? ⟨g, i, none⟩ := fun g h1 h2 i =>
    (h.below (B := g + 1) (by omega) (by omega)).cell (p := ⟨g, i, none⟩) (Nat.lt_succ_self g)
  exact ⟨⟨Nat.lt_of_lt_of_le hG.size.1 h.size, Nat.lt_of_lt_of_le hG.size.2 h.size⟩, fun i hi => (key _ hG.size.1 hlo.1 i).trans (hG.consts i hi), fun i hi => (key _ hG.size.2 hlo.2 i).trans (hG.offs i hi)⟩

/-- A Hash: 25 lanes, 136 bytes, a number. -/
def hcl (l bs : List Nat) (n : Nat) : List Value := cellsOf64 l ++ (cells8 bs ++ [.int .i64 (n : Int)])
structure HashB (w : World) (b : Nat) (l bs : List Nat) (n : Nat) : Prop where
  blk : BlkV w b 35 (hcl l bs n)
  ll : Lanes l
  lb : bs.length = 136
  lt : allLt8 bs
theorem hcl_len {l bs : List Nat} {n : Nat} (hl : Lanes l) (hb : bs.length = 136) : (hcl l bs n).length = 162 := by
  unfold hcl
  rw [List.length_append, List.length_append, c64_len, c8_len, hl.len, hb]
  rfl
theorem hcl_held {l bs : List Nat} {n : Nat} (hl : Lanes l) (hb : bs.length = 136) : (hcl l bs n)[161]? = some (.int .i64 (n : Int)) := by
  unfold hcl
  rw [List.getElem?_append_right (by rw [c64_len, hl.len]; decide), c64_len, hl.len, List.getElem?_append_right (by rw [c8_len, hb]; decide), c8_len, hb]
  rfl
theorem hcl_state {l bs : List Nat} {n : Nat} (hl : Lanes l) : (hcl l bs n).take 25 = cellsOf64 l := by
  unfold hcl
  rw [← hl.len, ← c64_len l, List.take_left]
theorem hcl_rest {l bs : List Nat} {n : Nat} (hl : Lanes l) : (hcl l bs n).drop 25 = cells8 bs ++ [.int .i64 (n : Int)] := by
  unfold hcl
  rw [← hl.len, ← c64_len l, List.drop_left]
theorem hcl_block {l bs : List Nat} {n : Nat} (hl : Lanes l) (hb : bs.length = 136) : ((hcl l bs n).drop 25).take 136 = cells8 bs := by
  rw [hcl_rest hl, ← hb, ← c8_len bs, List.take_left]
theorem hcl_last {l bs : List Nat} {n : Nat} (hl : Lanes l) (hb : bs.length = 136) : (hcl l bs n).drop 161 = [.int .i64 (n : Int)] := by
  rw [show 161 = 25 + 136 by rfl, ← List.drop_drop, hcl_rest hl, ← hb, ← c8_len bs, List.drop_left]
theorem HashB.held {w : World} {b : Nat} {l bs : List Nat} {n : Nat} (h : HashB w b l bs n) : w.cell? ⟨b, 161, none⟩ = some (.int .i64 (n : Int)) := by
  rw [h.blk.cell (i := 161) (by rw [hcl_len h.ll h.lb]; decide), ← List.getElem?_eq_getElem, hcl_held h.ll h.lb]
theorem HashB.state {w : World} {b : Nat} {l bs : List Nat} {n : Nat} (h : HashB w b l bs n) : w.rangeAt b 0 (cellsOf64 l) := by
  have := h.blk.rangeAt 0 25 (by rw [hcl_len h.ll h.lb]; decide)
  rw [List.drop_zero, hcl_state h.ll] at this
  exact this
theorem HashB.block {w : World} {b : Nat} {l bs : List Nat} {n : Nat} (h : HashB w b l bs n) : w.rangeAt b 25 (cells8 bs) := by
  have := h.blk.rangeAt 25 136 (by rw [hcl_len h.ll h.lb]; decide)
  rw [hcl_block h.ll h.lb] at this
  exact this
theorem HashB.there {w : World} {b : Nat} {l bs : List Nat} {n : Nat} (h : HashB w b l bs n) (o m : Nat) (hm : o + m ≤ 162) : w.there b o m := h.blk.there o m (by rw [hcl_len h.ll h.lb]; exact hm)
theorem HashB.setHeld {w : World} {b : Nat} {l bs : List Nat} {n : Nat} (h : HashB w b l bs n) (m : Nat) : HashB (w.setCell ⟨b, 161, none⟩ (.int .i64 (m : Int))) b l bs m := by
  refine ⟨?_, h.ll, h.lb, h.lt⟩
  have h1 := h.blk.set 161 (.int .i64 (m : Int))
  have e : (hcl l bs n).set 161 (.int .i64 (m : Int)) = hcl l bs m := by
    unfold hcl
    rw [List.set_append_right _ _ (by rw [c64_len, h.ll.len]; decide), c64_len, h.ll.len, List.set_append_right _ _ (by rw [c8_len, h.lb]; decide), c8_len, h.lb]
    rfl
  rw [e] at h1
  exact h1
theorem HashB.setState {w : World} {b : Nat} {l bs : List Nat} {n : Nat} (h : HashB w b l bs n) {L : List Nat} (hL : Lanes L) : HashB (w.setCells b 0 (cellsOf64 L)) b L bs n := by
  refine ⟨?_, hL, h.lb, h.lt⟩
  have h1 := BlkV.over (cellsOf64 L) 0 w _ h.blk (by rw [c64_len, hL.len, hcl_len h.ll h.lb]; decide)
  have e : (hcl l bs n).take 0 ++ cellsOf64 L ++ (hcl l bs n).drop (0 + (cellsOf64 L).length) = hcl L bs n := by
    rw [c64_len, hL.len, List.take_zero, List.nil_append, hcl_rest h.ll]
    rfl
  rw [e] at h1
  exact h1
theorem HashB.setBlock {w : World} {b : Nat} {l bs : List Nat} {n : Nat} (h : HashB w b l bs n) {cs : List Nat} (hc : cs.length = 136) (hlt : allLt8 cs) : HashB (w.setCells b 25 (cells8 cs)) b l cs n := by
  refine ⟨?_, h.ll, hc, hlt⟩
  have h1 := BlkV.over (cells8 cs) 25 w _ h.blk (by rw [c8_len, hc, hcl_len h.ll h.lb]; decide)
  have e : (hcl l bs n).take 25 ++ cells8 cs ++ (hcl l bs n).drop (25 + (cells8 cs).length) = hcl l cs n := by
    rw [c8_len, hc, hcl_state h.ll, hcl_last h.ll h.lb, List.append_assoc]
    rfl
  rw [e] at h1
  exact h1
theorem HashB.up {w w' : World} {b : Nat} {l bs : List Nat} {n : Nat} (h : HashB w b l bs n) (hb : Below w.heap.size w w') : HashB w' b l bs n := ⟨h.blk.up hb, h.ll, h.lb, h.lt⟩
theorem HashB.below {w w' : World} {b B : Nat} {l bs : List Nat} {n : Nat} (h : HashB w b l bs n) (hb : Below B w w') (hB : b < B) : HashB w' b l bs n := ⟨h.blk.below hb hB, h.ll, h.lb, h.lt⟩
theorem HashB.drew {w : World} {b : Nat} {l bs : List Nat} {n : Nat} (h : HashB w b l bs n) : HashB w.drew b l bs n := ⟨h.blk.drew, h.ll, h.lb, h.lt⟩
theorem HashB.other {w w' : World} {b c : Nat} {l bs : List Nat} {n : Nat} (h : HashB w b l bs n) (ho : Only c w w') (hne : b ≠ c) : HashB w' b l bs n := ⟨ho.blk h.blk hne, h.ll, h.lb, h.lt⟩
theorem HashB.size {w : World} {b : Nat} {l bs : List Nat} {n : Nat} (h : HashB w b l bs n) : b < w.heap.size := h.blk.size
/-- The bytes copied in. -/
theorem splice_hcl {l bs cs : List Nat} {n k : Nat} (hl : Lanes l) (hb : bs.length = 136) (hk : k + cs.length ≤ 136) : splice (hcl l bs n) (25 + k) (cells8 cs) = hcl l (splice bs k cs) n := by
  have e1 : (hcl l bs n).take (25 + k) = cellsOf64 l ++ (cells8 bs).take k := by
    unfold hcl
    rw [List.take_append, List.take_of_length_le (by rw [c64_len, hl.len]; omega), c64_len, hl.len, show 25 + k - 25 = k by omega, List.take_append_of_le_length (by rw [c8_len, hb]; omega)]
  have e2 : (hcl l bs n).drop (25 + k + (cells8 cs).length) = (cells8 bs).drop (k + cs.length) ++ [.int .i64 (n : Int)] := by
    rw [c8_len, Nat.add_assoc, ← List.drop_drop, hcl_rest hl, List.drop_append_of_le_length (by rw [c8_len, hb]; omega)]
  unfold splice
  rw [e1, e2]
  unfold hcl cells8
  rw [List.map_append, List.map_append, List.map_take, List.map_drop]
  simp only [List.append_assoc]
theorem splice_lt8 {bs cs : List Nat} (hb : allLt8 bs) (hc : allLt8 cs) (k : Nat) : allLt8 (splice bs k cs) := by
  intro x hx
  unfold splice at hx
  rcases List.mem_append.1 hx with h | h
  · exact hb x (List.mem_of_mem_take h)
  · rcases List.mem_append.1 h with h | h
    · exact hc x h
    · exact hb x (List.mem_of_mem_drop h)

/-- copy, as a step of a region: the row's other cells and all other blocks stay. -/
theorem step_copy_only {P : Program} {ops : Array Oper} {o : Oper} {a : Act} {w : World} {K : Act → World → Prop} {Q : Exit → Act → World → Prop} {E : Prop} (hgd : o.guard = none) (d s : Operand) (dT sT : TypeId)
    (ho : o.op = .call { callee := .builtin .copy, args := #[d, s], argTypes := #[dT, sT] }) (elem : TypeId) (hu : P.underlying dT = some (.slice elem)) (hsz : (P.info? elem).map (·.size) = some 1)
    (g off dLen dCap : Nat) (ad : Addr) (sLen sCap : Nat) (hd : a.eval d = .slice (some ⟨g, off, none⟩) dLen dCap) (hs : a.eval s = .slice (some ad) sLen sCap)
    (cur : List Value) (t : TypeId) (hg : w.heap[g]? = some (.cells cur.toArray t (0, 0))) (cs : List Value) (hn : cs.length = Nat.min sLen dLen)
    (hsrc : ∀ j v, cs[j]? = some v → w.cell? (ad.add j) = some v) (hfit : off + cs.length ≤ cur.length) (h1 : ∀ v ∈ cs, v.oneCell' = true)
    (h : ∀ w', Hid (BlkV w' g t (splice cur off cs)) → Only g w w' → K (a.put o.dst (goInt cs.length)) w') :
    if Region.wanted o (yielded ops a.tmps) = true then Oper.wp P o a w K Q else E := by
  have hw : Region.wanted o (yielded ops a.tmps) = true := by simp [Region.wanted, hgd]
  rw [if_pos hw]
  have hrun := run_copy_row (P := P) w dT sT o.type elem g off dLen dCap ad sLen sCap cur.toArray t cs hu hsz hg hn hsrc (by simpa using hfit) h1
  unfold Oper.wp
  simp [execOp, ho, resolve, invoke, builtin, hd, hs, hrun, Result.andThen]
  refine h _ (show BlkV _ _ _ _ from ⟨by simpa [splice] using setRow_heap w g _ _ t _ hg⟩) ⟨rfl, rfl, rfl, by simp [World.setRow], fun k hk hb => setRow_other w g k _ (by omega)⟩

/-- append of a slice that is read onto an own row of bytes. -/
theorem append_rd {ops : Array Oper} {rest : List Oper} {o : Oper} {a : Act} {Q : Exit → Act → World → Prop} {w : World} (hgd : o.guard = none) (s x : Operand)
    (ho : o.op = .call { callee := .builtin .append, args := #[s, x], argTypes := #[22, 22] })
    (base : Nat) (v : Value) (l : List Nat) (hs : a.eval s = v) (hown : OwnB w base v l) (A : Option Addr) (n c B : Nat) (news : List Nat) (hr : Rd8 w B A n news) (hx : a.eval x = .slice A n c)
    (hlen : l.length + n ≤ 1000000) (hbase : base ≤ w.heap.size)
    (h : ∀ v' w', OwnB w' base v' (l ++ news) → Below base w w' → wpList Tryd.prog ops Q rest (a.put o.dst v') w') : wpList Tryd.prog ops Q (o :: rest) a w := by
  obtain ⟨i0, hi, hz, hs1, hb⟩ := info_parts u8_info
  have hnl := hr.len
  have hcat : ∀ {w' : World} {v' : Value}, w'.ownsRow base 5 1 v' (l.length + n) (cells8 l ++ cells8 news) → OwnB w' base v' (l ++ news) := fun {w' v'} ho' => by
    refine ⟨?_, ?_⟩
    · have e : cells8 (l ++ news) = cells8 l ++ cells8 news := by simp [cells8]
      rw [e, List.length_append, hnl]
      exact ho'
    · intro y hy
      rcases List.mem_append.1 hy with h' | h'
      · exact hown.lt y h'
      · exact hr.lt y h'
  cases A with
  | none =>
    have h0 : n = 0 := by
      rcases Nat.eq_zero_or_pos n with h' | h'
      · exact h'
      · obtain ⟨_, _, e, _⟩ := hr.cells h'; cases e
    subst h0
    obtain rfl : news = [] := List.eq_nil_of_length_eq_zero hnl
    refine wpList_plain hgd fun K hK => ?_
    have hrun : (Builtin.append_ #[22, 22] o.type #[v, .slice none 0 c]).run Tryd.prog w = .ok v w := by
      rcases hown.own.2 with ⟨rfl, hl0⟩ | ⟨g, cap, cur, rfl, _, _, hnc, _⟩
      · simp [Builtin.append_, run_underlying Tryd.underlying22, sizeOf, typeInfo, hi, Builtin.lenOf, Builtin.firstCells]
      · simp [Builtin.append_, run_underlying Tryd.underlying22, sizeOf, typeInfo, hi, Builtin.lenOf, Builtin.firstCells, hnc, storeCells]
    unfold Oper.wp
    simp [execOp, ho, resolve, invoke, builtin, hs, hx, hrun, Result.andThen]
    exact hK _ _ (h v w (by rw [List.append_nil]; exact hown) (Below.refl _ _))
  | some ad =>
    refine wpList_append_own w hgd s x 22 ho base 5 i0 (.int .u8 0) 1 1 Tryd.underlying22 hi hz hs1 hb rfl (by decide) v l.length (cells8 l) hs hown.own ad n c (cells8 news) hx
      (by simp [cells8, hnl]) ?_ (one8 news) (by unfold maxLen; omega) (by omega) hbase ?_
    · intro j u hj
      have hjl : j < news.length := by
        have := (List.getElem?_eq_some_iff.1 hj).1
        simpa [cells8] using this
      obtain ⟨ad', e, hc⟩ := src8 hr (by omega)
      obtain rfl := Option.some.inj e
      exact hc j u hj
    · intro v' w' ho' hg _
      exact h v' w' (hcat ho') ((Below.refl _ _).grown hg hbase fun k hk => (hown.own.lt k hk).1)
end Go.Proofs.YteogjnendkbjcaaDoor
