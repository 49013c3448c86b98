import Derived.Test.YtdepkfdceidikaaGreatDoorAgg
import Derived.Test.YtdepkfdceidikaaGreatDoorBytesB
import Derived.Laws.CopyOwn
import Derived.Test.YtdepkfdceidikaaGreatDoorLfC
import Derived.Deep.RegionLaw
import Derived.Deep.RegionWith
import Derived.Deep.QuietTactic
import Derived.BigQuiet
import Derived.WalkMore
import Derived.ScopeJumps
import Derived.Test.YtdepkfdceidikaaGreatDoorLMul
import Derived.Laws.AppendOwn
import Derived.OwnWalk
/-
  Worlds that differ in one old block alone; rows copied. Helpers for the walks; nothing of the program but its types.
-/
namespace Go.Proofs.YtdepkfdceidikaaGreatDoor
open Go.RowKit
set_option linter.unusedVariables false

/-- Of the blocks that w had, w' has all but b as they were. -/
structure Only (b : Nat) (w w' : World) : Prop where
  os : w'.os = w.os
  tape : w'.tape = w.tape
  output : w'.output = w.output
  size : w.heap.size ≤ w'.heap.size
  block : ∀ k, k < w.heap.size → k ≠ b → w'.heap[k]? = w.heap[k]?
theorem Only.refl (b : Nat) (w : World) : Only b w w := ⟨rfl, rfl, rfl, Nat.le_refl _, fun _ _ _ => rfl⟩
theorem Only.trans {b : Nat} {x y z : World} (h : Only b x y) (k : Only b y z) : Only b x z :=
  ⟨k.os.trans h.os, k.tape.trans h.tape, k.output.trans h.output, Nat.le_trans h.size k.size, fun i hi hb => (k.block i (Nat.lt_of_lt_of_le hi h.size) hb).trans (h.block i hi hb)⟩
theorem Only.of {b : Nat} {w w' : World} (h : Below w.heap.size w w') : Only b w w' := ⟨h.os, h.tape, h.output, h.size, fun k hk _ => h.block k hk⟩
theorem Only.drew {b : Nat} {w w' : World} (h : Only b w w') : Only b w w'.drew := ⟨h.os, h.tape, h.output, h.size, h.block⟩
theorem Only.set {b : Nat} {w w' : World} (h : Only b w w') (i : Nat) (v : Value) : Only b w (w'.setCell ⟨b, i, none⟩ v) :=
  h.trans ⟨rfl, rfl, rfl, by simp [World.setCell], fun k _ hb => Below.heap_setCell _ _ _ _ hb⟩
theorem Only.sets {b : Nat} {w : World} : ∀ (vs : List Value) (o : Nat) (w' : World), Only b w w' → Only b w (w'.setCells b o vs)
  | [], _, _, h => h
  | v :: r, o, w', h => Only.sets r (o + 1) _ (h.set o v)
theorem Only.below {b B : Nat} {w w' : World} (h : Only b w w') (hB : B ≤ b) (hs : B ≤ w.heap.size) : Below B w w' :=
  ⟨h.os, h.tape, h.output, h.size, fun k hk => h.block k (by omega) (by omega)⟩
theorem Only.own {b : Nat} {w w' : World} {v : Value} {l : List Nat} (h : Only b w w') (ho : OwnB w (b + 1) v l) : OwnB w' (b + 1) v l := by
  refine ⟨⟨ho.own.1, ?_⟩, ho.lt⟩
  rcases ho.own.2 with h' | ⟨g, cap, cur, e, hb, hg, r⟩
  · exact Or.inl h'
  · have hgs := (Array.getElem?_eq_some_iff.1 hg).1
    exact Or.inr ⟨g, cap, cur, e, hb, (h.block g hgs (by omega)).trans hg, r⟩
theorem Only.blk {b c : Nat} {w w' : World} {t : TypeId} {vs : List Value} (h : Only b w w') (hv : BlkV w c t vs) (hne : c ≠ b) : BlkV w' c t vs := ⟨(h.block c hv.size hne).trans hv.heap⟩
/-- copy, as a step of a region: the row's other cells and all other blocks stay. -/
theorem step_copy_only {P : Program} {ops : Array Oper} {o : Oper} {a : Act} {w : World} {K : Act → World → Prop} {Q : Exit → Act → World → Prop} {E : Prop} (hgd : o.guard = none) (d s : Operand) (dT sT : TypeId)
    (ho : o.op = .call { callee := .builtin .copy, args := #[d, s], argTypes := #[dT, sT] }) (elem : TypeId) (hu : P.underlying dT = some (.slice elem)) (hsz : (P.info? elem).map (·.size) = some 1)
    (g off dLen dCap : Nat) (ad : Addr) (sLen sCap : Nat) (hd : a.eval d = .slice (some ⟨g, off, none⟩) dLen dCap) (hs : a.eval s = .slice (some ad) sLen sCap)
    (cur : List Value) (t : TypeId) (hg : w.heap[g]? = some (.cells cur.toArray t (0, 0))) (cs : List Value) (hn : cs.length = Nat.min sLen dLen)
    (hsrc : ∀ j v, cs[j]? = some v → w.cell? (ad.add j) = some v) (hfit : off + cs.length ≤ cur.length) (h1 : ∀ v ∈ cs, v.oneCell' = true)
    (h : ∀ w', Hid (BlkV w' g t (splice cur off cs)) → Only g w w' → K (a.put o.dst (goInt cs.length)) w') :
    if Region.wanted o (yielded ops a.tmps) = true then Oper.wp P o a w K Q else E := by
  have hw : Region.wanted o (yielded ops a.tmps) = true := by simp [Region.wanted, hgd]
  rw [if_pos hw]
  have hrun := run_copy_row (P := P) w dT sT o.type elem g off dLen dCap ad sLen sCap cur.toArray t cs hu hsz hg hn hsrc (by simpa using hfit) h1
  unfold Oper.wp
  simp [execOp, ho, resolve, invoke, builtin, hd, hs, hrun, Result.andThen]
  refine h _ (show BlkV _ _ _ _ from ⟨by simpa [splice] using setRow_heap w g _ _ t _ hg⟩) ⟨rfl, rfl, rfl, by simp [World.setRow], fun k hk hb => setRow_other w g k _ (by omega)⟩

end Go.Proofs.YtdepkfdceidikaaGreatDoor
/-
  Rows of bits as cells, of any length. Helpers; nothing of the program.
-/
namespace Go.Proofs.YtdepkfdceidikaaGreatDoor
open Go.RowKit
set_option linter.unusedVariables false

def bcell (n : Nat) (f : Nat → Bool) : List Value := (List.range n).map fun k => .bool (f k)
theorem bcell_len (n : Nat) (f : Nat → Bool) : (bcell n f).length = n := by unfold bcell; rw [List.length_map, List.length_range]
theorem bcell_at {n : Nat} (f : Nat → Bool) {k : Nat} (h : k < n) : (bcell n f)[k]? = some (.bool (f k)) := by
  unfold bcell
  rw [List.getElem?_map, List.getElem?_range h]
  rfl
theorem bcell_eq {n : Nat} {f g : Nat → Bool} (h : ∀ k, k < n → f k = g k) : bcell n f = bcell n g := by
  apply List.ext_getElem?
  intro k
  rcases Nat.lt_or_ge k n with hk | hk
  · rw [bcell_at f hk, bcell_at g hk, h k hk]
  · rw [List.getElem?_eq_none (by rw [bcell_len]; exact hk), List.getElem?_eq_none (by rw [bcell_len]; exact hk)]
theorem bcell_set {n : Nat} (f : Nat → Bool) {k : Nat} (h : k < n) (v : Bool) : (bcell n f).set k (.bool v) = bcell n fun j => if j = k then v else f j := by
  apply List.ext_getElem?
  intro j
  rcases Nat.lt_or_ge j n with hj | hj
  · rw [bcell_at _ hj]
    by_cases e : k = j
    · rw [← e, List.getElem?_set_self (by rw [bcell_len]; exact h), if_pos rfl]
    · rw [List.getElem?_set_ne e, bcell_at f hj, if_neg (by omega)]
  · rw [List.getElem?_eq_none (by rw [List.length_set, bcell_len]; exact hj), List.getElem?_eq_none (by rw [bcell_len]; exact hj)]
theorem bcell_one (n : Nat) (f : Nat → Bool) : ∀ v ∈ bcell n f, v.oneCell' = true := by
  intro v hv
  unfold bcell at hv
  obtain ⟨k, _, rfl⟩ := List.mem_map.1 hv
  rfl
theorem bcell_inj {n : Nat} {f g : Nat → Bool} (h : bcell n f = bcell n g) : ∀ k, k < n → f k = g k := fun k hk => by
  have h1 := bcell_at f hk
  rw [h, bcell_at g hk] at h1
  exact (Value.bool.inj (Option.some.inj h1)).symm
/-- A block of bits. -/
abbrev BF (w : World) (b : Nat) (t : TypeId) (n : Nat) (f : Nat → Bool) : Prop := BlkV w b t (bcell n f)
def oBF (t : TypeId) (n : Nat) (f : Nat → Bool) : Obj := .cells (bcell n f).toArray t
theorem oBF_new (w : World) (t : TypeId) (n : Nat) (f : Nat → Bool) : BF (w.alloc (oBF t n f)) w.heap.size t n f := BlkV.new w _ _
theorem BF.cellf {w : World} {b : Nat} {t : TypeId} {n : Nat} {f : Nat → Bool} (h : BF w b t n f) {k : Nat} (hk : k < n) : w.cell? ⟨b, k, none⟩ = some (.bool (f k)) := by
  have hi : k < (bcell n f).length := by rw [bcell_len]; exact hk
  rw [BlkV.cell h hi, ← bcell_at f hk, List.getElem?_eq_getElem hi]
theorem BF.setf {w : World} {b : Nat} {t : TypeId} {n : Nat} {f : Nat → Bool} (h : BF w b t n f) {k : Nat} (hk : k < n) (v : Bool) : BF (w.setCell ⟨b, k, none⟩ (.bool v)) b t n fun j => if j = k then v else f j := by
  have := BlkV.set h k (.bool v)
  rw [bcell_set f hk v] at this
  exact this
theorem BF.eq {w : World} {b : Nat} {t : TypeId} {n : Nat} {f g : Nat → Bool} (h : BF w b t n f) (e : ∀ k, k < n → f k = g k) : BF w b t n g := by
  unfold BF at *
  rw [← bcell_eq e]
  exact h
theorem storeF {P : Program} {w : World} {b : Nat} {t : TypeId} {n : Nat} {f : Nat → Bool} (g : Nat → Bool) (h : BF w b t n f) : (storeCells ⟨b, 0, none⟩ (bcell n g)).run P w = .ok () (w.setCells b 0 (bcell n g)) :=
  storeV (bcell n g) 0 h (by rw [bcell_len, bcell_len]; omega) (bcell_one n g)
theorem BF.over {w : World} {b : Nat} {t : TypeId} {n : Nat} {f : Nat → Bool} (g : Nat → Bool) (h : BF w b t n f) : BF (w.setCells b 0 (bcell n g)) b t n g := BlkV.whole (bcell n g) h (by rw [bcell_len, bcell_len])
end Go.Proofs.YtdepkfdceidikaaGreatDoor
/-
  A register of 80 bits as 80 bytes that are 0 or 1 (grain's), and as 80 bools (avouchref08's): in memory and as a value. Helpers for the walks of stage 8.
-/
namespace Go.Proofs.YtdepkfdceidikaaGreatDoor
open Go.RowKit
set_option linter.unusedVariables false

/-- The bits of s, as numbers. -/
def g8 (s : Nat) : List Nat := (List.range 80).map fun i => (s.testBit i).toNat
theorem g8_len (s : Nat) : (g8 s).length = 80 := by unfold g8; rw [List.length_map, List.length_range]
theorem g8_getD (s : Nat) {i : Nat} (h : i < 80) : (g8 s).getD i 0 = (s.testBit i).toNat := by
  unfold g8
  rw [List.getD_eq_getElem?_getD, List.getElem?_map, List.getElem?_range h]
  rfl
theorem g8_lt (s : Nat) : allLt8 (g8 s) := by
  intro x hx
  unfold g8 at hx
  obtain ⟨i, _, rfl⟩ := List.mem_map.1 hx
  have := bool_le (s.testBit i)
  omega
theorem c8_leng (s : Nat) : (cells8 (g8 s)).length = 80 := by unfold cells8; rw [List.length_map, g8_len]
/-- Block b is just grain's register s (of any type). -/
abbrev G8 (w : World) (b : Nat) (t : TypeId) (s : Nat) : Prop := BlkV w b t (cells8 (g8 s))
theorem cells8_at {l : List Nat} {i : Nat} (h : i < l.length) : (cells8 l)[i]? = some (.int .u8 (at64 l i)) := by
  simp [cells8, at64, List.getElem?_eq_getElem h, List.getD_eq_getElem?_getD]
theorem BlkV.cell8 {w : World} {b : Nat} {t : TypeId} {l : List Nat} (h : BlkV w b t (cells8 l)) {i : Nat} (hi : i < l.length) : w.cell? ⟨b, i, none⟩ = some (.int .u8 (at64 l i)) := by
  have hl : i < (cells8 l).length := by unfold cells8; rw [List.length_map]; exact hi
  rw [BlkV.cell h hl, ← List.getElem?_eq_getElem hl, cells8_at hi]
theorem G8.bit {w : World} {b s : Nat} {t : TypeId} (h : G8 w b t s) {i : Nat} (hi : i < 80) : w.cell? ⟨b, i, none⟩ = some (.int .u8 ((s.testBit i).toNat : Int)) := by
  rw [BlkV.cell8 h (by rw [g8_len]; exact hi)]
  unfold at64
  rw [g8_getD s hi]
theorem cells8_set (l : List Nat) (i x : Nat) : (cells8 l).set i (.int .u8 (x : Int)) = cells8 (l.set i x) := by unfold cells8; rw [List.map_set]
/-- A turn. -/
theorem g8_turn {s : Nat} (h : s < g80) : (splice (g8 s) 0 ((g8 s).drop 1)).set 79 (gtap s).toNat = g8 (gT s) := by
  have hl : (splice (g8 s) 0 ((g8 s).drop 1)).length = 80 := by
    unfold splice
    simp only [List.length_append, List.length_take, List.length_drop, g8_len]
    omega
  apply List.ext_getElem?
  intro i
  rcases Nat.lt_or_ge i 80 with hi | hi
  · have e2 : (g8 (gT s))[i]? = some ((gT s).testBit i).toNat := by
      unfold g8
      rw [List.getElem?_map, List.getElem?_range hi]
      rfl
    rw [e2, gT_bit h]
    by_cases c : i = 79
    · subst c
      rw [List.getElem?_set_self (by rw [hl]; decide), if_neg (by decide)]
      cases gtap s <;> rfl
    · rw [List.getElem?_set_ne (by omega), if_pos (by omega)]
      unfold splice
      rw [List.take_zero, List.nil_append, List.getElem?_append_left (by rw [List.length_drop, g8_len]; omega), List.getElem?_drop, Nat.add_comm 1 i]
      unfold g8
      rw [List.getElem?_map, List.getElem?_range (show i + 1 < 80 by omega)]
      rfl
  · rw [List.getElem?_eq_none (by rw [List.length_set, hl]; exact hi), List.getElem?_eq_none (by rw [g8_len]; exact hi)]
theorem cells8_splice (s : Nat) : splice (cells8 (g8 s)) 0 (cells8 ((g8 s).drop 1)) = cells8 (splice (g8 s) 0 ((g8 s).drop 1)) := by
  unfold splice cells8
  rw [List.length_map]
  simp only [List.map_append, List.map_drop, List.take_zero, List.nil_append]
/-- The taps, as the walk writes them. -/
theorem bits_u8 (a b : Bool) : bits .xor .u8 ((a.toNat : Nat) : Int) ((b.toNat : Nat) : Int) = (((a ^^ b).toNat : Nat) : Int) := by cases a <;> cases b <;> decide
theorem tap_u8 (s : Nat) : bits .xor .u8 (bits .xor .u8 (bits .xor .u8 (bits .xor .u8 (bits .xor .u8 ((s.testBit 62).toNat : Int) ((s.testBit 51).toNat : Int)) ((s.testBit 38).toNat : Int)) ((s.testBit 23).toNat : Int)) ((s.testBit 13).toNat : Int)) ((s.testBit 0).toNat : Int) = ((gtap s).toNat : Int) := by
  rw [bits_u8, bits_u8, bits_u8, bits_u8, bits_u8]
  unfold gtap
  cases s.testBit 62 <;> cases s.testBit 51 <;> cases s.testBit 38 <;> cases s.testBit 23 <;> cases s.testBit 13 <;> cases s.testBit 0 <;> rfl

/-- The register of the document's answer: a value, a block. -/
def rg (s : Nat) : Value := .agg (bcell 80 s.testBit).toArray
abbrev RG (w : World) (b s : Nat) : Prop := BF w b 77 80 s.testBit
def oR (s : Nat) : Obj := .cells (bcell 80 s.testBit).toArray 77
theorem rg_len (s : Nat) : (bcell 80 s.testBit).length = 80 := bcell_len 80 _
theorem oR_new (w : World) (s : Nat) : RG (w.alloc (oR s)) w.heap.size s := BlkV.new w _ _
theorem rg_zero_f : bcell 80 (Nat.testBit 0) = bcell 80 fun _ => false := bcell_eq fun k _ => Nat.zero_testBit k
theorem zeroR (v : World) : (zeroValue 77).run Tryz.prog v = .ok (.agg (bcell 80 (Nat.testBit 0)).toArray) v := by
  rw [rg_zero_f]
  kernel_rfl
theorem sizeR : (Tryz.prog.info? 77).map (·.size) = some 80 := by kernel_rfl
theorem sizeR_s (s : Nat) : (Tryz.prog.info? 77).map (·.size) = some (bcell 80 s.testBit).length := sizeR.trans (congrArg some (rg_len s).symm)
theorem RG.result {fn : Func} {p q : Tmp} {w : World} {tmps : Array Value} {b s : Nat} {u : Value} (hr : Hid (RG w b s)) (h : fn.results = #[.cell p 77, .tmp q]) (hp : tmps.getD p undef = .pointer (some ⟨b, 0, none⟩)) (hq : tmps.getD q undef = u) :
    (results fn tmps).run Tryz.prog w = .ok (.tuple #[rg s, u]) w :=
  results_cell_tmp0 h ⟨b, 0, none⟩ _ u hp (run_loadVar_mid _ b 0 77 (bcell 80 s.testBit) _ hr.out.range Tryz.underlying77 rfl (sizeR_s s)) hq
theorem oR_store {P : Program} {w : World} {b s : Nat} (x : Nat) (h : RG w b s) : (storeCells ⟨b, 0, none⟩ (bcell 80 x.testBit)).run P w = .ok () (w.setCells b 0 (bcell 80 x.testBit)) := storeF x.testBit h
theorem RG.put {w : World} {b s : Nat} (x : Nat) (h : RG w b s) : RG (w.setCells b 0 (bcell 80 x.testBit)) b x := BF.over x.testBit h
end Go.Proofs.YtdepkfdceidikaaGreatDoor
/-
  grain.register.turn: what the call does.
-/
namespace Go.Proofs.YtdepkfdceidikaaGreatDoor
open Go.RowKit
set_option linter.unusedVariables false

set_option maxRecDepth 20000 in
set_option maxHeartbeats 2000000 in
theorem gturn_c (s b : Nat) (t : TypeId) (w : World) (hs : s < g80) (hB : G8 w b t s) :
    Calls Tryz.prog 94 #[.pointer (some ⟨b, 0, none⟩)] w fun e w' => e = .returned (.int .u8 ((gtap s).toNat : Int)) ∧ G8 w' b t (gT s) ∧ Only b w w' := by
  have c62 := hB.bit (i := 62) (by decide)
  have c51 := hB.bit (i := 51) (by decide)
  have c38 := hB.bit (i := 38) (by decide)
  have c23 := hB.bit (i := 23) (by decide)
  have c13 := hB.bit (i := 13) (by decide)
  have c0 := hB.bit (i := 0) (by decide)
  have HT := hid (tap_u8 s)
  have HS := hid hs
  have HB := hid hB
  clear hs hB
  generalize ((s.testBit 62).toNat : Int) = x62 at *
  generalize ((s.testBit 51).toNat : Int) = x51 at *
  generalize ((s.testBit 38).toNat : Int) = x38 at *
  generalize ((s.testBit 23).toNat : Int) = x23 at *
  generalize ((s.testBit 13).toNat : Int) = x13 at *
  generalize ((s.testBit 0).toNat : Int) = x0 at *
  obtain ⟨y, hy⟩ : ∃ y : Nat, y = (gtap s).toNat := ⟨_, rfl⟩
  rw [← hy] at HT ⊢
  have HY := hid hy
  clear hy
  go_enter Tryz.func94, Tryz.ntmps94
  go_wp2
  go_quiet (fail)
  rw [HT.out]
  have HB2 := hid (HB.out.drewN nq)
  have HSR : Hid (∀ j v, (cells8 ((g8 s).drop 1))[j]? = some v → (w.drewN nq).drew.cell? ((⟨b, 1, none⟩ : Addr).add j) = some v) := by
    intro j v hj
    have hj2 : j < 79 := by
      have := (List.getElem?_eq_some_iff.1 hj).1
      unfold cells8 at this
      rw [List.length_map, List.length_drop, g8_len] at this
      exact this
    rw [Addr.add_mid, ← hj]
    show w.cell? ⟨b, 1 + j, none⟩ = _
    rw [HB.out.bit (by omega)]
    unfold cells8 g8
    rw [List.getElem?_map, List.getElem?_drop, List.getElem?_map, List.getElem?_range (by omega)]
    rfl
  have HO : Hid (Only b w (w.drewN nq)) := ⟨rfl, rfl, rfl, Nat.le_refl _, fun _ _ _ => rfl⟩
  clear c62 c51 c38 c23 c13 c0 HT
  go_wp2
  go_region_law (
    refine step_copy_only rfl (.tmp 35) (.tmp 38) 22 22 rfl 5 Tryz.underlying22 (by kernel_rfl) b 0 80 80 ⟨b, 1, none⟩ 79 79 rfl rfl
          _ t HB2.out.drew.heap (cells8 ((g8 s).drop 1)) (by unfold cells8; rw [List.length_map, List.length_drop, g8_len]; rfl) HSR.out (by rw [c8_leng]; unfold cells8; rw [List.length_map, List.length_drop, g8_len]; decide) (by intro v hv; unfold cells8 at hv; obtain ⟨x, _, rfl⟩ := List.mem_map.1 hv; rfl) ?_; intro w2 hg2 ho2)
  have h2 := hg2.out
  rw [cells8_splice] at h2
  have f79 := h2.frozen 79
  have hl2 : (splice (g8 s) 0 ((g8 s).drop 1)).length = 80 := by
    unfold splice
    simp only [List.length_append, List.length_take, List.length_drop, g8_len]
    omega
  have c79 := BlkV.cell8 h2 (i := 79) (by rw [hl2]; decide)
  have HE : Hid (G8 (w2.setCell ⟨b, 79, none⟩ (.int .u8 (y : Int))) b t (gT s)) := by
    have := h2.set 79 (.int .u8 (y : Int))
    rw [cells8_set, HY.out, g8_turn HS.out, ← HY.out] at this
    exact this
  have HO2 : Hid (Only b w (w2.setCell ⟨b, 79, none⟩ (.int .u8 (y : Int)))) := ((HO.out.drew).trans ho2).set _ _
  clear h2 hl2 hg2 ho2 HO HSR HB2 HB
  go_wp2
  go_ret
  exact ⟨rfl, HE.out, HO2.out⟩
end Go.Proofs.YtdepkfdceidikaaGreatDoor
/-
  grain.register.next: what the call does.
-/
namespace Go.Proofs.YtdepkfdceidikaaGreatDoor
open Go.RowKit
set_option linter.unusedVariables false

theorem gnx_zero {s : Nat} (h : GS s) (h1 : gtap s = true) : gnx s = 0 := gnx_eq h h1 fun j hj => by omega
theorem gnx_succ {s : Nat} (h : GS s) (h0 : gtap s = false) : gnx s = gnx (gIt 2 s) + 1 := by
  obtain ⟨g1, g2⟩ := gnx_spec (h.it 2)
  have key : ∀ j, gIt (2 * (j + 1)) s = gIt (2 * j) (gIt 2 s) := fun j => by
    rw [show 2 * (j + 1) = 2 + 2 * j by omega, gIt_add]
  refine gnx_eq h ?_ fun j hj => ?_
  · rw [key]
    exact g1
  · rcases Nat.eq_zero_or_pos j with e | e
    · subst e
      exact h0
    · obtain ⟨i, rfl⟩ : ∃ i, j = i + 1 := ⟨j - 1, by omega⟩
      rw [key]
      exact g2 i (by omega)
theorem ghd_succ {s : Nat} (h : GS s) (h0 : gtap s = false) : ghd (gIt 2 s) = ghd s := by
  unfold ghd
  rw [gnx_succ h h0, show 2 * (gnx (gIt 2 s) + 1) = 2 + 2 * gnx (gIt 2 s) by omega, gIt_add]
theorem ghd_zero {s : Nat} (h : GS s) (h1 : gtap s = true) : ghd s = s := by
  unfold ghd
  rw [gnx_zero h h1]
  rfl
theorem g80_ext {x y : Nat} (hx : x < g80) (hy : y < g80) (h : ∀ i, i < 80 → x.testBit i = y.testBit i) : x = y := by
  apply Nat.eq_of_testBit_eq
  intro i
  rcases Nat.lt_or_ge i 80 with c | c
  · exact h i c
  · rw [bit_big hx c, bit_big hy c]
theorem BlkV.same {w : World} {b : Nat} {t : TypeId} {us vs : List Value} (h : BlkV w b t us) (k : BlkV w b t vs) : us = vs := by
  have e := h.heap.symm.trans k.heap
  injection e with e
  injection e with e
  exact Array.toList_inj.2 e |> fun z => by simpa using z
theorem G8.inj {w : World} {b : Nat} {t : TypeId} {x y : Nat} (h : G8 w b t x) (k : G8 w b t y) (hx : x < g80) (hy : y < g80) : x = y :=
  g80_ext hx hy fun i hi => by
    have h1 := h.bit hi
    rw [k.bit hi] at h1
    injection h1 with h1
    injection h1 with _ h1
    revert h1
    cases x.testBit i <;> cases y.testBit i <;> decide
/-- The register that lies in a block. -/
noncomputable def regAt (w : World) (b : Nat) (t : TypeId) : Nat := open Classical in if h : ∃ s, s < g80 ∧ G8 w b t s then Classical.choose h else 0
theorem regAt_eq {w : World} {b : Nat} {t : TypeId} {s : Nat} (h : G8 w b t s) (hs : s < g80) : regAt w b t = s := by
  have hx : ∃ s, s < g80 ∧ G8 w b t s := ⟨s, hs, h⟩
  have hc := Classical.choose_spec hx
  unfold regAt
  rw [dif_pos hx]
  exact hc.2.inj h hc.1 hs

/-- The register on the way: its next bit is the one that is looked for. -/
structure NxR (w : World) (b : Nat) (t : TypeId) (s s' : Nat) (wr : World) : Prop where
  gs : GS s'
  g : G8 wr b t s'
  o : Only b w wr
  hb : gbit s' = gbit s
  hn : gnext s' = gnext s
theorem NxR.pass {w : World} {b : Nat} {t : TypeId} {s s' : Nat} {wr w2 : World} (h : NxR w b t s s' wr) (h0 : gtap s' = false) (g2 : G8 w2 b t (gT (gT s'))) (o2 : Only b wr w2) : NxR w b t s (gT (gT s')) w2 ∧ gnx (regAt w2 b t) < gnx (regAt wr b t) := by
  have e : gT (gT s') = gIt 2 s' := rfl
  have g3 := h.gs.it 2
  rw [e] at g2 ⊢
  refine ⟨⟨g3, g2, h.o.trans o2, ?_, ?_⟩, ?_⟩
  · rw [← h.hb]
    unfold gbit
    rw [ghd_succ h.gs h0]
  · rw [← h.hn]
    unfold gnext
    rw [ghd_succ h.gs h0]
  · rw [regAt_eq g2 g3.lt, regAt_eq h.g h.gs.lt, gnx_succ h.gs h0]
    exact Nat.lt_succ_self _
theorem NxR.end_ {w : World} {b : Nat} {t : TypeId} {s s' : Nat} {wr w2 : World} (h : NxR w b t s s' wr) (h0 : gtap s' = true) (g2 : G8 w2 b t (gT (gT s'))) (o2 : Only b wr w2) : gtap (gT s') = gbit s ∧ G8 w2 b t (gnext s) ∧ Only b w w2 := by
  refine ⟨?_, ?_, h.o.trans o2⟩
  · rw [← h.hb]
    unfold gbit
    rw [ghd_zero h.gs h0]
  · rw [← h.hn]
    unfold gnext
    rw [ghd_zero h.gs h0]
    exact g2
set_option maxRecDepth 20000 in
set_option maxHeartbeats 2000000 in
theorem gnext_c (s b : Nat) (t : TypeId) (w : World) (hs : GS s) (hB : G8 w b t s) :
    Calls Tryz.prog 132 #[.pointer (some ⟨b, 0, none⟩)] w fun e w' => e = .returned (.int .u8 ((gbit s).toNat : Int)) ∧ G8 w' b t (gnext s) ∧ Only b w w' := by
  have R0 : Hid (NxR w b t s s w) := ⟨hs, hB, Only.refl _ _, rfl, rfl⟩
  clear hs hB
  go_enter Tryz.func132, Tryz.ntmps132
  go_wp2
  refine wp_scope_jumps 0 (fun a' w' => (∃ s', NxR w b t s s' w') ∧ ∃ u3 u4 u5 u6 u7 u8 u9 u10 : Value, a' = { tmps := #[.pointer (some ⟨b, 0, none⟩), undef, .int .u8 0, u3, u4, u5, u6, u7, u8, u9, u10, undef], defers := [] }) (fun _ w' => gnx (regAt w' b t)) rfl ?_ ?_
  · go_wp2
    go_step3
    go_wp2_with fail
    refine (gturn_c s b t w R0.out.gs.lt R0.out.g).mono ?_
    rintro e w1 ⟨rfl, g1, o1⟩
    go_wp2_with fail
    refine (gturn_c (gT s) b t w1 (gT_lt R0.out.gs.lt) g1).mono ?_
    rintro e w2 ⟨rfl, g2, o2⟩
    have O2 := o1.trans o2
    cases ht : gtap s
    · have HP := hid (R0.out.pass ht g2 O2)
      clear o1 o2 g1 g2 O2 ht
      go_wp2
      go_step3
      exact ⟨rfl, ⟨_, HP.out.1⟩, _, _, _, _, _, _, _, _, rfl⟩
    · have HP := hid (R0.out.end_ ht g2 O2)
      clear o1 o2 g1 g2 O2 ht
      go_wp2
      simp only [Exit.jump]
      go_ret
      rw [← HP.out.1]
      exact ⟨rfl, HP.out.2⟩
  · clear R0
    rintro a w' ⟨⟨s', hR⟩, u3, u4, u5, u6, u7, u8, u9, u10, rfl⟩
    have R0 := hid hR
    clear hR
    go_wp2_with fail
    refine (gturn_c s' b t w' R0.out.gs.lt R0.out.g).mono ?_
    rintro e w1 ⟨rfl, g1, o1⟩
    go_wp2_with fail
    refine (gturn_c (gT s') b t w1 (gT_lt R0.out.gs.lt) g1).mono ?_
    rintro e w2 ⟨rfl, g2, o2⟩
    have O2 := o1.trans o2
    cases ht : gtap s'
    · have HP := hid (R0.out.pass ht g2 O2)
      clear o1 o2 g1 g2 O2 ht
      go_wp2
      go_step3
      exact ⟨rfl, ⟨⟨_, HP.out.1⟩, _, _, _, _, _, _, _, _, rfl⟩, HP.out.2⟩
    · have HP := hid (R0.out.end_ ht g2 O2)
      clear o1 o2 g1 g2 O2 ht
      go_wp2
      simp only [Exit.jump]
      go_ret
      rw [← HP.out.1]
      exact ⟨rfl, HP.out.2⟩
end Go.Proofs.YtdepkfdceidikaaGreatDoor
/-
  A row of bools that the call made and appends to; avouchref08.lay, in: what each call does.
-/
namespace Go.Proofs.YtdepkfdceidikaaGreatDoor
open Go.RowKit
set_option linter.unusedVariables false

def cellsL (l : List Bool) : List Value := l.map Value.bool
/-- The slice value v owns the bools l, among the blocks from base on. -/
structure OwnL (w : World) (base : Nat) (v : Value) (l : List Bool) : Prop where
  own : w.ownsRow base 4 1 v l.length (cellsL l)
theorem bool_info : (Tryz.prog.info? 4).map (fun i => (i.zero, i.size, i.bytes)) = some (some (.bool false), 1, 1) := by kernel_rfl
theorem OwnL.nil (w : World) (base : Nat) : OwnL w base (.slice none 0 0) [] := ⟨World.ownsRow_nil w base _ 1⟩
theorem OwnL.alloc {w : World} {base : Nat} {v : Value} {l : List Bool} (h : OwnL w base v l) (o : Obj) : OwnL (w.alloc o) base v l := ⟨h.own.alloc o⟩
theorem append_bool {ops : Array Oper} {rest : List Oper} {o : Oper} {a : Act} {Q : Exit → Act → World → Prop} {w : World} (hgd : o.guard = none) (s x : Operand)
    (ho : o.op = .call { callee := .builtin .append, args := #[s, x], argTypes := #[100, 100] })
    (base : Nat) (v : Value) (l : List Bool) (hs : a.eval s = v) (hown : OwnL w base v l) (X n : Bool) (hX : X = n) (hx : a.eval x = .slice (some ⟨w.heap.size, 0, none⟩) 1 1)
    (hlen : l.length ≤ 100000) (hbase : base ≤ w.heap.size)
    (h : ∀ v' w', OwnL w' base v' (l ++ [n]) → Below base w w' → wpList Tryz.prog ops Q rest (a.put o.dst v') w') : wpList Tryz.prog ops Q (o :: rest) a (w.alloc (.cells #[.bool X] 4)) := by
  subst hX
  obtain ⟨i0, hi, hz, hs1, hb⟩ := info_parts bool_info
  refine wpList_append_own (w.alloc (.cells #[.bool X] 4)) hgd s x 100 ho base 4 i0 (.bool false) 1 1 Tryz.underlying100 hi hz hs1 hb rfl (by decide) v l.length (cellsL l) hs (hown.alloc _).own ⟨w.heap.size, 0, none⟩ 1 1 (cellsL [X]) hx
    rfl ?_ ?_ (by unfold maxLen; omega) (by omega) (by simp; omega) ?_
  · intro j u hj
    have hj0 : j = 0 := by
      have := (List.getElem?_eq_some_iff.1 hj).1
      simp [cellsL] at this
      exact this
    subst hj0
    simp [cellsL] at hj
    subst hj
    rw [Addr.add_mid]
    simp
  · intro u hu
    simp [cellsL] at hu
    subst hu
    rfl
  · intro v' w' ho' hg _
    refine h v' w' ⟨?_⟩ (((Below.refl _ _).alloc hbase _).trans ((Below.refl _ _).grown hg (by simp; omega) fun k hk => (hown.own.lt k hk).1))
    have e : cellsL (l ++ [X]) = cellsL l ++ cellsL [X] := by simp [cellsL]
    rw [e, List.length_append]
    exact ho'
theorem OwnL.cells {w : World} {base : Nat} {v : Value} {l : List Bool} (h : OwnL w base v l) (h0 : 0 < l.length) : ∃ b c, v = .slice (some ⟨b, 0, none⟩) l.length c ∧ base ≤ b ∧ l.length ≤ c ∧ b < w.heap.size ∧ ∀ i, i < l.length → w.cell? ⟨b, i, none⟩ = some (.bool (l.getD i false)) := by
  rcases h.own.2 with ⟨rfl, hn⟩ | ⟨g, cap, cur, rfl, hb, hg, hc, _, _, ht⟩
  · omega
  · refine ⟨g, cap, rfl, hb, hc, (Array.getElem?_eq_some_iff.1 hg).1, fun i hi => ?_⟩
    have := h.own.cells (g := g) rfl i (.bool (l.getD i false)) (by simp [cellsL, List.getElem?_eq_getElem hi, List.getD_eq_getElem?_getD])
    rw [Addr.add_mid, Nat.zero_add] at this
    exact this

/-- The first m of a number's k bits, the highest one first. -/
def layP (n k m : Nat) : List Bool := (List.range m).map fun j => n.testBit (k - 1 - j)
theorem layP_len (n k m : Nat) : (layP n k m).length = m := by unfold layP; rw [List.length_map, List.length_range]
theorem layP_succ (n k m : Nat) : layP n k (m + 1) = layP n k m ++ [n.testBit (k - 1 - m)] := by
  unfold layP
  rw [List.range_succ, List.map_append]
  rfl
structure LyR (w : World) (base : Nat) (l : List Bool) (n k m : Nat) (v : Value) (wr : World) : Prop where
  o : OwnL wr base v (l ++ layP n k m)
  b : Below base w wr
set_option maxRecDepth 20000 in
set_option maxHeartbeats 2000000 in
theorem lay_c (v : Value) (l : List Bool) (base n k : Nat) (w : World) (hv : OwnL w base v l) (hbase : base ≤ w.heap.size) (hl : l.length ≤ 1000) (hn : n < 4294967296) (hk : k ≤ 64) :
    Calls Tryz.prog 52 #[v, .int .i64 (n : Int), .int .i64 (k : Int)] w fun e w' => ∃ v', e = .returned v' ∧ OwnL w' base v' (l ++ layP n k k) ∧ Below base w w' := by
  have R0 : Hid (LyR w base l n k 0 v w) := ⟨by show OwnL w base v (l ++ []); rw [List.append_nil]; exact hv, Below.refl _ _⟩
  have HN := hid hn
  clear hv hn
  go_enter Tryz.func52, Tryz.ntmps52
  go_wp2
  go_loopw [0, 7] (fun v i wr => ∃ (m : Nat) (i' : Int), m ≤ k ∧ Hid (i' = (k : Int) - 1 - m) ∧ i = .int .i64 i' ∧ LyR w base l n k m v wr) (fun _ i _ => (intOf i + 1).toNat)
  case atStart => exact ⟨0, (k : Int) - 1, Nat.zero_le _, by show _ = _; omega, by go_num, R0.out⟩
  case round =>
    clear R0
    obtain ⟨m, i', hm, HI, rfl, hrel⟩ := hrel
    by_cases hlt : m < k
    · obtain ⟨i, hi⟩ : ∃ i : Nat, i = k - 1 - m := ⟨_, rfl⟩
      obtain rfl : i' = (i : Int) := by have := HI.out; omega
      have i0 : (0 : Int) ≤ (i : Int) := by omega
      have HIN := hid hi
      have HR := hid hrel
      have hi64 : i < 64 := by omega
      clear HI hrel
      go_wp2
      obtain ⟨w1, hw1⟩ : ∃ x, x = wr := ⟨wr, rfl⟩
      rw [← hw1] at HR ⊢
      clear hw1
      go_loopw [8, 9] (fun u z wr => ∃ (q p : Nat), q ≤ i ∧ Hid (p = n / 2 ^ q) ∧ u = .int .i64 (p : Int) ∧ z = .int .i64 (q : Int) ∧ wr = w1) (fun _ z _ => i - (intOf z).toNat)
      case atStart => exact ⟨0, n, Nat.zero_le _, by show n = n / 2 ^ 0; rw [Nat.pow_zero, Nat.div_one], rfl, rfl, rfl⟩
      case round =>
        obtain ⟨q, p, hq, HP, rfl, rfl, rfl⟩ := hrel
        have hp32 : p < 4294967296 := by
          rw [HP.out]
          exact Nat.lt_of_le_of_lt (Nat.div_le_self _ _) HN.out
        by_cases hltq : q < i
        · have j2 : (q : Int) < (i : Int) := by omega
          have HP2 : Hid (p / 2 = n / 2 ^ (q + 1)) := by
            show _ = _
            rw [HP.out, Nat.pow_succ, Nat.div_div_eq_div_mul]
          go_wp2
          go_roundw
          case rel => exact ⟨q + 1, p / 2, by omega, HP2, by go_num, by go_num, by trivial⟩
          case measure => simp [intOf]; omega
        · have j2 : decide (q < i) = false := by simp; omega
          obtain rfl : q = i := by omega
          have hbit : ((p : Int) % 2 == 1) = n.testBit (k - 1 - m) := by
            rw [← HIN.out, HP.out]
            rw [Nat.testBit_eq_decide_div_mod_eq]
            by_cases hb : n / 2 ^ q % 2 = 1
            · rw [decide_eq_true hb, show ((n / 2 ^ q : Nat) : Int) % 2 = ((n / 2 ^ q % 2 : Nat) : Int) by omega, hb]
              rfl
            · rw [decide_eq_false hb, show ((n / 2 ^ q : Nat) : Int) % 2 = ((n / 2 ^ q % 2 : Nat) : Int) by omega, show n / 2 ^ q % 2 = 0 by omega]
              rfl
          have HBT := hid hbit
          have HLS := hid (layP_succ n k m)
          clear hbit
          go_wp2_with (with_reducible refine append_bool rfl (.tmp 24) (.tmp 28) rfl base _ (l ++ layP n k m) rfl HR.out.o _ (n.testBit (k - 1 - m)) HBT.out rfl (by rw [List.length_append, layP_len]; omega) (Nat.le_trans hbase HR.out.b.size) ?_; intro v2 w2 o2 b2)
          have HO2 : Hid (LyR w base l n k (m + 1) v2 w2) := ⟨by rw [HLS.out, ← List.append_assoc]; exact o2, HR.out.b.trans b2⟩
          clear o2 b2
          go_roundw
          case rel => exact ⟨m + 1, (k : Int) - 1 - (m + 1 : Nat), by omega, rfl, by first | go_num | (congr 1; omega), HO2.out⟩
          case measure => simp [intOf]; omega
    · obtain rfl : m = k := by omega
      obtain rfl : i' = -1 := by have := HI.out; omega
      have HR := hid hrel
      clear HI hrel
      go_wp2
      go_ret
      exact ⟨_, rfl, HR.out.o, HR.out.b⟩
end Go.Proofs.YtdepkfdceidikaaGreatDoor
