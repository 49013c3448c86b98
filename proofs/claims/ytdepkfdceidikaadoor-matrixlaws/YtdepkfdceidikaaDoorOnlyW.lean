/-
  Worlds that differ in one old block alone; rows copied. Helpers for the walks; nothing of the program but its types.
-/
import Derived.Test.YtdepkfdceidikaaDoorBlkV
import Derived.Test.YtdepkfdceidikaaDoorBytesB
import Derived.Laws.CopyOwn
namespace Go.Proofs.YtdepkfdceidikaaDoor
open Go.RowKit
set_option linter.unusedVariables false

/-- Of the blocks that w had, w' has all but b as they were. -/
structure Only (b : Nat) (w w' : World) : Prop where
  os : w'.os = w.os
  tape : w'.tape = w.tape
  output : w'.output = w.output
  size : w.heap.size ≤ w'.heap.size
  block : ∀ k, k < w.heap.size → k ≠ b → w'.heap[k]? = w.heap[k]?
theorem Only.refl (b : Nat) (w : World) : Only b w w := ⟨rfl, rfl, rfl, Nat.le_refl _, fun _ _ _ => rfl⟩
theorem Only.trans {b : Nat} {x y z : World} (h : Only b x y) (k : Only b y z) : Only b x z :=
  ⟨k.os.trans h.os, k.tape.trans h.tape, k.output.trans h.output, Nat.le_trans h.size k.size, fun i hi hb => (k.block i (Nat.lt_of_lt_of_le hi h.size) hb).trans (h.block i hi hb)⟩
theorem Only.of {b : Nat} {w w' : World} (h : Below w.heap.size w w') : Only b w w' := ⟨h.os, h.tape, h.output, h.size, fun k hk _ => h.block k hk⟩
theorem Only.drew {b : Nat} {w w' : World} (h : Only b w w') : Only b w w'.drew := ⟨h.os, h.tape, h.output, h.size, h.block⟩
theorem Only.set {b : Nat} {w w' : World} (h : Only b w w') (i : Nat) (v : Value) : Only b w (w'.setCell ⟨b, i, none⟩ v) :=
  h.trans ⟨rfl, rfl, rfl, by simp [World.setCell], fun k _ hb => Below.heap_setCell _ _ _ _ hb⟩
theorem Only.sets {b : Nat} {w : World} : ∀ (vs : List Value) (o : Nat) (w' : World), Only b w w' → Only b w (w'.setCells b o vs)
  | [], _, _, h => h
  | v :: r, o, w', h => Only.sets r (o + 1) _ (h.set o v)
theorem Only.below {b B : Nat} {w w' : World} (h : Only b w w') (hB : B ≤ b) (hs : B ≤ w.heap.size) : Below B w w' :=
  ⟨h.os, h.tape, h.output, h.size, fun k hk => h.block k (by omega) (by omega)⟩
theorem Only.own {b : Nat} {w w' : World} {v : Value} {l : List Nat} (h : Only b w w') (ho : OwnB w (b + 1) v l) : OwnB w' (b + 1) v l := by
  refine ⟨⟨ho.own.1, ?_⟩, ho.lt⟩
  rcases ho.own.2 with h' | ⟨g, cap, cur, e, hb, hg, r⟩
  · exact Or.inl h'
  · have hgs := (Array.getElem?_eq_some_iff.1 hg).1
    exact Or.inr ⟨g, cap, cur, e, hb, (h.block g hgs (by omega)).trans hg, r⟩
theorem Only.blk {b c : Nat} {w w' : World} {t : TypeId} {vs : List Value} (h : Only b w w') (hv : BlkV w c t vs) (hne : c ≠ b) : BlkV w' c t vs := ⟨(h.block c hv.size hne).trans hv.heap⟩
/-- copy, as a step of a region: the row's other cells and all other blocks stay. -/
theorem step_copy_only {P : Program} {ops : Array Oper} {o : Oper} {a : Act} {w : World} {K : Act → World → Prop} {Q : Exit → Act → World → Prop} {E : Prop} (hgd : o.guard = none) (d s : Operand) (dT sT : TypeId)
    (ho : o.op = .call { callee := .builtin .copy, args := #[d, s], argTypes := #[dT, sT] }) (elem : TypeId) (hu : P.underlying dT = some (.slice elem)) (hsz : (P.info? elem).map (·.size) = some 1)
    (g off dLen dCap : Nat) (ad : Addr) (sLen sCap : Nat) (hd : a.eval d = .slice (some ⟨g, off, none⟩) dLen dCap) (hs : a.eval s = .slice (some ad) sLen sCap)
    (cur : List Value) (t : TypeId) (hg : w.heap[g]? = some (.cells cur.toArray t (0, 0))) (cs : List Value) (hn : cs.length = Nat.min sLen dLen)
    (hsrc : ∀ j v, cs[j]? = some v → w.cell? (ad.add j) = some v) (hfit : off + cs.length ≤ cur.length) (h1 : ∀ v ∈ cs, v.oneCell' = true)
    (h : ∀ w', Hid (BlkV w' g t (splice cur off cs)) → Only g w w' → K (a.put o.dst (goInt cs.length)) w') :
    if Region.wanted o (yielded ops a.tmps) = true then Oper.wp P o a w K Q else E := by
  have hw : Region.wanted o (yielded ops a.tmps) = true := by simp [Region.wanted, hgd]
  rw [if_pos hw]
  have hrun := run_copy_row (P := P) w dT sT o.type elem g off dLen dCap ad sLen sCap cur.toArray t cs hu hsz hg hn hsrc (by simpa using hfit) h1
  unfold Oper.wp
  simp [execOp, ho, resolve, invoke, builtin, hd, hs, hrun, Result.andThen]
  refine h _ (show BlkV _ _ _ _ from ⟨by simpa [splice] using setRow_heap w g _ _ t _ hg⟩) ⟨rfl, rfl, rfl, by simp [World.setRow], fun k hk hb => setRow_other w g k _ (by omega)⟩

end Go.Proofs.YtdepkfdceidikaaDoor
