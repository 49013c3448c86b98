import Derived.Test.YtpjjobophplleaaDoorBlkV
import Derived.Test.YtpjjobophplleaaDoorBytes0
import Derived.Laws.CopyOwn
import Derived.Test.YtpjjobophplleaaDoorPrims
/-
  Worlds that differ in one old block alone; rows copied. Helpers for the walks; nothing of the program but its types.
-/
namespace Go.Proofs.YtpjjobophplleaaDoor
open Go.RowKit
set_option linter.unusedVariables false

/-- Of the blocks that w had, w' has all but b as they were. -/
structure Only (b : Nat) (w w' : World) : Prop where
  os : w'.os = w.os
  tape : w'.tape = w.tape
  output : w'.output = w.output
  size : w.heap.size ≤ w'.heap.size
  block : ∀ k, k < w.heap.size → k ≠ b → w'.heap[k]? = w.heap[k]?
theorem Only.refl (b : Nat) (w : World) : Only b w w := ⟨rfl, rfl, rfl, Nat.le_refl _, fun _ _ _ => rfl⟩
theorem Only.trans {b : Nat} {x y z : World} (h : Only b x y) (k : Only b y z) : Only b x z :=
  ⟨k.os.trans h.os, k.tape.trans h.tape, k.output.trans h.output, Nat.le_trans h.size k.size, fun i hi hb => (k.block i (Nat.lt_of_lt_of_le hi h.size) hb).trans (h.block i hi hb)⟩
theorem Only.of {b : Nat} {w w' : World} (h : Below w.heap.size w w') : Only b w w' := ⟨h.os, h.tape, h.output, h.size, fun k hk _ => h.block k hk⟩
theorem Only.drew {b : Nat} {w w' : World} (h : Only b w w') : Only b w w'.drew := ⟨h.os, h.tape, h.output, h.size, h.block⟩
theorem Only.set {b : Nat} {w w' : World} (h : Only b w w') (i : Nat) (v : Value) : Only b w (w'.setCell ⟨b, i, none⟩ v) :=
  h.trans ⟨rfl, rfl, rfl, by simp [World.setCell], fun k _ hb => Below.heap_setCell _ _ _ _ hb⟩
theorem Only.sets {b : Nat} {w : World} : ∀ (vs : List Value) (o : Nat) (w' : World), Only b w w' → Only b w (w'.setCells b o vs)
  | [], _, _, h => h
  | v :: r, o, w', h => Only.sets r (o + 1) _ (h.set o v)
theorem Only.below {b B : Nat} {w w' : World} (h : Only b w w') (hB : B ≤ b) (hs : B ≤ w.heap.size) : Below B w w' :=
  ⟨h.os, h.tape, h.output, h.size, fun k hk => h.block k (by omega) (by omega)⟩
theorem Only.own {b : Nat} {w w' : World} {v : Value} {l : List Nat} (h : Only b w w') (ho : OwnB w (b + 1) v l) : OwnB w' (b + 1) v l := by
  refine ⟨⟨ho.own.1, ?_⟩, ho.lt⟩
  rcases ho.own.2 with h' | ⟨g, cap, cur, e, hb, hg, r⟩
  · exact Or.inl h'
  · have hgs := (Array.getElem?_eq_some_iff.1 hg).1
    exact Or.inr ⟨g, cap, cur, e, hb, (h.block g hgs (by omega)).trans hg, r⟩
theorem Only.blk {b c : Nat} {w w' : World} {t : TypeId} {vs : List Value} (h : Only b w w') (hv : BlkV w c t vs) (hne : c ≠ b) : BlkV w' c t vs := ⟨(h.block c hv.size hne).trans hv.heap⟩
/-- copy, as a step of a region: the row's other cells and all other blocks stay. -/
theorem step_copy_only {P : Program} {ops : Array Oper} {o : Oper} {a : Act} {w : World} {K : Act → World → Prop} {Q : Exit → Act → World → Prop} {E : Prop} (hgd : o.guard = none) (d s : Operand) (dT sT : TypeId)
    (ho : o.op = .call { callee := .builtin .copy, args := #[d, s], argTypes := #[dT, sT] }) (elem : TypeId) (hu : P.underlying dT = some (.slice elem)) (hsz : (P.info? elem).map (·.size) = some 1)
    (g off dLen dCap : Nat) (ad : Addr) (sLen sCap : Nat) (hd : a.eval d = .slice (some ⟨g, off, none⟩) dLen dCap) (hs : a.eval s = .slice (some ad) sLen sCap)
    (cur : List Value) (t : TypeId) (hg : w.heap[g]? = some (.cells cur.toArray t (0, 0))) (cs : List Value) (hn : cs.length = Nat.min sLen dLen)
    (hsrc : ∀ j v, cs[j]? = some v → w.cell? (ad.add j) = some v) (hfit : off + cs.length ≤ cur.length) (h1 : ∀ v ∈ cs, v.oneCell' = true)
    (h : ∀ w', Hid (BlkV w' g t (splice cur off cs)) → Only g w w' → K (a.put o.dst (goInt cs.length)) w') :
    if Region.wanted o (yielded ops a.tmps) = true then Oper.wp P o a w K Q else E := by
  have hw : Region.wanted o (yielded ops a.tmps) = true := by simp [Region.wanted, hgd]
  rw [if_pos hw]
  have hrun := run_copy_row (P := P) w dT sT o.type elem g off dLen dCap ad sLen sCap cur.toArray t cs hu hsz hg hn hsrc (by simpa using hfit) h1
  unfold Oper.wp
  simp [execOp, ho, resolve, invoke, builtin, hd, hs, hrun, Result.andThen]
  refine h _ (show BlkV _ _ _ _ from ⟨by simpa [splice] using setRow_heap w g _ _ t _ hg⟩) ⟨rfl, rfl, rfl, by simp [World.setRow], fun k hk hb => setRow_other w g k _ (by omega)⟩

end Go.Proofs.YtpjjobophplleaaDoor
/-
  Rows of bits as cells, of any length. Helpers; nothing of the program.
-/
namespace Go.Proofs.YtpjjobophplleaaDoor
open Go.RowKit
set_option linter.unusedVariables false

def bcell (n : Nat) (f : Nat → Bool) : List Value := (List.range n).map fun k => .bool (f k)
theorem bcell_len (n : Nat) (f : Nat → Bool) : (bcell n f).length = n := by unfold bcell; rw [List.length_map, List.length_range]
theorem bcell_at {n : Nat} (f : Nat → Bool) {k : Nat} (h : k < n) : (bcell n f)[k]? = some (.bool (f k)) := by
  unfold bcell
  rw [List.getElem?_map, List.getElem?_range h]
  rfl
theorem bcell_eq {n : Nat} {f g : Nat → Bool} (h : ∀ k, k < n → f k = g k) : bcell n f = bcell n g := by
  apply List.ext_getElem?
  intro k
  rcases Nat.lt_or_ge k n with hk | hk
  · rw [bcell_at f hk, bcell_at g hk, h k hk]
  · rw [List.getElem?_eq_none (by rw [bcell_len]; exact hk), List.getElem?_eq_none (by rw [bcell_len]; exact hk)]
theorem bcell_set {n : Nat} (f : Nat → Bool) {k : Nat} (h : k < n) (v : Bool) : (bcell n f).set k (.bool v) = bcell n fun j => if j = k then v else f j := by
  apply List.ext_getElem?
  intro j
  rcases Nat.lt_or_ge j n with hj | hj
  · rw [bcell_at _ hj]
    by_cases e : k = j
    · rw [← e, List.getElem?_set_self (by rw [bcell_len]; exact h), if_pos rfl]
    · rw [List.getElem?_set_ne e, bcell_at f hj, if_neg (by omega)]
  · rw [List.getElem?_eq_none (by rw [List.length_set, bcell_len]; exact hj), List.getElem?_eq_none (by rw [bcell_len]; exact hj)]
theorem bcell_one (n : Nat) (f : Nat → Bool) : ∀ v ∈ bcell n f, v.oneCell' = true := by
  intro v hv
  unfold bcell at hv
  obtain ⟨k, _, rfl⟩ := List.mem_map.1 hv
  rfl
theorem bcell_inj {n : Nat} {f g : Nat → Bool} (h : bcell n f = bcell n g) : ∀ k, k < n → f k = g k := fun k hk => by
  have h1 := bcell_at f hk
  rw [h, bcell_at g hk] at h1
  exact (Value.bool.inj (Option.some.inj h1)).symm
/-- A block of bits. -/
abbrev BF (w : World) (b : Nat) (t : TypeId) (n : Nat) (f : Nat → Bool) : Prop := BlkV w b t (bcell n f)
def oF (t : TypeId) (n : Nat) (f : Nat → Bool) : Obj := .cells (bcell n f).toArray t
theorem oF_new (w : World) (t : TypeId) (n : Nat) (f : Nat → Bool) : BF (w.alloc (oF t n f)) w.heap.size t n f := BlkV.new w _ _
theorem BF.cellf {w : World} {b : Nat} {t : TypeId} {n : Nat} {f : Nat → Bool} (h : BF w b t n f) {k : Nat} (hk : k < n) : w.cell? ⟨b, k, none⟩ = some (.bool (f k)) := by
  have hi : k < (bcell n f).length := by rw [bcell_len]; exact hk
  rw [BlkV.cell h hi, ← bcell_at f hk, List.getElem?_eq_getElem hi]
theorem BF.setf {w : World} {b : Nat} {t : TypeId} {n : Nat} {f : Nat → Bool} (h : BF w b t n f) {k : Nat} (hk : k < n) (v : Bool) : BF (w.setCell ⟨b, k, none⟩ (.bool v)) b t n fun j => if j = k then v else f j := by
  have := BlkV.set h k (.bool v)
  rw [bcell_set f hk v] at this
  exact this
theorem BF.eq {w : World} {b : Nat} {t : TypeId} {n : Nat} {f g : Nat → Bool} (h : BF w b t n f) (e : ∀ k, k < n → f k = g k) : BF w b t n g := by
  unfold BF at *
  rw [← bcell_eq e]
  exact h
theorem storeF {P : Program} {w : World} {b : Nat} {t : TypeId} {n : Nat} {f : Nat → Bool} (g : Nat → Bool) (h : BF w b t n f) : (storeCells ⟨b, 0, none⟩ (bcell n g)).run P w = .ok () (w.setCells b 0 (bcell n g)) :=
  storeV (bcell n g) 0 h (by rw [bcell_len, bcell_len]; omega) (bcell_one n g)
theorem BF.over {w : World} {b : Nat} {t : TypeId} {n : Nat} {f : Nat → Bool} (g : Nat → Bool) (h : BF w b t n f) : BF (w.setCells b 0 (bcell n g)) b t n g := BlkV.whole (bcell n g) h (by rw [bcell_len, bcell_len])
end Go.Proofs.YtpjjobophplleaaDoor
/-
  Powers modulo a number, reckoned by squaring: plain arithmetic, nothing of the program.
-/
namespace Go.Proofs.YtpjjobophplleaaDoor

/-- b to the power of e modulo m, by the bits of e (at most as many as the first number says). -/
def pm (m : Nat) : Nat → Nat → Nat → Nat
  | 0, _, _ => 1 % m
  | f + 1, b, e => if e % 2 = 1 then b * pm m f (b * b % m) (e / 2) % m else pm m f (b * b % m) (e / 2)
theorem pm_eq (m : Nat) : ∀ (f b e : Nat), e < 2 ^ f → pm m f b e = b ^ e % m
  | 0, b, e, h => by
    have : e = 0 := by simpa using h
    subst this
    simp [pm]
  | f + 1, b, e, h => by
    have h2 : e / 2 < 2 ^ f := by rw [Nat.pow_succ] at h; omega
    have ih := pm_eq m f (b * b % m) (e / 2) h2
    have e1 : (b * b % m) ^ (e / 2) % m = b ^ (2 * (e / 2)) % m := by
      rw [← Nat.pow_mod, Nat.pow_mul, Nat.pow_two]
    unfold pm
    rw [ih, e1]
    split
    · rename_i ho
      rw [Nat.mul_mod_mod, ← Nat.pow_succ', show (2 * (e / 2)).succ = e by omega]
    · rename_i he
      rw [show 2 * (e / 2) = e by omega]
end Go.Proofs.YtpjjobophplleaaDoor
