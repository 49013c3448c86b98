/-
  A ring's deeds, by the numbers alone (mAdd, mSub, mMul, mExp); how they go together.
-/
import Derived.Test.YtfonpmahcdmajaaDoorWidF
namespace Go.Proofs.YtfonpmahcdmajaaDoor
open Go.RowKit
set_option linter.unusedVariables false

def mAdd (g : Bool) (X Y : Nat) : Nat := (X % W12 + Y % W12) % mOf g
def mSub (g : Bool) (X Y : Nat) : Nat := (X % W12 % mOf g + mOf g - Y % W12 % mOf g) % mOf g
def mMul (g : Bool) (X Y : Nat) : Nat := (X % W12) * (Y % W12) % mOf g
def mExp (g : Bool) (X Y : Nat) : Nat := (X % W12) ^ (Y % W12) % mOf g
theorem ds_mod (X : Nat) : ds (X % W12) = ds X := by
  refine val_inj 18446744073709551616 (by decide) _ _ (ds_lt _) (ds_lt _) ((ds_len _).trans (ds_len _).symm) ?_
  unfold val
  rw [ds_len, ds_len, ds_pv _ 12 (Nat.le_refl _), ds_pv _ 12 (Nat.le_refl _)]
  exact Nat.mod_mod _ _
theorem num_mod (X : Nat) : num (X % W12) = num X := by unfold num; rw [ds_mod]
theorem mod12 (X : Nat) : X % W12 < W12 := Nat.mod_lt _ (by decide)
theorem wAdd_c (b X Y : Nat) (g : Bool) (w : World) (hR : RingP w b (mOf g)) :
    Calls Tryd.prog 51 #[.pointer (some ⟨b, 0, none⟩), num X, num Y] w fun e w' => e = .returned (num (mAdd g X Y)) ∧ Below w.heap.size w w' := by
  have h := rAdd_c b (X % W12) (Y % W12) (mOf g) w hR (mod12 X) (mod12 Y) (mOf_lt g) (mOf_pos g)
  rw [num_mod, num_mod] at h
  exact h
theorem wSub_c (b X Y : Nat) (g : Bool) (w : World) (hR : RingP w b (mOf g)) :
    Calls Tryd.prog 49 #[.pointer (some ⟨b, 0, none⟩), num X, num Y] w fun e w' => e = .returned (num (mSub g X Y)) ∧ Below w.heap.size w w' := by
  have h := rSub_c b (X % W12) (Y % W12) (mOf g) w hR (mod12 X) (mod12 Y) (mOf_lt g) (mOf_pos g)
  rw [num_mod, num_mod] at h
  exact h
theorem wMul_c (b X Y : Nat) (g : Bool) (w : World) (hR : RingP w b (mOf g)) :
    Calls Tryd.prog 13 #[.pointer (some ⟨b, 0, none⟩), num X, num Y] w fun e w' => e = .returned (num (mMul g X Y)) ∧ Below w.heap.size w w' := by
  have h := rMul_c b (X % W12) (Y % W12) (mOf g) w hR (mod12 X) (mod12 Y) (mOf_lt g) (mOf_pos g)
  rw [num_mod, num_mod] at h
  exact h
theorem wExp_c (b X Y : Nat) (g : Bool) (w : World) (hR : RingP w b (mOf g)) :
    Calls Tryd.prog 14 #[.pointer (some ⟨b, 0, none⟩), num X, num Y] w fun e w' => e = .returned (num (mExp g X Y)) ∧ Below w.heap.size w w' := by
  have h := rExp_c b (X % W12) (Y % W12) (mOf g) w hR (mod12 X) (mod12 Y) (mOf_lt g) (mOf_pos g)
  rw [num_mod, num_mod] at h
  exact h
/-- The same with a 0 that the program builds. -/
theorem wAdd0_c (b X : Nat) (g : Bool) (w : World) (hR : RingP w b (mOf g)) :
    Calls Tryd.prog 51 #[.pointer (some ⟨b, 0, none⟩), num X, .agg #[.int .u64 0, .int .u64 0, .int .u64 0, .int .u64 0, .int .u64 0, .int .u64 0, .int .u64 0, .int .u64 0, .int .u64 0, .int .u64 0, .int .u64 0, .int .u64 0]] w fun e w' => e = .returned (num (mAdd g X 0)) ∧ Below w.heap.size w w' := by
  have h := wAdd_c b X 0 g w hR
  rw [num_0] at h
  exact h
theorem mAdd_lt (g : Bool) (X Y : Nat) : mAdd g X Y < W12 := Nat.lt_trans (Nat.mod_lt _ (mOf_pos g)) (mOf_lt g)
theorem mSub_lt (g : Bool) (X Y : Nat) : mSub g X Y < W12 := Nat.lt_trans (Nat.mod_lt _ (mOf_pos g)) (mOf_lt g)
theorem mMul_lt (g : Bool) (X Y : Nat) : mMul g X Y < W12 := Nat.lt_trans (Nat.mod_lt _ (mOf_pos g)) (mOf_lt g)
theorem mExp_lt (g : Bool) (X Y : Nat) : mExp g X Y < W12 := Nat.lt_trans (Nat.mod_lt _ (mOf_pos g)) (mOf_lt g)
theorem mAdd_comm (g : Bool) (X Y : Nat) : mAdd g X Y = mAdd g Y X := by unfold mAdd; rw [Nat.add_comm]
theorem mMul_comm (g : Bool) (X Y : Nat) : mMul g X Y = mMul g Y X := by unfold mMul; rw [Nat.mul_comm]
theorem mMul_add (g : Bool) (X Y Z : Nat) : mMul g X (mAdd g Y Z) = mAdd g (mMul g X Y) (mMul g X Z) := by
  have e1 := Nat.mod_eq_of_lt (mAdd_lt g Y Z)
  have e2 := Nat.mod_eq_of_lt (mMul_lt g X Y)
  have e3 := Nat.mod_eq_of_lt (mMul_lt g X Z)
  show X % W12 * (mAdd g Y Z % W12) % mOf g = (mMul g X Y % W12 + mMul g X Z % W12) % mOf g
  rw [e1, e2, e3]
  unfold mAdd mMul
  rw [Nat.mul_mod_mod, Nat.mul_add, ← Nat.add_mod]
theorem mSub_add (g : Bool) (X Y : Nat) : mAdd g (mSub g X Y) Y = mAdd g X 0 := by
  have e1 := Nat.mod_eq_of_lt (mSub_lt g X Y)
  show (mSub g X Y % W12 + Y % W12) % mOf g = (X % W12 + 0 % W12) % mOf g
  rw [e1, Nat.zero_mod, Nat.add_zero]
  unfold mSub
  exact sub_add_mod _ _ _ (mOf_pos g)
/-- Numbers are compared, as the walk meets it. -/
theorem neq_num (A B : Nat) (h : A = B) (w : World) : (binOp .neq 24 (num A) (num B)).run Tryd.prog w = .ok (.bool false) w := by
  subst h
  have e := num_same w A
  unfold num
  rw [run_neq_struct, e]
  rfl
theorem eql_num (A B : Nat) (h : A = B) (w : World) : (binOp .eql 24 (num A) (num B)).run Tryd.prog w = .ok (.bool true) w := by
  subst h
  have e := num_same w A
  unfold num
  rw [run_eql_struct, e]
  rfl
theorem eqg_neq (x y : Operand) (A B : Nat) (w : World) : (eqGuard .neq 24 x y (num A) (num B)).run Tryd.prog w = .ok () w := by
  unfold num
  simp [eqGuard, go_sem, Tryd.eqGuardType24]
theorem eqg_eql (x y : Operand) (A B : Nat) (w : World) : (eqGuard .eql 24 x y (num A) (num B)).run Tryd.prog w = .ok () w := by
  unfold num
  simp [eqGuard, go_sem, Tryd.eqGuardType24]
/-- The load of a long array whose guard holds. -/
theorem wpList_load_g {P : Program} {ops : Array Oper} {rest : List Oper} {op : Oper} {a : Act} {w : World} {Q : Exit → Act → World → Prop} (hw : Region.wanted op (yielded ops a.tmps) = true) (ty : TypeId) (x : Operand) (ho : op.op = .load ty x)
    (b o : Nat) (hx : a.eval x = .pointer (some ⟨b, o, none⟩)) (cs : List Value) (d : TypeDesc) (hc : w.rangeAt b o cs)
    (hu : P.underlying ty = some d) (hd : d.isRow = true) (hi : (P.info? ty).map (·.size) = some cs.length)
    (h : wpList P ops Q rest (a.put op.dst (.agg cs.toArray)) w) : wpList P ops Q (op :: rest) a w := by
  unfold wpList
  rw [if_pos hw]
  exact Or.inl (wp_load_mid ty x ho b o hx cs d hc hu hd hi h)
/-- A number in memory is loaded whole. -/
theorem load_num {v : World} {b X : Nat} (h : BlkW v b 24 (ds X)) : (Instr.loadAt 24 (.pointer (some ⟨b, 0, none⟩))).run Tryd.prog v = .ok (num X) v :=
  run_loadAt_mid v b 0 24 (cellsOf64 (ds X)) _ h.range Tryd.underlying24 rfl (sizeNb.trans (congrArg some (dsc_len X).symm))
/-- The same, as the walk meets it where the program is a letter. -/
theorem agg_num (v : World) : (isAgg 24).run Tryd.prog v = .ok true v := by
  unfold isAgg
  rw [Sem.run_bind, run_underlying Tryd.underlying24 v]
  rfl
theorem size_num (v : World) : (sizeOf 24).run Tryd.prog v = .ok 12 v := by kernel_rfl
theorem cells_num {v : World} {b X : Nat} (h : BlkW v b 24 (ds X)) : (loadCellsFrom ⟨b, 0, none⟩ 0 12 #[]).run Tryd.prog v = .ok (cellsOf64 (ds X)).toArray v := by
  have e := run_loadCells_list (P := Tryd.prog) v ⟨b, 0, none⟩ (cellsOf64 (ds X)) (fun j u hu => by rw [Addr.add_mid]; exact h.range j u hu)
  rw [dsc_len] at e
  exact e
theorem zero_num (v : World) : (zeroValue 24).run Tryd.prog v = .ok (.agg #[.int .u64 0, .int .u64 0, .int .u64 0, .int .u64 0, .int .u64 0, .int .u64 0, .int .u64 0, .int .u64 0, .int .u64 0, .int .u64 0, .int .u64 0, .int .u64 0]) v := by kernel_rfl
theorem under_num (v : World) : (underlying 24).run Tryd.prog v = .ok (.array 12 22) v := run_underlying Tryd.underlying24 v
theorem same_num (A B : Nat) (h : A = B) (v : World) : (Op.equalIn 10000 24 (.agg (cellsOf64 (ds A)).toArray) (.agg (cellsOf64 (ds B)).toArray)).run Tryd.prog v = .ok true v := by
  subst h
  exact num_same v A
/-- Bytes stored over a block from its start on. -/
theorem setCells_blkB {b : Nat} {t : TypeId} : ∀ (l old done : List Nat) {w : World}, w.heap[b]? = some (.cells (cells8 (done ++ old)).toArray t (0, 0)) → l.length = old.length →
    (w.setCells b done.length (cells8 l)).heap[b]? = some (.cells (cells8 (done ++ l)).toArray t (0, 0))
  | [], [], done, w, h, _ => h
  | [], _ :: _, _, _, _, hl => by simp at hl
  | _ :: _, [], _, _, _, hl => by simp at hl
  | x :: l, y :: old, done, w, h, hl => by
    have h' : (w.setCell ⟨b, done.length, none⟩ (.int .u8 (x : Int))).heap[b]? = some (.cells (cells8 ((done ++ [x]) ++ old)).toArray t (0, 0)) := by
      simp [World.setCell, Array.getElem?_modify, h, cells8]
    have ih := setCells_blkB l old (done ++ [x]) h' (by simpa using hl)
    rw [List.length_append, List.length_singleton, List.append_assoc] at ih
    exact ih

/-- 96 bytes laid into a new variable. -/
theorem z96_eq : Tryd.zeroCells70 = (cells8 (List.replicate 96 0)).toArray := by kernel_rfl
theorem new96 (w : World) (l : List Nat) (hl : l.length = 96) (hlt : allLt8 l) :
    ∃ wx, (storeCells ⟨w.heap.size, 0, none⟩ (cells8 l)).run Tryd.prog (w.alloc (.cells Tryd.zeroCells70 70)) = .ok () wx ∧ BlkB wx w.heap.size 70 l ∧ Below w.heap.size w wx := by
  rw [z96_eq]
  have hB := o96_new w 70
  have hth := hB.there
  have hb : Below w.heap.size w ((w.alloc (o96 70)).setCells w.heap.size 0 (cells8 l)) := below_cells (Nat.le_refl _) _ _ _ ((Below.refl _ _).alloc (Nat.le_refl _) _)
  refine ⟨(w.alloc (o96 70)).setCells w.heap.size 0 (cells8 l), store8 w.heap.size l (w.alloc (o96 70)) (by rw [hl]; exact hth), ?_, hb⟩
  have h := setCells_blkB (w := w.alloc (o96 70)) (b := w.heap.size) (t := 70) l (List.replicate 96 0) [] (by simpa using hB.heap) (by simp [hl])
  simp only [List.nil_append, List.length_nil] at h
  exact ⟨h, hlt⟩
end Go.Proofs.YtfonpmahcdmajaaDoor
