/-
  Arrays as values, blocks of bytes and of words that are stored and loaded whole; digits as they are handed on (Dg); texts of bytes. Helpers for the walks; nothing of the program but avouchref01.
-/
import Derived.Test.YtdepkfdceidikaaDoorBytesB
import Derived.Test.YtdepkfdceidikaaDoorBlkV
import Derived.Test.YtdepkfdceidikaaDoorRefG
import Derived.Laws.CopyOwn
import Derived.Laws.BytesArg
import Derived.Deep.RegionLaw
import Derived.Deep.RegionWith
import Derived.Deep.MidRow
import Derived.StillTailTactics
namespace Go.Proofs.YtdepkfdceidikaaDoor
open Go.RowKit
set_option linter.unusedVariables false

/-- Block b is just the bytes bs (of element type t), none frozen. -/
structure BlkB (w : World) (b : Nat) (t : TypeId) (bs : List Nat) : Prop where
  heap : w.heap[b]? = some (.cells (cells8 bs).toArray t (0, 0))
  lt : allLt8 bs
theorem BlkB.size {w : World} {b : Nat} {t : TypeId} {bs : List Nat} (h : BlkB w b t bs) : b < w.heap.size := by
  rcases Nat.lt_or_ge b w.heap.size with hlt | hge
  · exact hlt
  · have := h.heap; rw [Array.getElem?_eq_none hge] at this; cases this
theorem BlkB.cell {w : World} {b : Nat} {t : TypeId} {bs : List Nat} (h : BlkB w b t bs) {i : Nat} (hi : i < bs.length) : w.cell? ⟨b, i, none⟩ = some (.int .u8 (at64 bs i)) := by
  rw [cell_of_row w b i _ t (0, 0) h.heap]
  simp [cells8, at64, List.getElem?_eq_getElem hi, List.getD_eq_getElem?_getD]
theorem BlkB.below {w w' : World} {b B : Nat} {t : TypeId} {bs : List Nat} (h : BlkB w b t bs) (hb : Below B w w') (hB : b < B) : BlkB w' b t bs := ⟨(hb.block b hB).trans h.heap, h.lt⟩
theorem BlkB.alloc {w : World} {b : Nat} {t : TypeId} {bs : List Nat} (h : BlkB w b t bs) (o : Obj) : BlkB (w.alloc o) b t bs := h.below ((Below.refl _ _).alloc (Nat.le_refl _) o) h.size
theorem BlkB.drew {w : World} {b : Nat} {t : TypeId} {bs : List Nat} (h : BlkB w b t bs) : BlkB w.drew b t bs := ⟨h.heap, h.lt⟩
theorem BlkB.new (w : World) (t : TypeId) (bs : List Nat) (hl : allLt8 bs) : BlkB (w.alloc (.cells (cells8 bs).toArray t)) w.heap.size t bs := ⟨heap_alloc_new w _, hl⟩
theorem BlkB.range {w : World} {b : Nat} {t : TypeId} {bs : List Nat} (h : BlkB w b t bs) : w.rangeAt b 0 (cells8 bs) := fun j v hv => by
  have hj : j < bs.length := by
    have := (List.getElem?_eq_some_iff.1 hv).1
    simpa [cells8] using this
  rw [show 0 + j = j by omega, h.cell hj, ← hv]
  simp [cells8, at64, List.getElem?_eq_getElem hj, List.getD_eq_getElem?_getD]
theorem BlkB.there {w : World} {b : Nat} {t : TypeId} {bs : List Nat} (h : BlkB w b t bs) : w.there b 0 bs.length := fun j hj => by
  rw [show 0 + j = j by omega, h.cell hj]
  exact ⟨rfl, by simp [World.frozen?, h.heap]⟩
theorem BlkB.rd {w : World} {b B : Nat} {t : TypeId} {bs : List Nat} (h : BlkB w b t bs) (hB : b < B) : Rd8 w B (some ⟨b, 0, none⟩) bs.length bs :=
  ⟨rfl, h.lt, fun _ => ⟨b, 0, rfl, hB, fun i hi => by rw [show 0 + i = i by omega]; exact h.cell hi⟩⟩
theorem zeros_lt8 (n : Nat) : allLt8 (List.replicate n 0) := by intro x hx; have := List.eq_of_mem_replicate hx; omega
theorem src8 {w : World} {B n : Nat} {A : Option Addr} {l : List Nat} (h : Rd8 w B A n l) (hn : 0 < n) : ∃ ad, A = some ad ∧ ∀ j v, (cells8 l)[j]? = some v → w.cell? (ad.add j) = some v := by
  obtain ⟨b, off, e, _, hc⟩ := h.cells hn
  refine ⟨⟨b, off, none⟩, e, fun j v hj => ?_⟩
  have hjl : j < l.length := by
    have := (List.getElem?_eq_some_iff.1 hj).1
    simpa [cells8] using this
  rw [Addr.add_mid, hc j (by rw [← h.len]; exact hjl), ← hj]
  simp [cells8, at64, List.getElem?_eq_getElem hjl, List.getD_eq_getElem?_getD]
theorem one8 (l : List Nat) : ∀ v ∈ cells8 l, v.oneCell' = true := by
  intro u hu
  simp only [cells8, List.mem_map] at hu
  obtain ⟨y, _, rfl⟩ := hu
  rfl
theorem store8 (b : Nat) (l : List Nat) (w : World) (h : w.there b 0 l.length) : (storeCells ⟨b, 0, none⟩ (cells8 l)).run Tryd.prog w = .ok () (w.setCells b 0 (cells8 l)) := by
  have hl : (cells8 l).length = l.length := by simp [cells8]
  exact run_storeCells_cells (P := Tryd.prog) b 0 (cells8 l) 0 w (fun j hj => by simpa using (h j (by omega)).1) (fun j hj => by simpa using (h j (by omega)).2) (one8 l)
theorem rd8_range {w : World} {b B : Nat} {l : List Nat} (h : w.rangeAt b 0 (cells8 l)) (hl : allLt8 l) (hB : b < B) : Rd8 w B (some ⟨b, 0, none⟩) l.length l := by
  refine ⟨rfl, hl, fun _ => ⟨b, 0, rfl, hB, fun i hi => ?_⟩⟩
  refine h i _ ?_
  simp [cells8, at64, List.getElem?_eq_getElem hi, List.getD_eq_getElem?_getD]
/-- More digits than there ever are. -/
def bigE : Nat := 2000
/-- Digits of base 2^32, as they are handed on: the number X. -/
structure Dg (w : World) (v : Value) (X : Nat) : Prop where
  ex : ∃ A c l, v = .slice A l.length c ∧ l.length ≤ c ∧ l.length ≤ 2000 ∧ Rd w w.heap.size A l.length l ∧ D32 l ∧ Tr l ∧ val 4294967296 l = X
theorem Dg.up {w w' : World} {v : Value} {X : Nat} (h : Dg w v X) (hb : Below w.heap.size w w') : Dg w' v X := by
  obtain ⟨A, c, l, rfl, h1, h2, h3, h4⟩ := h
  exact ⟨A, c, l, rfl, h1, h2, h3.up hb (Nat.le_refl _), h4⟩
/-- A number below B^n has at most n digits. -/
theorem len_of_lt {l : List Nat} {n : Nat} (hd : D32 l) (ht : Tr l) (h : val 4294967296 l < 4294967296 ^ n) : l.length ≤ n := by
  rcases Nat.lt_or_ge n l.length with h' | h'
  · exfalso
    have e := ht
    unfold Tr at e
    obtain ⟨m, hm⟩ : ∃ m, l.length = m + 1 := ⟨l.length - 1, by omega⟩
    have hz : l.getD m 0 ≠ 0 := by
      rcases e with e | e
      · subst e; simp at hm
      · rw [hm] at e; exact e
    have : val 4294967296 l = pv 4294967296 l m + l.getD m 0 * 4294967296 ^ m := by unfold val; rw [hm, pv_succ]
    have h2 : 1 * 4294967296 ^ m ≤ l.getD m 0 * 4294967296 ^ m := Nat.mul_le_mul_right _ (by omega)
    have h3 : 4294967296 ^ n ≤ 4294967296 ^ m := Nat.pow_le_pow_right (by decide) (by omega)
    omega
  · exact h'
theorem Dg.of {w w' : World} {e : Ending} {X : Nat} (h : Dig w e w' X) (hX : X < 4294967296 ^ bigE) : ∃ v, e = .returned v ∧ Dg w' v X ∧ Below w.heap.size w w' := by
  obtain ⟨A, c, l, rfl, h1, h2, h3, h4, h5, h6⟩ := h
  exact ⟨_, rfl, ⟨A, c, l, rfl, h1, len_of_lt (n := bigE) h3 h4 (by rw [h5]; exact hX), h2, h3, h4, h5⟩, h6⟩

theorem conv8l {w : World} {B n : Nat} {A : Option Addr} {l : List Nat} (h : Rd8 w B A n l) (h0 : 0 < n) (c : Nat) :
    (convert 22 9 (.slice A n c)).run Tryd.prog w = .ok (.string (strOfNums (l.map fun (x : Nat) => (x : Int)))) w := by
  obtain ⟨b, off, rfl, hb, hc⟩ := h.cells h0
  refine run_convert_bytes_arg w _ 5 Tryd.underlying22 Tryd.underlying5 b off n c _ (by simp [h.len]) (fun i hi => ?_) _ Tryd.underlying9
  rw [hc i hi]
  have hi' : i < l.length := by rw [h.len]; exact hi
  simp [at64, List.getD_eq_getElem?_getD, List.getElem?_eq_getElem hi']
theorem str_list (l : List Nat) : (strOfNums (l.map fun (x : Nat) => (x : Int))).toList = l.map fun (x : Nat) => UInt8.ofNat x := by
  rw [ByteArray.toList_eq]
  show ((l.map fun (x : Nat) => (x : Int)).map fun n => UInt8.ofNat n.toNat) = _
  rw [List.map_map]
  rfl
theorem u8_inj {a b : Nat} (ha : a < 256) (hb : b < 256) (h : UInt8.ofNat a = UInt8.ofNat b) : a = b := by
  have := congrArg UInt8.toNat h
  simp at this
  omega
theorem map_u8_inj : ∀ {l l' : List Nat}, allLt8 l → allLt8 l' → (l.map fun (x : Nat) => UInt8.ofNat x) = (l'.map fun (x : Nat) => UInt8.ofNat x) → l = l'
  | [], [], _, _, _ => rfl
  | [], _ :: _, _, _, h => by simp at h
  | _ :: _, [], _, _, h => by simp at h
  | a :: l, b :: l', h1, h2, h => by
    simp only [List.map_cons, List.cons.injEq] at h
    rw [u8_inj (h1 a (by simp)) (h2 b (by simp)) h.1, map_u8_inj (fun x hx => h1 x (by simp [hx])) (fun x hx => h2 x (by simp [hx])) h.2]
/-- Two texts of as many bytes are the same just if their numbers are. -/
theorem str_val {l l' : List Nat} (hl : l.length = l'.length) (h : allLt8 l) (h' : allLt8 l') : ((strOfNums (l.map fun (x : Nat) => (x : Int))).toList == (strOfNums (l'.map fun (x : Nat) => (x : Int))).toList) = decide (val 256 l = val 256 l') := by
  rw [str_list, str_list]
  by_cases e : val 256 l = val 256 l'
  · have : l = l' := val_inj 256 (by decide) l l' h h' hl e
    subst this
    simp
  · rw [decide_eq_false e]
    simp only [beq_eq_false_iff_ne]
    intro h2
    exact e (by rw [map_u8_inj h h' h2])
theorem Dg.nil (w : World) : Dg w (.slice none 0 0) 0 := ⟨none, 0, [], rfl, Nat.le_refl _, by decide, Rd.nil _ _ _, by intro x hx; simp at hx, Or.inl rfl, rfl⟩

theorem cmpN_zero_iff (X Y : Nat) : (cmpN X Y == 0) = decide (X = Y) := by
  rcases Nat.lt_trichotomy X Y with h | h | h
  · rw [cmpN_lt h, decide_eq_false (by omega)]; rfl
  · rw [h, cmpN_eq, decide_eq_true rfl]; rfl
  · rw [cmpN_gt h, decide_eq_false (by omega)]; rfl
theorem d32_all {l : List Nat} (h : D32 l) : allLt l := fun x hx => Nat.lt_trans (h x hx) (by decide)
theorem BlkW.range {w : World} {b : Nat} {t : TypeId} {bs : List Nat} (h : BlkW w b t bs) : w.rangeAt b 0 (cellsOf64 bs) := fun j v hv => by
  have hj : j < bs.length := by
    have := (List.getElem?_eq_some_iff.1 hv).1
    simpa [cellsOf64] using this
  rw [show 0 + j = j by omega, h.cell hj, ← hv]
  simp [cellsOf64, at64, List.getElem?_eq_getElem hj, List.getD_eq_getElem?_getD]
theorem BlkW.there {w : World} {b : Nat} {t : TypeId} {bs : List Nat} (h : BlkW w b t bs) : w.there b 0 bs.length := fun j hj => by
  rw [show 0 + j = j by omega, h.cell hj]
  exact ⟨rfl, h.frozen j⟩
theorem one64 (l : List Nat) : ∀ v ∈ cellsOf64 l, v.oneCell' = true := by
  intro u hu
  simp only [cellsOf64, List.mem_map] at hu
  obtain ⟨y, _, rfl⟩ := hu
  rfl
theorem store64 (b : Nat) (l : List Nat) (w : World) (h : w.there b 0 l.length) : (storeCells ⟨b, 0, none⟩ (cellsOf64 l)).run Tryd.prog w = .ok () (w.setCells b 0 (cellsOf64 l)) := by
  have hl : (cellsOf64 l).length = l.length := by simp [cellsOf64]
  exact run_storeCells_cells (P := Tryd.prog) b 0 (cellsOf64 l) 0 w (fun j hj => by simpa using (h j (by omega)).1) (fun j hj => by simpa using (h j (by omega)).2) (one64 l)
theorem BlkW.new64 (w : World) (t : TypeId) (l : List Nat) (hl : allLt l) : BlkW (w.alloc (.cells (cellsOf64 l).toArray t)) w.heap.size t l := ⟨heap_alloc_new w _, hl⟩
theorem BlkW.alloc {w : World} {b : Nat} {t : TypeId} {ws : List Nat} (h : BlkW w b t ws) (o : Obj) : BlkW (w.alloc o) b t ws := h.below ((Below.refl _ _).alloc (Nat.le_refl _) o) h.size
theorem zeros_all (n : Nat) : allLt (List.replicate n 0) := by intro x hx; have := List.eq_of_mem_replicate hx; omega
theorem BlkW.otherC {w : World} {b c i : Nat} {t : TypeId} {v : Value} {ws : List Nat} (h : BlkW w b t ws) (hne : b ≠ c) : BlkW (w.setCell ⟨c, i, none⟩ v) b t ws := by
  refine ⟨?_, h.lt⟩
  simp only [World.setCell]
  rw [Array.getElem?_modify, if_neg (by omega)]
  exact h.heap
theorem d32_set {l : List Nat} (h : D32 l) (i x : Nat) (hx : x < 4294967296) : D32 (l.set i x) := by
  intro y hy
  rcases List.mem_or_eq_of_mem_set hy with h' | h'
  · exact h y h'
  · subst h'; exact hx
/-- The load of a long array, among what only reads. -/
theorem still_load {P : Program} {ops : Array Oper} {w : World} {Q : Act → Prop} {a : Act} {o : Oper} {rest : List Oper} (hgd : o.guard = none) (ty : TypeId) (x : Operand) (ho : o.op = .load ty x) (b off : Nat) (hx : a.eval x = .pointer (some ⟨b, off, none⟩))
    (cs : List Value) (d : TypeDesc) (hc : w.rangeAt b off cs) (hu : P.underlying ty = some d) (hd : d.isRow = true) (hi : (P.info? ty).map (·.size) = some cs.length) (h : wpStill P ops w Q rest (a.put o.dst (.agg cs.toArray))) : wpStill P ops w Q (o :: rest) a := by
  refine wpStill_step fun K hK => ?_
  have hw : Region.wanted o (yielded ops a.tmps) = true := by simp [Region.wanted, hgd]
  rw [if_pos hw]
  unfold Oper.still execOp
  simp only [ho, hx, Instr.loadAt, Instr.sureAddr, Sem.run_bind, Sem.run_pure, Result.andThen_ok, run_loadVar_mid w b off ty cs d hc hu hd hi]
  exact ⟨rfl, hK _ h⟩
theorem own_zeros (w : World) (m : Nat) (hm : m ≤ 1000000) : OwnW (w.alloc (.cells (zeros m) 24)) w.heap.size (.slice (some ⟨w.heap.size, 0, none⟩) m m) (List.replicate m 0) := by
  have h := (blk_zeros w m).own (by simp; exact hm)
  rw [List.length_replicate] at h
  exact h
theorem conv8 {w : World} {B n : Nat} {A : Option Addr} {l : List Nat} (h : Rd8 w B A n l) (c : Nat) :
    (convert 22 9 (.slice A n c)).run Tryd.prog w = .ok (.string (strOfNums (l.map fun (x : Nat) => (x : Int)))) w := by
  rcases Nat.eq_zero_or_pos n with h0 | h0
  · subst h0
    have hl : l = [] := List.eq_nil_of_length_eq_zero h.len
    subst hl
    rw [run_convert_bytes_string w _ _ 5 A 0 c Tryd.underlying22 Tryd.underlying5 Tryd.underlying9]
    cases A with
    | none => simp [Conv.bytesToString]; rfl
    | some a =>
      have hl : (loadCells a 0).run Tryd.prog w = .ok (([] : List Int).map (Value.int .u8)).toArray w := by simpa using run_loadCells_list (P := Tryd.prog) w a [] (fun j v hj => by simp at hj)
      rw [run_bytesToString w a 0 c [] hl]; rfl
  · obtain ⟨b, off, rfl, hb, hc⟩ := h.cells h0
    refine run_convert_bytes_arg w _ 5 Tryd.underlying22 Tryd.underlying5 b off n c _ (by simp [h.len]) (fun i hi => ?_) _ Tryd.underlying9
    rw [hc i hi]
    have hi' : i < l.length := by rw [h.len]; exact hi
    simp [at64, List.getD_eq_getElem?_getD, List.getElem?_eq_getElem hi']
end Go.Proofs.YtdepkfdceidikaaDoor
