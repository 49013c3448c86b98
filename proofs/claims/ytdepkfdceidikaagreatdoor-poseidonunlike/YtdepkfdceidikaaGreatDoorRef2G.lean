import Derived.Test.YtdepkfdceidikaaGreatDoorRef2C
import Derived.StillTailTactics
/-
  avouchref02.reaches, rowOf: what each call does.
-/
namespace Go.Proofs.YtdepkfdceidikaaGreatDoor
open Go.RowKit
set_option linter.unusedVariables false

def ReRel (w : World) (la lb : List Nat) (wr : World) (k : Nat) : Prop :=
  BlkW wr w.heap.size 141 la ∧ BlkW wr (w.heap.size + 1) 141 lb ∧ Below w.heap.size w wr ∧ ∀ j, k ≤ j → la.getD j 0 = lb.getD j 0
theorem two9 (w : World) (la lb : List Nat) (ha : allLt la) (hb : allLt lb) :
    BlkW ((w.alloc (.cells (cellsOf64 la).toArray 141)).alloc (.cells (cellsOf64 lb).toArray 141)) w.heap.size 141 la ∧
    BlkW ((w.alloc (.cells (cellsOf64 la).toArray 141)).alloc (.cells (cellsOf64 lb).toArray 141)) (w.heap.size + 1) 141 lb := by
  have e1 : (w.alloc (.cells (cellsOf64 la).toArray 141)).heap.size = w.heap.size + 1 := by simp
  have h2 := BlkW.new64 (w.alloc (.cells (cellsOf64 la).toArray 141)) 141 lb hb
  rw [e1] at h2
  exact ⟨(BlkW.new64 w 141 la ha).alloc _, h2⟩
theorem reach_ne {la lb : List Nat} (ha : la.length = 9) (hb : lb.length = 9) (da : D32 la) (db : D32 lb) (k : Nat) (hk : k < 9) (h : ∀ j, k + 1 ≤ j → la.getD j 0 = lb.getD j 0) (hne : la.getD k 0 ≠ lb.getD k 0) :
    decide (lb.getD k 0 < la.getD k 0) = decide (val 4294967296 lb ≤ val 4294967296 la) := by
  rw [← pv_out _ la 9 (by omega), ← pv_out _ lb 9 (by omega)]
  rcases Nat.lt_or_ge (la.getD k 0) (lb.getD k 0) with h' | h'
  · have := pv_less 4294967296 (by decide) la lb da k 9 (fun j hj => h j hj) h' hk
    rw [decide_eq_false (by omega), decide_eq_false (by omega)]
  · have := pv_less 4294967296 (by decide) lb la db k 9 (fun j hj => (h j hj).symm) (by omega) hk
    rw [decide_eq_true (by omega), decide_eq_true (by omega)]
theorem reach_eq {la lb : List Nat} (ha : la.length = 9) (hb : lb.length = 9) (h : ∀ j, 0 ≤ j → la.getD j 0 = lb.getD j 0) : decide (val 4294967296 lb ≤ val 4294967296 la) = true := by
  rw [← pv_out _ la 9 (by omega), ← pv_out _ lb 9 (by omega), pv_congr _ la lb 9 (fun i _ => h i (Nat.zero_le _))]
  exact decide_eq_true (Nat.le_refl _)

set_option maxRecDepth 20000 in
set_option maxHeartbeats 4000000 in
theorem reaches_c (la lb : List Nat) (w : World) (ha : la.length = 9) (hb : lb.length = 9) (da : D32 la) (db : D32 lb) :
    Calls Tryz.prog 99 #[.agg (cellsOf64 la).toArray, .agg (cellsOf64 lb).toArray] w fun e w' => e = .returned (.bool (decide (val 4294967296 lb ≤ val 4294967296 la))) ∧ Below w.heap.size w w' := by
  have hla : (cellsOf64 la).length = 9 := by simp [cellsOf64, ha]
  have hlb : (cellsOf64 lb).length = 9 := by simp [cellsOf64, hb]
  have T := hid (two9 w la lb (d32_all da) (d32_all db))
  have HA := hid ha
  have HB := hid hb
  obtain ⟨Q, hQ⟩ : ∃ Q, Q = decide (val 4294967296 lb ≤ val 4294967296 la) := ⟨_, rfl⟩
  rw [← hQ]
  have HQ := hid hQ
  clear ha hb hQ
  go_enter Tryz.func99, Tryz.ntmps99
  go_wp2
  clear hla hlb
  go_loopw [5] (fun i wr => ∃ k : Nat, k ≤ 9 ∧ i = .int .i64 ((k : Int) - 1) ∧ ReRel w la lb wr k) (fun i _ => (intOf i + 1).toNat)
  case atStart =>
    obtain ⟨t1, t2⟩ := T.out
    refine ⟨9, by omega, rfl, t1, t2, by go_grown, fun j hj => ?_⟩
    rw [getD_out la j (by rw [HA.out]; omega), getD_out lb j (by rw [HB.out]; omega)]
  case round =>
    obtain ⟨k, hk, rfl, hA, hB, hbl, hj⟩ := hrel
    clear T
    rcases k with _ | k
    · have HF : Hid (true = Q) := by show _ = _; rw [HQ.out, reach_eq HA.out HB.out hj]
      clear hj hA hB
      go_wp2
      go_ret
      exact ⟨ret_bool HF.out, hbl⟩
    · have e1 : (((k + 1 : Nat) : Int) - 1) = (k : Int) := by omega
      rw [e1]
      clear e1
      have ca := hA.cell (i := k) (by rw [HA.out]; omega)
      have cb := hB.cell (i := k) (by rw [HB.out]; omega)
      have k0 : (0 : Int) ≤ (k : Int) := by omega
      have k1 : (k : Int) < 9 := by omega
      have HJ := hid hj
      clear hj
      by_cases hne : la.getD k 0 = lb.getD k 0
      · have hn : (at64 la k != at64 lb k) = false := by unfold at64; rw [hne]; simp
        have HNE := hid hne
        clear hne
        go_wp2
        go_quiet (fail)
        have hA2 := hA.drewN nq
        have hB2 := hB.drewN nq
        have hbl2 := below_drewN hbl nq
        generalize wr.drewN nq = w2 at hA2 hB2 hbl2 ⊢
        clear hA hB hbl ca cb
        go_wp2
        go_roundw
        case rel =>
          refine ⟨k, by omega, by go_num, hA2, hB2, hbl2, fun j hj => ?_⟩
          by_cases hjk : j = k
          · subst hjk; exact HNE.out
          · exact HJ.out j (by omega)
        case measure => simp [intOf]
      · have hn : (at64 la k != at64 lb k) = true := by unfold at64; rw [bne_iff_ne]; intro h; exact hne (by exact_mod_cast h)
        have hd : decide (at64 lb k < at64 la k) = Q := by
          rw [HQ.out, ← reach_ne HA.out HB.out da db k (by omega) HJ.out hne]
          unfold at64
          simp
        clear hne
        go_wp2
        go_quiet (fail)
        have hA2 := hA.drewN nq
        have hB2 := hB.drewN nq
        have hbl2 := below_drewN hbl nq
        generalize wr.drewN nq = w2 at hA2 hB2 hbl2 ⊢
        have ca2 := hA2.cell (i := k) (by rw [HA.out]; omega)
        have cb2 := hB2.cell (i := k) (by rw [HB.out]; omega)
        clear hA hB hbl ca cb hn
        go_wp2
        go_quiet (fail)
        clear hA2 hB2 ca2 cb2
        go_wp2
        go_ret
        exact ⟨by first | rfl | rw [hd], by first | exact hbl2 | exact below_drewN hbl2 _⟩

def RoRel (w : World) (l : List Nat) (wr : World) (k : Nat) : Prop :=
  ∃ ws : List Nat, ws.length = 9 ∧ D32 ws ∧ BlkW wr w.heap.size 141 (List.replicate 9 0) ∧ BlkW wr (w.heap.size + 1) 141 ws ∧ Below w.heap.size w wr ∧ ∀ j, ws.getD j 0 = if j < k then l.getD j 0 else 0
theorem zz9 (w : World) :
    BlkW ((w.alloc (.cells #[.int .u64 0, .int .u64 0, .int .u64 0, .int .u64 0, .int .u64 0, .int .u64 0, .int .u64 0, .int .u64 0, .int .u64 0] 141)).alloc (.cells #[.int .u64 0, .int .u64 0, .int .u64 0, .int .u64 0, .int .u64 0, .int .u64 0, .int .u64 0, .int .u64 0, .int .u64 0] 141)) w.heap.size 141 (List.replicate 9 0) ∧
    BlkW ((w.alloc (.cells #[.int .u64 0, .int .u64 0, .int .u64 0, .int .u64 0, .int .u64 0, .int .u64 0, .int .u64 0, .int .u64 0, .int .u64 0] 141)).alloc (.cells #[.int .u64 0, .int .u64 0, .int .u64 0, .int .u64 0, .int .u64 0, .int .u64 0, .int .u64 0, .int .u64 0, .int .u64 0] 141)) (w.heap.size + 1) 141 (List.replicate 9 0) := by
  have e1 : (w.alloc (.cells #[.int .u64 0, .int .u64 0, .int .u64 0, .int .u64 0, .int .u64 0, .int .u64 0, .int .u64 0, .int .u64 0, .int .u64 0] 141)).heap.size = w.heap.size + 1 := by simp
  have h2 := BlkW.new64 (w.alloc (.cells #[.int .u64 0, .int .u64 0, .int .u64 0, .int .u64 0, .int .u64 0, .int .u64 0, .int .u64 0, .int .u64 0, .int .u64 0] 141)) 141 (List.replicate 9 0) (zeros_all 9)
  rw [e1] at h2
  exact ⟨(BlkW.new64 w 141 (List.replicate 9 0) (zeros_all 9)).alloc _, h2⟩
theorem row_val {l ws : List Nat} {n : Nat} (hl : l.length = n) (hn : n ≤ 9) (hw : ws.length = 9) (h : ∀ j, ws.getD j 0 = if j < n then l.getD j 0 else 0) : val 4294967296 ws = val 4294967296 l := by
  rw [← pv_out _ l 9 (by omega)]
  unfold val
  rw [hw]
  refine pv_congr _ _ _ 9 fun i _ => ?_
  rw [h i]
  split
  · rfl
  · rw [getD_out l i (by omega)]

set_option maxRecDepth 20000 in
set_option maxHeartbeats 4000000 in
theorem rowOf_c (A : Option Addr) (n c : Nat) (l : List Nat) (w : World) (hr : Rd w w.heap.size A n l) (dl : D32 l) (hn : n ≤ 9) :
    Calls Tryz.prog 97 #[.slice A n c] w fun e w' => ∃ l', e = .returned (.agg (cellsOf64 l').toArray) ∧ l'.length = 9 ∧ D32 l' ∧ val 4294967296 l' = val 4294967296 l ∧ Below w.heap.size w w' := by
  have T := hid (zz9 w)
  go_enter Tryz.func97, Tryz.ntmps97
  go_wp2
  go_loopw [4] (fun i wr => ∃ k : Nat, k ≤ n ∧ i = .int .i64 k ∧ RoRel w l wr k) (fun i _ => n - (intOf i).toNat)
  case atStart =>
    obtain ⟨t1, t2⟩ := T.out
    refine ⟨0, by omega, rfl, List.replicate 9 0, by simp, fun x hx => by have := List.eq_of_mem_replicate hx; omega, t1, t2, by go_grown, fun j => ?_⟩
    rw [List.getD_eq_getElem?_getD, List.getElem?_replicate]; split <;> rfl
  case round =>
    obtain ⟨k, hk, rfl, ws, hl, dw, hR, hA, hbl, hj⟩ := hrel
    clear T
    by_cases hlt : k < n
    · obtain ⟨b, off, rfl, hb, hc⟩ := (hr.below hbl (Nat.le_refl _)).at_ hlt
      have ca := hA.cell (i := k) (by omega)
      have fz := hA.frozen k
      have k0 : (0 : Int) ≤ (k : Int) := by omega
      have k1 : (k : Int) < (n : Int) := by omega
      have k2 : (k : Int) < 9 := by omega
      have HL := hid hl
      have HJ := hid hj
      clear hl hj
      go_wp2
      go_roundw
      case rel =>
        have hx := getD_lt _ (by decide) l dl k
        refine ⟨k + 1, by omega, by go_num, ws.set k (l.getD k 0), by rw [List.length_set]; exact HL.out, d32_set dw _ _ hx, hR.otherC (by omega), hA.setI k _ _ (by omega) rfl, hbl.setCell (by show w.heap.size ≤ w.heap.size + 1; omega) _, fun j => ?_⟩
        by_cases hjk : j = k
        · subst hjk
          rw [getD_set_eq _ _ _ (by rw [HL.out]; omega), if_pos (by omega)]
        · rw [getD_set_ne _ _ _ _ (by omega), HJ.out j]
          by_cases h1 : j < k
          · rw [if_pos h1, if_pos (by omega)]
          · rw [if_neg h1, if_neg (by omega)]
      case measure => simp [intOf]; omega
    · have : k = n := by omega
      subst this
      have HV := hid (row_val hr.len hn hl hj)
      have hd : decide ((k : Int) < (k : Int)) = false := by simp
      have hlen : (cellsOf64 ws).length = 9 := by simp [cellsOf64, hl]
      have hst := store64 (w.heap.size) ws wr (by rw [hl]; exact hR.there)
      have hran := hid (World.rangeAt_setCells_same wr (w.heap.size) 0 (cellsOf64 ws) (by rw [hlen]; exact hR.there))
      have HO := hid hA.range
      have HLE := hid hlen
      have HL := hid hl
      clear hl hA hR hj hr
      go_wp2_with (with_reducible refine wpList_load_mid rfl 141 (.tmp 3) rfl (w.heap.size + 1) 0 rfl (cellsOf64 ws) _ HO.out Tryz.underlying141 rfl (size9.trans (congrArg some HLE.out.symm)) ?_)
      refine bodyPost_ret (results_cell1 Tryz.results97 ⟨w.heap.size, 0, none⟩ _ rfl (run_loadVar_mid _ (w.heap.size) 0 141 (cellsOf64 ws) _ hran.out Tryz.underlying141 rfl (size9.trans (congrArg some HLE.out.symm)))) rfl ?_
      exact ⟨ws, rfl, HL.out, dw, HV.out, below_cells (by omega) _ _ _ hbl⟩
end Go.Proofs.YtdepkfdceidikaaGreatDoor
/-
  Rows in a row of rows: nine rows of nine digits in one block; what avouchref02.Mul's loops keep.
-/
namespace Go.Proofs.YtdepkfdceidikaaGreatDoor
open Go.RowKit
set_option linter.unusedVariables false

/-- The list ws with r stored from o on. -/
def sets (ws : List Nat) (o : Nat) : List Nat → List Nat
  | [] => ws
  | x :: r => sets (ws.set o x) (o + 1) r
theorem sets_length : ∀ (r ws : List Nat) (o : Nat), (sets ws o r).length = ws.length
  | [], _, _ => rfl
  | x :: r, ws, o => by unfold sets; rw [sets_length r, List.length_set]
theorem sets_out : ∀ (r ws : List Nat) (o j : Nat), (j < o ∨ o + r.length ≤ j) → (sets ws o r).getD j 0 = ws.getD j 0
  | [], _, _, _, _ => rfl
  | x :: r, ws, o, j, h => by
    unfold sets
    rw [sets_out r (ws.set o x) (o + 1) j (by simp only [List.length_cons] at h; omega), getD_set_ne _ _ _ _ (by simp only [List.length_cons] at h; omega)]
theorem sets_in : ∀ (r ws : List Nat) (o j : Nat), j < r.length → o + r.length ≤ ws.length → (sets ws o r).getD (o + j) 0 = r.getD j 0
  | [], _, _, _, h, _ => by simp at h
  | x :: r, ws, o, j, h, hl => by
    simp only [List.length_cons] at h hl
    unfold sets
    rcases j with _ | j
    · rw [sets_out r (ws.set o x) (o + 1) (o + 0) (by omega), Nat.add_zero, getD_set_eq _ _ _ (by omega)]; rfl
    · rw [show o + (j + 1) = (o + 1) + j by omega, sets_in r (ws.set o x) (o + 1) j (by omega) (by rw [List.length_set]; omega)]; rfl
theorem sets_d32 : ∀ (r ws : List Nat) (o : Nat), D32 r → D32 ws → D32 (sets ws o r)
  | [], _, _, _, h => h
  | x :: r, ws, o, hr, h => by
    unfold sets
    exact sets_d32 r _ _ (fun y hy => hr y (by simp [hy])) (d32_set h _ _ (hr x (by simp)))
theorem BlkW.sets {w : World} {b : Nat} {t : TypeId} : ∀ (r : List Nat) {ws : List Nat} (o : Nat) {w : World}, BlkW w b t ws → D32 r → BlkW (w.setCells b o (cellsOf64 r)) b t (Go.Proofs.YtdepkfdceidikaaGreatDoor.sets ws o r)
  | [], _, _, _, h, _ => h
  | x :: r, ws, o, w, h, hr => BlkW.sets (w := w) r (o + 1) (h.set o x (Nat.lt_trans (hr x (by simp)) (by decide))) (fun y hy => hr y (by simp [hy]))
theorem BlkW.setsO {b c : Nat} {t : TypeId} {ws : List Nat} (hne : b ≠ c) : ∀ (vs : List Value) (o : Nat) {w : World}, BlkW w b t ws → BlkW (w.setCells c o vs) b t ws
  | [], _, _, h => h
  | v :: vs, o, w, h => BlkW.setsO hne vs (o + 1) (h.otherC hne)
/-- The k-th row. -/
def rowAt (L : List Nat) (k : Nat) : List Nat := (L.drop (k * 9)).take 9
theorem rowAt_length {L : List Nat} (h : L.length = 81) {k : Nat} (hk : k < 9) : (rowAt L k).length = 9 := by unfold rowAt; simp [h]; omega
theorem rowAt_d32 {L : List Nat} (h : D32 L) (k : Nat) : D32 (rowAt L k) := fun x hx => h x (List.mem_of_mem_drop (List.mem_of_mem_take hx))
theorem rowAt_getD {L : List Nat} {k j : Nat} (hj : j < 9) : (rowAt L k).getD j 0 = L.getD (k * 9 + j) 0 := by
  unfold rowAt
  simp [List.getD_eq_getElem?_getD, hj]
theorem rowAt_val {L : List Nat} (h : L.length = 81) {k : Nat} (hk : k < 9) : val 4294967296 (rowAt L k) = pv 4294967296 (L.drop (k * 9)) 9 := by
  unfold val
  rw [rowAt_length h hk]
  unfold rowAt
  exact pv_take _ _ _ _ (Nat.le_refl _)
theorem rowAt_sets_same {L r : List Nat} (h : L.length = 81) (hr : r.length = 9) {k : Nat} (hk : k < 9) : val 4294967296 (rowAt (sets L (k * 9) r) k) = val 4294967296 r := by
  rw [rowAt_val (by rw [sets_length]; exact h) hk]
  unfold val
  rw [hr]
  refine pv_congr _ _ _ 9 fun i hi => ?_
  rw [getD_drop, sets_in r L (k * 9) i (by omega) (by omega)]
theorem rowAt_sets_other {L r : List Nat} (h : L.length = 81) (hr : r.length = 9) {k j : Nat} (hk : k < 9) (hj : j < 9) (hne : j ≠ k) : val 4294967296 (rowAt (sets L (k * 9) r) j) = val 4294967296 (rowAt L j) := by
  rw [rowAt_val (by rw [sets_length]; exact h) hj, rowAt_val h hj]
  refine pv_congr _ _ _ 9 fun i hi => ?_
  rw [getD_drop, getD_drop, sets_out r L (k * 9) (j * 9 + i) (by omega)]
theorem BlkW.rowRange {w : World} {b : Nat} {t : TypeId} {L : List Nat} (h : BlkW w b t L) (hl : L.length = 81) {k : Nat} (hk : k < 9) : w.rangeAt b (k * 9) (cellsOf64 (rowAt L k)) := fun j v hv => by
  have hj : j < (rowAt L k).length := by
    have := (List.getElem?_eq_some_iff.1 hv).1
    simpa [cellsOf64] using this
  rw [rowAt_length hl hk] at hj
  rw [h.cell (i := k * 9 + j) (by omega), ← hv]
  have hj' : j < (rowAt L k).length := by rw [rowAt_length hl hk]; exact hj
  have e := rowAt_getD (L := L) (k := k) hj
  unfold at64
  rw [← e]
  simp [cellsOf64, List.getElem?_eq_getElem hj', List.getD_eq_getElem?_getD]
theorem BlkW.rowThere {w : World} {b : Nat} {t : TypeId} {L : List Nat} (h : BlkW w b t L) (hl : L.length = 81) {k : Nat} (hk : k < 9) : w.there b (k * 9) 9 := fun j hj => by
  rw [h.cell (i := k * 9 + j) (by omega)]
  exact ⟨rfl, h.frozen _⟩
theorem store9 (b o : Nat) (l : List Nat) (w : World) (h : w.there b o l.length) : (storeCells ⟨b, o, none⟩ (cellsOf64 l)).run Tryz.prog w = .ok () (w.setCells b o (cellsOf64 l)) := by
  have hl : (cellsOf64 l).length = l.length := by simp [cellsOf64]
  exact run_storeCells_cells (P := Tryz.prog) b o (cellsOf64 l) 0 w (fun j hj => by simpa using (h j (by omega)).1) (fun j hj => by simpa using (h j (by omega)).2) (one64 l)

/-- The prime's row, and all nine. -/
def p9 : List Nat := [4026531841, 1138881939, 2042196113, 674490440, 2172737629, 3092268470, 3778125865, 811880050, 0]
theorem p9_of {l : List Nat} (hl : l.length = 9) (hd : D32 l) (hv : val 4294967296 l = pN) : l = p9 :=
  val_inj 4294967296 (by decide) l p9 hd (by intro x hx; simp only [p9, List.mem_cons, List.not_mem_nil, or_false] at hx; omega) hl (hv.trans (by decide))
theorem build81 (l : List Nat) (hl : l = p9) : List.foldl (fun cs x => cs.setIfInBounds x.snd x.fst) Tryz.zeroCells143 (cellsOf64 l).zipIdx = (cellsOf64 (p9 ++ List.replicate 72 0)).toArray := by
  subst hl
  kernel_rfl
theorem size81 : (Tryz.prog.info? 143).map (·.size) = some 81 := by kernel_rfl
end Go.Proofs.YtdepkfdceidikaaGreatDoor
/-
  What the double loop of avouchref02.Mul keeps; its numbers.
-/
namespace Go.Proofs.YtdepkfdceidikaaGreatDoor
open Go.RowKit
set_option linter.unusedVariables false

/-- The nine multiples of the prime, in a block. -/
structure Nine (w : World) (b k : Nat) (L : List Nat) : Prop where
  blk : BlkW w b 143 L
  len : L.length = 81
  d : D32 L
  v : ∀ j, j < k → val 4294967296 (rowAt L j) = 2 ^ j * pN
theorem Nine.below {w w' : World} {b k B : Nat} {L : List Nat} (h : Nine w b k L) (hb : Below B w w') (hB : b < B) : Nine w' b k L := ⟨h.blk.below hb hB, h.len, h.d, h.v⟩
theorem sets_all {ws r : List Nat} (h : r.length = ws.length) : sets ws 0 r = r := by
  apply List.ext_getElem (by rw [sets_length]; exact h.symm)
  intro i h1 h2
  have e := sets_in r ws 0 i h2 (by omega)
  rw [Nat.zero_add] at e
  simpa [List.getD_eq_getElem?_getD, List.getElem?_eq_getElem h1, List.getElem?_eq_getElem h2] using e

/-- What is kept: the multiples, the number so far (lr), the factor (ly), the bytes. -/
structure MEnv (w0 : World) (bp br b_y : Nat) (A5 : Option Addr) (l5 L ly : List Nat) (wr : World) (lr : List Nat) : Prop where
  n : Nine wr bp 9 L
  r : BlkW wr br 141 lr
  rl : lr.length = 9
  rd : D32 lr
  y : BlkW wr b_y 141 ly
  b : Rd8 wr br A5 32 l5
  bel : Below w0.heap.size w0 wr
  h0 : w0.heap.size ≤ br
  h1 : bp < br
  h2 : br < b_y
theorem MEnv.up {w0 : World} {bp br b_y : Nat} {A5 : Option Addr} {l5 L ly : List Nat} {wr w' : World} {lr : List Nat} (h : MEnv w0 bp br b_y A5 l5 L ly wr lr) (hb : Below wr.heap.size wr w') : MEnv w0 bp br b_y A5 l5 L ly w' lr :=
  ⟨h.n.below hb h.n.blk.size, h.r.below hb h.r.size, h.rl, h.rd, h.y.below hb h.y.size, h.b.below hb (Nat.le_of_lt h.r.size), h.bel.trans (hb.mono h.bel.size), h.h0, h.h1, h.h2⟩
theorem MEnv.put {w0 : World} {bp br b_y : Nat} {A5 : Option Addr} {l5 L ly : List Nat} {wr : World} {lr lm : List Nat} (h : MEnv w0 bp br b_y A5 l5 L ly wr lr) (hl : lm.length = 9) (hd : D32 lm) :
    MEnv w0 bp br b_y A5 l5 L ly (wr.setCells br 0 (cellsOf64 lm)) lm := by
  have hb : Below br wr (wr.setCells br 0 (cellsOf64 lm)) := below_cells (Nat.le_refl _) _ _ _ (Below.refl _ _)
  refine ⟨h.n.below hb h.h1, ?_, hl, hd, BlkW.setsO (by have := h.h2; omega) _ _ h.y, h.b.below hb (Nat.le_refl _), h.bel.trans (hb.mono h.h0), h.h0, h.h1, h.h2⟩
  have h' := BlkW.sets (w := wr) lm 0 h.r hd
  rw [sets_all (by rw [hl, h.rl])] at h'
  exact h'
theorem MEnv.drew {w0 : World} {bp br b_y : Nat} {A5 : Option Addr} {l5 L ly : List Nat} {wr : World} {lr : List Nat} (h : MEnv w0 bp br b_y A5 l5 L ly wr lr) : MEnv w0 bp br b_y A5 l5 L ly wr.drew lr := h.up (Below.refl _ _).drew

theorem Rd8.cellAt {w : World} {B n b off : Nat} {l : List Nat} (h : Rd8 w B (some ⟨b, off, none⟩) n l) {i : Nat} (hi : i < n) : w.cell? ⟨b, off + i, none⟩ = some (.int .u8 (at64 l i)) := by
  obtain ⟨b', off', e, _, hc⟩ := h.cells (by omega)
  simp only [Option.some.injEq, Addr.mk.injEq, and_true] at e
  obtain ⟨rfl, rfl⟩ := e
  exact hc i hi
/-- A byte of a number. -/
theorem byte_of (l : List Nat) (h : allLt8 l) (k : Nat) : l.getD k 0 = val 256 l / 256 ^ k % 256 := by
  have e1 := pv_mod 256 (by decide) l h (k + 1)
  rw [pv_succ, pv_mod 256 (by decide) l h k, Nat.pow_succ, Nat.mod_mul] at e1
  have e2 : l.getD k 0 * 256 ^ k = 256 ^ k * (val 256 l / 256 ^ k % 256) := by omega
  rw [Nat.mul_comm] at e2
  exact Nat.eq_of_mul_eq_mul_left (Nat.pow_pos (by decide)) e2
/-- One byte more. -/
theorem mul_byte (X Y m t : Nat) (ht : t = X / 256 ^ m % 256) : (256 * (X / 256 ^ (m + 1) * Y % pN) + t * Y) % pN = X / 256 ^ m * Y % pN := by
  have e : X / 256 ^ m = 256 * (X / 256 ^ (m + 1)) + t := by
    rw [Nat.pow_succ, ← Nat.div_div_eq_div_mul, ht]; omega
  rw [e, Nat.add_mul, Nat.add_mod, Nat.mul_mod_mod, ← Nat.add_mod, Nat.mul_assoc]
theorem byte_fits {R Y t : Nat} (hR : R < pN) (hY : Y < pN) (ht : t < 256) : 256 * R + t * Y < 2 ^ 9 * pN ∧ 256 * R + t * Y < 4294967296 ^ 9 := by
  have h1 : t * Y ≤ 255 * Y := Nat.mul_le_mul_right _ (by omega)
  have h2 : 2 ^ 9 * pN < 4294967296 ^ 9 := by decide
  have h3 : 256 * R + t * Y < 2 ^ 9 * pN := by omega
  exact ⟨h3, Nat.lt_trans h3 h2⟩
/-- One multiple taken away, or not. -/
theorem cut_one {V k : Nat} (h : V < 2 ^ (k + 1) * pN) (hge : 2 ^ k * pN ≤ V) : V - 2 ^ k * pN < 2 ^ k * pN ∧ (V - 2 ^ k * pN) % pN = V % pN := by
  rw [Nat.pow_succ] at h
  refine ⟨?_, ?_⟩
  · have : 2 ^ k * 2 * pN = 2 ^ k * pN + 2 ^ k * pN := by rw [Nat.mul_comm (2 ^ k) 2, Nat.mul_assoc, Nat.two_mul]
    omega
  · obtain ⟨d, hd⟩ : ∃ d, V = d + 2 ^ k * pN := ⟨V - 2 ^ k * pN, by omega⟩
    rw [hd, Nat.add_sub_cancel, Nat.add_mul_mod_self_right]
end Go.Proofs.YtdepkfdceidikaaGreatDoor
