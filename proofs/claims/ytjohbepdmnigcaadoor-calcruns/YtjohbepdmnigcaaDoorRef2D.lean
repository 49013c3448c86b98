/-
  avouchref02.reaches, rowOf: what each call does.
-/
import Derived.Test.YtjohbepdmnigcaaDoorRef2C
namespace Go.Proofs.YtjohbepdmnigcaaDoor
open Go.RowKit
set_option linter.unusedVariables false

def ReRel (w : World) (la lb : List Nat) (wr : World) (k : Nat) : Prop :=
  BlkW wr w.heap.size 84 la ∧ BlkW wr (w.heap.size + 1) 84 lb ∧ Below w.heap.size w wr ∧ ∀ j, k ≤ j → la.getD j 0 = lb.getD j 0
theorem two9 (w : World) (la lb : List Nat) (ha : allLt la) (hb : allLt lb) :
    BlkW ((w.alloc (.cells (cellsOf64 la).toArray 84)).alloc (.cells (cellsOf64 lb).toArray 84)) w.heap.size 84 la ∧
    BlkW ((w.alloc (.cells (cellsOf64 la).toArray 84)).alloc (.cells (cellsOf64 lb).toArray 84)) (w.heap.size + 1) 84 lb := by
  have e1 : (w.alloc (.cells (cellsOf64 la).toArray 84)).heap.size = w.heap.size + 1 := by simp
  have h2 := BlkW.new64 (w.alloc (.cells (cellsOf64 la).toArray 84)) 84 lb hb
  rw [e1] at h2
  exact ⟨(BlkW.new64 w 84 la ha).alloc _, h2⟩
theorem reach_ne {la lb : List Nat} (ha : la.length = 9) (hb : lb.length = 9) (da : D32 la) (db : D32 lb) (k : Nat) (hk : k < 9) (h : ∀ j, k + 1 ≤ j → la.getD j 0 = lb.getD j 0) (hne : la.getD k 0 ≠ lb.getD k 0) :
    decide (lb.getD k 0 < la.getD k 0) = decide (val 4294967296 lb ≤ val 4294967296 la) := by
  rw [← pv_out _ la 9 (by omega), ← pv_out _ lb 9 (by omega)]
  rcases Nat.lt_or_ge (la.getD k 0) (lb.getD k 0) with h' | h'
  · have := pv_less 4294967296 (by decide) la lb da k 9 (fun j hj => h j hj) h' hk
    rw [decide_eq_false (by omega), decide_eq_false (by omega)]
  · have := pv_less 4294967296 (by decide) lb la db k 9 (fun j hj => (h j hj).symm) (by omega) hk
    rw [decide_eq_true (by omega), decide_eq_true (by omega)]
theorem reach_eq {la lb : List Nat} (ha : la.length = 9) (hb : lb.length = 9) (h : ∀ j, 0 ≤ j → la.getD j 0 = lb.getD j 0) : decide (val 4294967296 lb ≤ val 4294967296 la) = true := by
  rw [← pv_out _ la 9 (by omega), ← pv_out _ lb 9 (by omega), pv_congr _ la lb 9 (fun i _ => h i (Nat.zero_le _))]
  exact decide_eq_true (Nat.le_refl _)

set_option maxRecDepth 20000 in
set_option maxHeartbeats 4000000 in
theorem reaches_c (la lb : List Nat) (w : World) (ha : la.length = 9) (hb : lb.length = 9) (da : D32 la) (db : D32 lb) :
    Calls Tryd.prog 62 #[.agg (cellsOf64 la).toArray, .agg (cellsOf64 lb).toArray] w fun e w' => e = .returned (.bool (decide (val 4294967296 lb ≤ val 4294967296 la))) ∧ Below w.heap.size w w' := by
  have hla : (cellsOf64 la).length = 9 := by simp [cellsOf64, ha]
  have hlb : (cellsOf64 lb).length = 9 := by simp [cellsOf64, hb]
  have T := hid (two9 w la lb (d32_all da) (d32_all db))
  have HA := hid ha
  have HB := hid hb
  obtain ⟨Q, hQ⟩ : ∃ Q, Q = decide (val 4294967296 lb ≤ val 4294967296 la) := ⟨_, rfl⟩
  rw [← hQ]
  have HQ := hid hQ
  clear ha hb hQ
  go_enter Tryd.func62, Tryd.ntmps62
  go_wp2
  clear hla hlb
  go_loopw [5] (fun i wr => ∃ k : Nat, k ≤ 9 ∧ i = .int .i64 ((k : Int) - 1) ∧ ReRel w la lb wr k) (fun i _ => (intOf i + 1).toNat)
  case atStart =>
    obtain ⟨t1, t2⟩ := T.out
    refine ⟨9, by omega, rfl, t1, t2, by go_grown, fun j hj => ?_⟩
    rw [getD_out la j (by rw [HA.out]; omega), getD_out lb j (by rw [HB.out]; omega)]
  case round =>
    obtain ⟨k, hk, rfl, hA, hB, hbl, hj⟩ := hrel
    clear T
    rcases k with _ | k
    · have HF : Hid (true = Q) := by show _ = _; rw [HQ.out, reach_eq HA.out HB.out hj]
      clear hj hA hB
      go_wp2
      go_ret
      exact ⟨ret_bool HF.out, hbl⟩
    · have e1 : (((k + 1 : Nat) : Int) - 1) = (k : Int) := by omega
      rw [e1]
      clear e1
      have ca := hA.cell (i := k) (by rw [HA.out]; omega)
      have cb := hB.cell (i := k) (by rw [HB.out]; omega)
      have k0 : (0 : Int) ≤ (k : Int) := by omega
      have k1 : (k : Int) < 9 := by omega
      have HJ := hid hj
      clear hj
      by_cases hne : la.getD k 0 = lb.getD k 0
      · have hn : (at64 la k != at64 lb k) = false := by unfold at64; rw [hne]; simp
        have HNE := hid hne
        clear hne
        go_wp2
        go_quiet (fail)
        have hA2 := hA.drewN nq
        have hB2 := hB.drewN nq
        have hbl2 := below_drewN hbl nq
        generalize wr.drewN nq = w2 at hA2 hB2 hbl2 ⊢
        clear hA hB hbl ca cb
        go_wp2
        go_roundw
        case rel =>
          refine ⟨k, by omega, by go_num, hA2, hB2, hbl2, fun j hj => ?_⟩
          by_cases hjk : j = k
          · subst hjk; exact HNE.out
          · exact HJ.out j (by omega)
        case measure => simp [intOf]
      · have hn : (at64 la k != at64 lb k) = true := by unfold at64; rw [bne_iff_ne]; intro h; exact hne (by exact_mod_cast h)
        have hd : decide (at64 lb k < at64 la k) = Q := by
          rw [HQ.out, ← reach_ne HA.out HB.out da db k (by omega) HJ.out hne]
          unfold at64
          simp
        clear hne
        go_wp2
        go_quiet (fail)
        have hA2 := hA.drewN nq
        have hB2 := hB.drewN nq
        have hbl2 := below_drewN hbl nq
        generalize wr.drewN nq = w2 at hA2 hB2 hbl2 ⊢
        have ca2 := hA2.cell (i := k) (by rw [HA.out]; omega)
        have cb2 := hB2.cell (i := k) (by rw [HB.out]; omega)
        clear hA hB hbl ca cb hn
        go_wp2
        go_quiet (fail)
        clear hA2 hB2 ca2 cb2
        go_wp2
        go_ret
        exact ⟨by first | rfl | rw [hd], by first | exact hbl2 | exact below_drewN hbl2 _⟩

def RoRel (w : World) (l : List Nat) (wr : World) (k : Nat) : Prop :=
  ∃ ws : List Nat, ws.length = 9 ∧ D32 ws ∧ BlkW wr w.heap.size 84 (List.replicate 9 0) ∧ BlkW wr (w.heap.size + 1) 84 ws ∧ Below w.heap.size w wr ∧ ∀ j, ws.getD j 0 = if j < k then l.getD j 0 else 0
theorem zz9 (w : World) :
    BlkW ((w.alloc (.cells #[.int .u64 0, .int .u64 0, .int .u64 0, .int .u64 0, .int .u64 0, .int .u64 0, .int .u64 0, .int .u64 0, .int .u64 0] 84)).alloc (.cells #[.int .u64 0, .int .u64 0, .int .u64 0, .int .u64 0, .int .u64 0, .int .u64 0, .int .u64 0, .int .u64 0, .int .u64 0] 84)) w.heap.size 84 (List.replicate 9 0) ∧
    BlkW ((w.alloc (.cells #[.int .u64 0, .int .u64 0, .int .u64 0, .int .u64 0, .int .u64 0, .int .u64 0, .int .u64 0, .int .u64 0, .int .u64 0] 84)).alloc (.cells #[.int .u64 0, .int .u64 0, .int .u64 0, .int .u64 0, .int .u64 0, .int .u64 0, .int .u64 0, .int .u64 0, .int .u64 0] 84)) (w.heap.size + 1) 84 (List.replicate 9 0) := by
  have e1 : (w.alloc (.cells #[.int .u64 0, .int .u64 0, .int .u64 0, .int .u64 0, .int .u64 0, .int .u64 0, .int .u64 0, .int .u64 0, .int .u64 0] 84)).heap.size = w.heap.size + 1 := by simp
  have h2 := BlkW.new64 (w.alloc (.cells #[.int .u64 0, .int .u64 0, .int .u64 0, .int .u64 0, .int .u64 0, .int .u64 0, .int .u64 0, .int .u64 0, .int .u64 0] 84)) 84 (List.replicate 9 0) (zeros_all 9)
  rw [e1] at h2
  exact ⟨(BlkW.new64 w 84 (List.replicate 9 0) (zeros_all 9)).alloc _, h2⟩
theorem row_val {l ws : List Nat} {n : Nat} (hl : l.length = n) (hn : n ≤ 9) (hw : ws.length = 9) (h : ∀ j, ws.getD j 0 = if j < n then l.getD j 0 else 0) : val 4294967296 ws = val 4294967296 l := by
  rw [← pv_out _ l 9 (by omega)]
  unfold val
  rw [hw]
  refine pv_congr _ _ _ 9 fun i _ => ?_
  rw [h i]
  split
  · rfl
  · rw [getD_out l i (by omega)]

set_option maxRecDepth 20000 in
set_option maxHeartbeats 4000000 in
theorem rowOf_c (A : Option Addr) (n c : Nat) (l : List Nat) (w : World) (hr : Rd w w.heap.size A n l) (dl : D32 l) (hn : n ≤ 9) :
    Calls Tryd.prog 60 #[.slice A n c] w fun e w' => ∃ l', e = .returned (.agg (cellsOf64 l').toArray) ∧ l'.length = 9 ∧ D32 l' ∧ val 4294967296 l' = val 4294967296 l ∧ Below w.heap.size w w' := by
  have T := hid (zz9 w)
  go_enter Tryd.func60, Tryd.ntmps60
  go_wp2
  go_loopw [4] (fun i wr => ∃ k : Nat, k ≤ n ∧ i = .int .i64 k ∧ RoRel w l wr k) (fun i _ => n - (intOf i).toNat)
  case atStart =>
    obtain ⟨t1, t2⟩ := T.out
    refine ⟨0, by omega, rfl, List.replicate 9 0, by simp, fun x hx => by have := List.eq_of_mem_replicate hx; omega, t1, t2, by go_grown, fun j => ?_⟩
    rw [List.getD_eq_getElem?_getD, List.getElem?_replicate]; split <;> rfl
  case round =>
    obtain ⟨k, hk, rfl, ws, hl, dw, hR, hA, hbl, hj⟩ := hrel
    clear T
    by_cases hlt : k < n
    · obtain ⟨b, off, rfl, hb, hc⟩ := (hr.below hbl (Nat.le_refl _)).at_ hlt
      have ca := hA.cell (i := k) (by omega)
      have fz := hA.frozen k
      have k0 : (0 : Int) ≤ (k : Int) := by omega
      have k1 : (k : Int) < (n : Int) := by omega
      have k2 : (k : Int) < 9 := by omega
      have HL := hid hl
      have HJ := hid hj
      clear hl hj
      go_wp2
      go_roundw
      case rel =>
        have hx := getD_lt _ (by decide) l dl k
        refine ⟨k + 1, by omega, by go_num, ws.set k (l.getD k 0), by rw [List.length_set]; exact HL.out, d32_set dw _ _ hx, hR.otherC (by omega), hA.setI k _ _ (by omega) rfl, hbl.setCell (by show w.heap.size ≤ w.heap.size + 1; omega) _, fun j => ?_⟩
        by_cases hjk : j = k
        · subst hjk
          rw [getD_set_eq _ _ _ (by rw [HL.out]; omega), if_pos (by omega)]
        · rw [getD_set_ne _ _ _ _ (by omega), HJ.out j]
          by_cases h1 : j < k
          · rw [if_pos h1, if_pos (by omega)]
          · rw [if_neg h1, if_neg (by omega)]
      case measure => simp [intOf]; omega
    · have : k = n := by omega
      subst this
      have HV := hid (row_val hr.len hn hl hj)
      have hd : decide ((k : Int) < (k : Int)) = false := by simp
      have hlen : (cellsOf64 ws).length = 9 := by simp [cellsOf64, hl]
      have hst := store64 (w.heap.size) ws wr (by rw [hl]; exact hR.there)
      have hran := hid (World.rangeAt_setCells_same wr (w.heap.size) 0 (cellsOf64 ws) (by rw [hlen]; exact hR.there))
      have HO := hid hA.range
      have HLE := hid hlen
      have HL := hid hl
      clear hl hA hR hj hr
      go_wp2_with (with_reducible refine wpList_load_mid rfl 84 (.tmp 3) rfl (w.heap.size + 1) 0 rfl (cellsOf64 ws) _ HO.out Tryd.underlying84 rfl (size9.trans (congrArg some HLE.out.symm)) ?_)
      refine bodyPost_ret (results_cell1 Tryd.results60 ⟨w.heap.size, 0, none⟩ _ rfl (run_loadVar_mid _ (w.heap.size) 0 84 (cellsOf64 ws) _ hran.out Tryd.underlying84 rfl (size9.trans (congrArg some HLE.out.symm)))) rfl ?_
      exact ⟨ws, rfl, HL.out, dw, HV.out, below_cells (by omega) _ _ _ hbl⟩
end Go.Proofs.YtjohbepdmnigcaaDoor
