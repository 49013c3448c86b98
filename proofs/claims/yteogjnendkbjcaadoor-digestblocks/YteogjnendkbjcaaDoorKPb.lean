/-
  keccak.State.columns, theta: what each call does.
-/
import Derived.Test.YteogjnendkbjcaaDoorKPa
namespace Go.Proofs.YteogjnendkbjcaaDoor
open Go.RowKit
set_option linter.unusedVariables false

theorem sizeSt : (Tryd.prog.info? 31).map (·.size) = some 25 := by kernel_rfl
theorem size5 : (Tryd.prog.info? 66).map (·.size) = some 5 := by kernel_rfl
def z5 (t : TypeId) : Obj := .cells #[.int .u64 0, .int .u64 0, .int .u64 0, .int .u64 0, .int .u64 0] t
theorem z5_new (w : World) (t : TypeId) : BlkW (w.alloc (z5 t)) w.heap.size t (List.replicate 5 0) := BlkW.new64 w t (List.replicate 5 0) (zeros_all 5)

theorem sz64 (w : World) : (sizeOf 29).run Tryd.prog w = .ok 1 w := by kernel_rfl
/-- A word of a row that is a value. -/
theorem run_index_words {P : Program} (w : World) (t e : TypeId) (n : Nat) (ht : P.underlying t = some (.array n e)) (he : P.underlying e = some (.int .u64)) (hsz : ∀ w, (sizeOf e).run P w = .ok 1 w)
    (l : List Nat) (hl : l.length = n) (k : Nat) (hk : k < n) : (Instr.index t (.agg (cellsOf64 l).toArray) (.int .i64 (k : Int))).run P w = .ok (.int .u64 (at64 l k)) w := by
  have h1 : (0 : Int) ≤ (k : Int) ∧ (k : Int) < (n : Int) := by omega
  have px : (part e (cellsOf64 l).toArray (k * 1)).run P w = .ok (.int .u64 (at64 l k)) w := by
    simp [part, isAgg, cellsOf64, run_underlying he, at64, List.getD, List.getElem?_eq_getElem (show k < l.length by omega)]
  unfold Instr.index
  simp only [asIntOf, Sem.run_bind, Sem.run_pure, Result.andThen_ok, run_underlying ht, hsz, h1, and_self, if_true, Int.toNat_natCast, px]
theorem index_st (w : World) {l : List Nat} (hl : Lanes l) {k : Nat} (hk : k < 25) : (Instr.index 31 (.agg (cellsOf64 l).toArray) (.int .i64 (k : Int))).run Tryd.prog w = .ok (.int .u64 (at64 l k)) w :=
  run_index_words w _ 29 25 Tryd.underlying31 Tryd.underlying29 sz64 l hl.len k hk

/-- The relation of columns' loop. -/
def CoRel (w : World) (l : List Nat) (wr : World) (k : Nat) : Prop :=
  ∃ ws : List Nat, ws.length = 5 ∧ BlkW wr (w.heap.size + 1 + 1) 66 ws ∧ BlkW wr (w.heap.size + 1) 66 (List.replicate 5 0) ∧ Below w.heap.size w wr ∧ ∀ x, x < 5 → ws.getD x 0 = lcolk l k x
theorem CoRel.step {w wr : World} {l : List Nat} {k x : Nat} (hl : Lanes l) (h : CoRel w l wr k) (hx : x = k % 5) (v : Int) (hv : v = ((lcolk l k x ^^^ l.getD k 0 : Nat) : Int)) :
    CoRel w l (wr.setCell ⟨w.heap.size + 1 + 1, x, none⟩ (.int .u64 v)) (k + 1) := by
  obtain ⟨ws, h1, hB, hZ, hb, hj⟩ := h
  subst hv
  refine ⟨ws.set x (lcolk l k x ^^^ l.getD k 0), by simp [h1], hB.set _ _ (xor_lt (lcolk_lt hl _ _) (hl.at_ _)), hZ.otherC (by omega), hb.setCell (by show w.heap.size ≤ w.heap.size + 1 + 1; omega) _, fun y hy => ?_⟩
  by_cases hyx : y = x
  · subst hyx
    rw [getD_set_eq _ _ _ (by omega)]
    unfold lcolk
    rw [if_pos (by omega)]
    cases k <;> rfl
  · rw [getD_set_ne _ _ _ _ (by omega), hj y hy]
    show _ = (if k % 5 = y then _ else lcolk l k y)
    rw [if_neg (by omega)]
theorem CoRel.end_ {w wr : World} {l : List Nat} (h : CoRel w l wr 25) : BlkW wr (w.heap.size + 1 + 1) 66 (lcols l) ∧ BlkW wr (w.heap.size + 1) 66 (List.replicate 5 0) ∧ Below w.heap.size w wr := by
  obtain ⟨ws, h1, hB, hZ, hb, hj⟩ := h
  have e : ws = lcols l := same_getD (by rw [h1]; rfl) fun i hi => by rw [hj i (by omega), lcolk_end l (by omega), lcols_at l (by omega)]
  rw [← e]
  exact ⟨hB, hZ, hb⟩

set_option maxRecDepth 20000 in
set_option maxHeartbeats 1000000 in
theorem columns_c (l : List Nat) (w : World) (hl : Lanes l) :
    Calls Tryd.prog 38 #[st l] w fun e w' => e = .returned (.agg (cellsOf64 (lcols l)).toArray) ∧ Below w.heap.size w w' := by
  have e1 : (w.alloc (oW 31 l)).heap.size = w.heap.size + 1 := by simp
  have e2 : ((w.alloc (oW 31 l)).alloc (z5 66)).heap.size = w.heap.size + 1 + 1 := by simp
  have hA0 := ((oW_new w 31 l hl.all).alloc (z5 66)).alloc (z5 66)
  have hZ0 := (z5_new (w.alloc (oW 31 l)) 66).alloc (z5 66)
  have hO0 := z5_new ((w.alloc (oW 31 l)).alloc (z5 66)) 66
  rw [e1] at hZ0
  rw [e2] at hO0
  have hl0 := (((Below.refl w.heap.size w).alloc (Nat.le_refl _) (oW 31 l)).alloc (by simp) (z5 66)).alloc (by simp; omega) (z5 66)
  have R0 : Hid (CoRel w l (((w.alloc (oW 31 l)).alloc (z5 66)).alloc (z5 66)) 0) := ⟨List.replicate 5 0, rfl, hO0, hZ0, hl0, fun x hx => by
    match x, hx with
    | 0, _ => rfl
    | 1, _ => rfl
    | 2, _ => rfl
    | 3, _ => rfl
    | 4, _ => rfl⟩
  have HO := hid hA0.range
  have HE := hid (show (cellsOf64 l).length = 25 by rw [c64_len, hl.len])
  have HL := hid hl
  have hlen : (cellsOf64 l).length = 25 := HE
  obtain ⟨cs, hcs⟩ : ∃ cs, cs = lcols l := ⟨_, rfl⟩
  rw [← hcs]
  have HCS := hid hcs
  clear hA0 hZ0 hO0 hl0 hl hcs e1 e2
  unfold oW z5 at HO R0
  unfold st
  go_enter Tryd.func38, Tryd.ntmps38
  go_wp2_with (with_reducible refine wpList_load_mid rfl 31 (.tmp 1) rfl w.heap.size 0 rfl (cellsOf64 l) _ HO.out Tryd.underlying31 rfl (sizeSt.trans (congrArg some HE.out.symm)) ?_)
  clear HO
  generalize (((w.alloc _).alloc _).alloc _) = w0 at *
  go_loopw [7] (fun i wr => ∃ k : Nat, k ≤ 25 ∧ i = .int .i64 k ∧ CoRel w l wr k) (fun i _ => 25 - (intOf i).toNat)
  case atStart => exact ⟨0, by omega, rfl, R0.out⟩
  case round =>
    clear R0
    obtain ⟨k, hk, rfl, hrel⟩ := hrel
    by_cases hlt : k < 25
    · obtain ⟨x, hx⟩ : ∃ x, x = k % 5 := ⟨_, rfl⟩
      have hx5 : x < 5 := by omega
      obtain ⟨ws, h1, hB1, hZ1, hb1, hj⟩ := id hrel
      have c0 := hB1.cell (i := x) (by omega)
      have f0 := hB1.frozen x
      have g0 : at64 ws x = ((lcolk l k x : Nat) : Int) := by unfold at64; rw [hj x hx5]
      rw [g0] at c0
      have i1 : (k : Int).tmod 5 = (x : Int) := by rw [hx, Int.tmod_eq_emod_of_nonneg (by omega)]; rfl
      have i2 : (k : Int) < 25 := by omega
      have HST := hid (CoRel.step HL.out hrel hx (bits .xor .u64 ((lcolk l k x : Nat) : Int) (at64 l k)) (by
        unfold at64; rw [bits_xor_u64_nat _ _ (lcolk_lt HL.out _ _) (HL.out.at_ _)]))
      have hix := index_st wr HL.out hlt
      clear hrel h1 hj hx g0 hB1 hZ1
      go_wp2
      trace_state
      go_roundw
      case rel => exact ⟨k + 1, by omega, by go_num, HST.out⟩
      case measure => simp [intOf]; omega
    · obtain rfl : k = 25 := by omega
      obtain ⟨e1, e2, e3⟩ := hrel.end_
      rw [← HCS.out] at e1
      have hc5 : cs.length = 5 := by rw [HCS.out]; rfl
      have hlen5 : (cellsOf64 cs).length = 5 := by rw [c64_len, hc5]
      have hst := store64 (w.heap.size + 1) cs _ (by rw [hc5]; exact e2.there)
      have hran := hid (World.rangeAt_setCells_same _ (w.heap.size + 1) 0 (cellsOf64 cs) (by rw [hlen5]; exact e2.there))
      have HO := hid e1.range
      have HE5 := hid hlen5
      have HB := hid e3
      clear e1 e2 e3 hrel hc5
      go_wp2_with (with_reducible refine wpList_load_mid rfl 66 (.tmp 3) rfl (w.heap.size + 1 + 1) 0 rfl (cellsOf64 cs) _ HO.out Tryd.underlying66 rfl (size5.trans (congrArg some HE5.out.symm)) ?_)
      refine bodyPost_ret (results_cell1 Tryd.results38 ⟨w.heap.size + 1, 0, none⟩ _ rfl (run_loadVar_mid _ (w.heap.size + 1) 0 66 (cellsOf64 cs) _ hran.out Tryd.underlying66 rfl (size5.trans (congrArg some HE5.out.symm)))) rfl ?_
      exact ⟨rfl, below_cells (by omega) _ _ _ HB.out⟩
end Go.Proofs.YteogjnendkbjcaaDoor
