/-
  wide.half, ringOf, Group, Exponents, (*Ring).Size: what each call does.
-/
import Derived.Test.YtfonpmahcdmajaaDoorWidA
import Derived.Test.YtfonpmahcdmajaaDoorLMod
import Derived.Test.YtfonpmahcdmajaaDoorLOpsC
namespace Go.Proofs.YtfonpmahcdmajaaDoor
open Go.RowKit
set_option linter.unusedVariables false

/-- The relation of half's loop: words below k are shifted. -/
def HfRel (w : World) (X : Nat) (wr : World) (k : Nat) : Prop :=
  ∃ ws : List Nat, ws.length = 12 ∧ BlkW wr w.heap.size 24 ws ∧ BlkW wr (w.heap.size + 1) 24 (List.replicate 12 0) ∧ Below w.heap.size w wr ∧
    ∀ j, ws.getD j 0 = if j < k then (ds X).getD j 0 / 2 ^ 1 + ((ds X).getD (j + 1) 0 % 2 ^ 1) * 2 ^ (64 - 1) else (ds X).getD j 0
theorem HfRel.drew {w wr : World} {X k : Nat} (h : HfRel w X wr k) : HfRel w X wr.drew k := by
  obtain ⟨ws, hl, hB, hZ, hb, hj⟩ := h
  exact ⟨ws, hl, ⟨hB.heap, hB.lt⟩, ⟨hZ.heap, hZ.lt⟩, hb.drew, hj⟩
theorem HfRel.step {w wr : World} {X k : Nat} (h : HfRel w X wr k) (hk : k < 12) (v : Int) (hv : v = (((ds X).getD k 0 / 2 ^ 1 + ((ds X).getD (k + 1) 0 % 2 ^ 1) * 2 ^ (64 - 1) : Nat) : Int)) :
    HfRel w X (wr.setCell ⟨w.heap.size, k, none⟩ (.int .u64 v)) (k + 1) := by
  obtain ⟨ws, hl, hB, hZ, hb, hj⟩ := h
  refine ⟨ws.set k ((ds X).getD k 0 / 2 ^ 1 + ((ds X).getD (k + 1) 0 % 2 ^ 1) * 2 ^ (64 - 1)), by simp [hl], hB.setI _ _ _ (dn_lt _ _ 1 (by decide) (getD_lt _ (by decide) (ds X) (ds_lt X) _)) hv, hZ.otherC (by omega), hb.setCell (Nat.le_refl _) _, fun j => ?_⟩
  by_cases hjk : j = k
  · subst hjk
    rw [getD_set_eq _ _ _ (by omega), if_pos (by omega)]
  · rw [getD_set_ne _ _ _ _ (by omega), hj j]
    by_cases hc : j < k
    · rw [if_pos hc, if_pos (by omega)]
    · rw [if_neg hc, if_neg (by omega)]
/-- When all words are shifted. -/
theorem HfRel.end_ {w wr : World} {X : Nat} (hX : X < W12) (h : HfRel w X wr 12) : BlkW wr w.heap.size 24 (ds (X / 2)) ∧ BlkW wr (w.heap.size + 1) 24 (List.replicate 12 0) ∧ Below w.heap.size w wr := by
  obtain ⟨ws, hl, hB, hZ, hb, hj⟩ := h
  refine ⟨?_, hZ, hb⟩
  have hd := down_pv (ds X) ws 1 (by decide) 11 (fun i hi => by rw [hj i, if_pos (by omega)]) (by
    rw [hj 11, if_pos (by omega), getD_out (ds X) 12 (by rw [ds_len]; omega)]; simp)
  rw [ds_pv X 12 (Nat.le_refl _), Nat.mod_eq_of_lt (show X < 18446744073709551616 ^ 12 from hX), pv_out _ ws 12 (by omega)] at hd
  have e : ds (X / 2) = ws := by
    have : val 18446744073709551616 ws = X / 2 := hd
    rw [← this]; exact ds_of hl hB.lt
  rw [e]; exact hB

set_option maxRecDepth 100000 in
set_option maxHeartbeats 2000000 in
theorem half_c (X : Nat) (w : World) (hX : Hid (X < W12)) :
    Calls Tryd.prog 85 #[num X] w fun e w' => e = .returned (num (X / 2)) ∧ Below w.heap.size w w' := by
  have hlen0 := dsc_len X
  have hA0 := (o12_new w 24 X).alloc (z12 24)
  have hZ0 := z12_new (w.alloc (o12 24 X)) 24
  rw [show (w.alloc (o12 24 X)).heap.size = w.heap.size + 1 by simp] at hZ0
  have hl0 := ((Below.refl w.heap.size w).alloc (Nat.le_refl _) (o12 24 X)).alloc (by simp) (z12 24)
  have R0 : Hid (HfRel w X ((w.alloc (o12 24 X)).alloc (z12 24)) 0) := ⟨ds X, ds_len X, hA0, hZ0, hl0, fun j => by rw [if_neg (by omega)]⟩
  clear hA0 hZ0 hl0
  obtain ⟨Y, hY⟩ : ∃ Y, Y = X / 2 := ⟨_, rfl⟩
  rw [← hY]
  have HY := hid hY
  clear hY
  unfold num
  go_enter Tryd.func85, Tryd.ntmps85
  go_wp2
  clear hlen0
  go_loopw [4] (fun i wr => ∃ k : Nat, k ≤ 11 ∧ i = .int .i64 k ∧ HfRel w X wr k) (fun i _ => 11 - (intOf i).toNat)
  case atStart => exact ⟨0, by omega, rfl, R0.out⟩
  case round =>
    clear R0
    obtain ⟨k, hk, rfl, hrel⟩ := hrel
    obtain ⟨ws, hl, hB1, hZ1, hb1, hj⟩ := id hrel
    by_cases hlt : k < 11
    · have c0 := hB1.cell (i := k) (by omega)
      have c1 := hB1.cell (i := k + 1) (by omega)
      have g0 : at64 ws k = at64 (ds X) k := by unfold at64; rw [hj k, if_neg (by omega)]
      have g1 : at64 ws (k + 1) = at64 (ds X) (k + 1) := by unfold at64; rw [hj (k + 1), if_neg (by omega)]
      rw [g0] at c0
      rw [g1] at c1
      have f0 := hB1.frozen k
      have x0 := at64_nonneg (ds X) k
      have x1 := at64_nonneg (ds X) (k + 1)
      have HST := hid (HfRel.step hrel (by omega) _ (show bits .or .u64 (at64 (ds X) k / 2 ^ 1) (IntKind.u64.wrap (at64 (ds X) (k + 1) * 2 ^ (64 - 1))) = _ by
        exact down_word _ _ 1 (by decide) (getD_lt _ (by decide) (ds X) (ds_lt X) _) (getD_lt _ (by decide) (ds X) (ds_lt X) _)))
      have i0 : (0 : Int) ≤ (k : Int) := by omega
      have i1 : (k : Int) < 12 := by omega
      have i2 : (k : Int) + 1 < 12 := by omega
      have i3 : (0 : Int) ≤ (k : Int) + 1 := by omega
      have i4 : IntKind.i64.wrap ((k : Int) + 1) = (k : Int) + 1 := by rw [IntKind.wrap_i64]; omega
      have i5 : ((k : Int) + 1).toNat = k + 1 := by omega
      clear hl hj g0 g1 hrel
      go_wp2
      go_still_tail 12, (by kernel_rfl)
      change wpList _ _ _ _ _ wr.drew
      clear i4 i5
      go_wp2
      go_roundw
      case rel => exact ⟨k + 1, by omega, by go_num, HST.out.drew⟩
      case measure => simp [intOf]; omega
    · obtain rfl : k = 11 := by omega
      have c0 := hB1.cell (i := 11) (by omega)
      have f0 := hB1.frozen 11
      have g0 : at64 ws 11 = at64 (ds X) 11 := by unfold at64; rw [hj 11, if_neg (by omega)]
      rw [g0] at c0
      have x0 := at64_nonneg (ds X) 11
      have HST := hid (HfRel.step hrel (by omega) (at64 (ds X) 11 / 2) (by
        unfold at64
        rw [getD_out (ds X) (11 + 1) (by rw [ds_len]; omega)]
        omega))
      have E := HfRel.end_ hX.out HST.out
      rw [← HY.out] at E
      obtain ⟨e1, e2, e3⟩ := E
      have hlen := dsc_len Y
      have hst := store64 (w.heap.size + 1) (ds Y) _ (by rw [ds_len]; exact e2.there)
      have hran := hid (World.rangeAt_setCells_same _ (w.heap.size + 1) 0 (cellsOf64 (ds Y)) (by rw [hlen]; exact e2.there))
      have HO := hid e1.range
      have HE := hid hlen
      have HB := hid e3
      clear hl hj g0 HST e1 e2 e3 hB1 hZ1 hrel hb1
      go_wp2_with (with_reducible refine wpList_load_mid rfl 24 (.tmp 1) rfl w.heap.size 0 rfl (cellsOf64 (ds Y)) _ HO.out Tryd.underlying24 rfl (sizeNb.trans (congrArg some HE.out.symm)) ?_)
      refine bodyPost_ret (results_cell1 Tryd.results85 ⟨w.heap.size + 1, 0, none⟩ _ rfl (run_loadVar_mid _ (w.heap.size + 1) 0 24 (cellsOf64 (ds Y)) _ hran.out Tryd.underlying24 rfl (sizeNb.trans (congrArg some HE.out.symm)))) rfl ?_
      exact ⟨rfl, below_cells (by omega) _ _ _ HB.out⟩
end Go.Proofs.YtfonpmahcdmajaaDoor
