import Derived.Test.YtfonpmahcdmajaaDoorWidA
import Derived.Test.YtfonpmahcdmajaaDoorLMod
import Derived.Test.YtfonpmahcdmajaaDoorLOpsC
/-
  wide.half, ringOf, Group, Exponents, (*Ring).Size: what each call does.
-/
namespace Go.Proofs.YtfonpmahcdmajaaDoor
open Go.RowKit
set_option linter.unusedVariables false

/-- The relation of half's loop: words below k are shifted. -/
def HfRel (w : World) (X : Nat) (wr : World) (k : Nat) : Prop :=
  ∃ ws : List Nat, ws.length = 12 ∧ BlkW wr w.heap.size 24 ws ∧ BlkW wr (w.heap.size + 1) 24 (List.replicate 12 0) ∧ Below w.heap.size w wr ∧
    ∀ j, ws.getD j 0 = if j < k then (ds X).getD j 0 / 2 ^ 1 + ((ds X).getD (j + 1) 0 % 2 ^ 1) * 2 ^ (64 - 1) else (ds X).getD j 0
theorem HfRel.drew {w wr : World} {X k : Nat} (h : HfRel w X wr k) : HfRel w X wr.drew k := by
  obtain ⟨ws, hl, hB, hZ, hb, hj⟩ := h
  exact ⟨ws, hl, ⟨hB.heap, hB.lt⟩, ⟨hZ.heap, hZ.lt⟩, hb.drew, hj⟩
theorem HfRel.step {w wr : World} {X k : Nat} (h : HfRel w X wr k) (hk : k < 12) (v : Int) (hv : v = (((ds X).getD k 0 / 2 ^ 1 + ((ds X).getD (k + 1) 0 % 2 ^ 1) * 2 ^ (64 - 1) : Nat) : Int)) :
    HfRel w X (wr.setCell ⟨w.heap.size, k, none⟩ (.int .u64 v)) (k + 1) := by
  obtain ⟨ws, hl, hB, hZ, hb, hj⟩ := h
  refine ⟨ws.set k ((ds X).getD k 0 / 2 ^ 1 + ((ds X).getD (k + 1) 0 % 2 ^ 1) * 2 ^ (64 - 1)), by simp [hl], hB.setI _ _ _ (dn_lt _ _ 1 (by decide) (getD_lt _ (by decide) (ds X) (ds_lt X) _)) hv, hZ.otherC (by omega), hb.setCell (Nat.le_refl _) _, fun j => ?_⟩
  by_cases hjk : j = k
  · subst hjk
    rw [getD_set_eq _ _ _ (by omega), if_pos (by omega)]
  · rw [getD_set_ne _ _ _ _ (by omega), hj j]
    by_cases hc : j < k
    · rw [if_pos hc, if_pos (by omega)]
    · rw [if_neg hc, if_neg (by omega)]
/-- When all words are shifted. -/
theorem HfRel.end_ {w wr : World} {X : Nat} (hX : X < W12) (h : HfRel w X wr 12) : BlkW wr w.heap.size 24 (ds (X / 2)) ∧ BlkW wr (w.heap.size + 1) 24 (List.replicate 12 0) ∧ Below w.heap.size w wr := by
  obtain ⟨ws, hl, hB, hZ, hb, hj⟩ := h
  refine ⟨?_, hZ, hb⟩
  have hd := down_pv (ds X) ws 1 (by decide) 11 (fun i hi => by rw [hj i, if_pos (by omega)]) (by
    rw [hj 11, if_pos (by omega), getD_out (ds X) 12 (by rw [ds_len]; omega)]; simp)
  rw [ds_pv X 12 (Nat.le_refl _), Nat.mod_eq_of_lt (show X < 18446744073709551616 ^ 12 from hX), pv_out _ ws 12 (by omega)] at hd
  have e : ds (X / 2) = ws := by
    have : val 18446744073709551616 ws = X / 2 := hd
    rw [← this]; exact ds_of hl hB.lt
  rw [e]; exact hB

set_option maxRecDepth 100000 in
set_option maxHeartbeats 2000000 in
theorem half_c (X : Nat) (w : World) (hX : Hid (X < W12)) :
    Calls Tryd.prog 85 #[num X] w fun e w' => e = .returned (num (X / 2)) ∧ Below w.heap.size w w' := by
  have hlen0 := dsc_len X
  have hA0 := (o12_new w 24 X).alloc (z12 24)
  have hZ0 := z12_new (w.alloc (o12 24 X)) 24
  rw [show (w.alloc (o12 24 X)).heap.size = w.heap.size + 1 by simp] at hZ0
  have hl0 := ((Below.refl w.heap.size w).alloc (Nat.le_refl _) (o12 24 X)).alloc (by simp) (z12 24)
  have R0 : Hid (HfRel w X ((w.alloc (o12 24 X)).alloc (z12 24)) 0) := ⟨ds X, ds_len X, hA0, hZ0, hl0, fun j => by rw [if_neg (by omega)]⟩
  clear hA0 hZ0 hl0
  obtain ⟨Y, hY⟩ : ∃ Y, Y = X / 2 := ⟨_, rfl⟩
  rw [← hY]
  have HY := hid hY
  clear hY
  unfold num
  go_enter Tryd.func85, Tryd.ntmps85
  go_wp2
  clear hlen0
  go_loopw [4] (fun i wr => ∃ k : Nat, k ≤ 11 ∧ i = .int .i64 k ∧ HfRel w X wr k) (fun i _ => 11 - (intOf i).toNat)
  case atStart => exact ⟨0, by omega, rfl, R0.out⟩
  case round =>
    clear R0
    obtain ⟨k, hk, rfl, hrel⟩ := hrel
    obtain ⟨ws, hl, hB1, hZ1, hb1, hj⟩ := id hrel
    by_cases hlt : k < 11
    · have c0 := hB1.cell (i := k) (by omega)
      have c1 := hB1.cell (i := k + 1) (by omega)
      have g0 : at64 ws k = at64 (ds X) k := by unfold at64; rw [hj k, if_neg (by omega)]
      have g1 : at64 ws (k + 1) = at64 (ds X) (k + 1) := by unfold at64; rw [hj (k + 1), if_neg (by omega)]
      rw [g0] at c0
      rw [g1] at c1
      have f0 := hB1.frozen k
      have x0 := at64_nonneg (ds X) k
      have x1 := at64_nonneg (ds X) (k + 1)
      have HST := hid (HfRel.step hrel (by omega) _ (show bits .or .u64 (at64 (ds X) k / 2 ^ 1) (IntKind.u64.wrap (at64 (ds X) (k + 1) * 2 ^ (64 - 1))) = _ by
        exact down_word _ _ 1 (by decide) (getD_lt _ (by decide) (ds X) (ds_lt X) _) (getD_lt _ (by decide) (ds X) (ds_lt X) _)))
      have i0 : (0 : Int) ≤ (k : Int) := by omega
      have i1 : (k : Int) < 12 := by omega
      have i2 : (k : Int) + 1 < 12 := by omega
      have i3 : (0 : Int) ≤ (k : Int) + 1 := by omega
      have i4 : IntKind.i64.wrap ((k : Int) + 1) = (k : Int) + 1 := by rw [IntKind.wrap_i64]; omega
      have i5 : ((k : Int) + 1).toNat = k + 1 := by omega
      clear hl hj g0 g1 hrel
      go_wp2
      go_still_tail 12, (by kernel_rfl)
      change wpList _ _ _ _ _ wr.drew
      clear i4 i5
      go_wp2
      go_roundw
      case rel => exact ⟨k + 1, by omega, by go_num, HST.out.drew⟩
      case measure => simp [intOf]; omega
    · obtain rfl : k = 11 := by omega
      have c0 := hB1.cell (i := 11) (by omega)
      have f0 := hB1.frozen 11
      have g0 : at64 ws 11 = at64 (ds X) 11 := by unfold at64; rw [hj 11, if_neg (by omega)]
      rw [g0] at c0
      have x0 := at64_nonneg (ds X) 11
      have HST := hid (HfRel.step hrel (by omega) (at64 (ds X) 11 / 2) (by
        unfold at64
        rw [getD_out (ds X) (11 + 1) (by rw [ds_len]; omega)]
        omega))
      have E := HfRel.end_ hX.out HST.out
      rw [← HY.out] at E
      obtain ⟨e1, e2, e3⟩ := E
      have hlen := dsc_len Y
      have hst := store64 (w.heap.size + 1) (ds Y) _ (by rw [ds_len]; exact e2.there)
      have hran := hid (World.rangeAt_setCells_same _ (w.heap.size + 1) 0 (cellsOf64 (ds Y)) (by rw [hlen]; exact e2.there))
      have HO := hid e1.range
      have HE := hid hlen
      have HB := hid e3
      clear hl hj g0 HST e1 e2 e3 hB1 hZ1 hrel hb1
      go_wp2_with (with_reducible refine wpList_load_mid rfl 24 (.tmp 1) rfl w.heap.size 0 rfl (cellsOf64 (ds Y)) _ HO.out Tryd.underlying24 rfl (sizeNb.trans (congrArg some HE.out.symm)) ?_)
      refine bodyPost_ret (results_cell1 Tryd.results85 ⟨w.heap.size + 1, 0, none⟩ _ rfl (run_loadVar_mid _ (w.heap.size + 1) 0 24 (cellsOf64 (ds Y)) _ hran.out Tryd.underlying24 rfl (sizeNb.trans (congrArg some HE.out.symm)))) rfl ?_
      exact ⟨rfl, below_cells (by omega) _ _ _ HB.out⟩
end Go.Proofs.YtfonpmahcdmajaaDoor
/-
  wide.ringOf, Group, Exponents, (*Ring).Size, avouchlaw04.ring: what each call does.
-/
namespace Go.Proofs.YtfonpmahcdmajaaDoor
open Go.RowKit
set_option linter.unusedVariables false

/-- At block b lies a ring of the number X. -/
structure RingP (w : World) (b X : Nat) : Prop where
  ex : ∃ p, w.cell? ⟨b, 0, none⟩ = some (.pointer (some ⟨p, 0, none⟩)) ∧ b < w.heap.size ∧ ModP w p (ds X)
theorem RingP.up {w w' : World} {b X : Nat} (h : RingP w b X) (hb : Below w.heap.size w w') : RingP w' b X := by
  obtain ⟨p, h1, h2, h3⟩ := h
  exact ⟨p, (hb.cell (p := ⟨b, 0, none⟩) h2).trans h1, Nat.lt_of_lt_of_le h2 hb.size, h3.keep hb h3.lt⟩
/-- What the program's table holds. -/
structure GlobW (w : World) : Prop where
  size : 1 < w.heap.size
  range : w.rangeAt 1 0 (cellsOf64 (ds bigP))
theorem GlobW.up {w w' : World} (h : GlobW w) (hb : Below w.heap.size w w') : GlobW w' :=
  ⟨Nat.lt_of_lt_of_le h.size hb.size, fun j v hv => (hb.cell (p := ⟨1, 0 + j, none⟩) h.size).trans (h.range j v hv)⟩
theorem rtP : Rt (ds bigP) := by unfold Rt; decide
theorem rtQ : Rt (ds bigQ) := by unfold Rt; decide
theorem half_P : bigP / 2 = bigQ := by decide

set_option maxRecDepth 20000 in
set_option maxHeartbeats 1000000 in
theorem ringOf_c (X : Nat) (w : World) (hr : Hid (Rt (ds X))) :
    Calls Tryd.prog 82 #[num X] w fun e w' => ∃ b, e = .returned (.pointer (some ⟨b, 0, none⟩)) ∧ RingP w' b X ∧ Below w.heap.size w w' := by
  have hlen0 := dsc_len X
  have hA0 := o12_new w 24 X
  have hl0 := (Below.refl w.heap.size w).alloc (Nat.le_refl _) (o12 24 X)
  have ra := hA0.rd0 hA0.size (ds_len X)
  have HL := hid hl0
  clear hA0 hl0
  unfold num
  go_enter Tryd.func82, Tryd.ntmps82
  go_wp2_with fail
  refine (new_some _ 12 12 (ds X) _ ra hr.out).mono ?_
  rintro e w1 ⟨p, rfl, hp, hM, hb1⟩
  have hl1 := HL.out.trans (Below.mono (B' := w.heap.size) hb1 HL.out.size)
  have R : Hid (RingP (w1.alloc (.cells #[.pointer (some ⟨p, 0, none⟩)] 78)) w1.heap.size X) := by
    refine ⟨p, ?_, by simp, hM.keep ((Below.refl _ _).alloc (Nat.le_refl _) _) hM.lt⟩
    rw [cell_of_row _ w1.heap.size 0 _ _ (0, 0) (heap_alloc_new w1 _)]
    rfl
  clear ra hb1 hM HL hlen0
  go_wp2
  go_ret
  exact ⟨_, rfl, R.out, hl1.alloc hl1.size _⟩

theorem load_prime {w : World} (hG : GlobW w) : Hid (w.rangeAt 1 0 (cellsOf64 (ds bigP))) := hid hG.range
set_option maxRecDepth 20000 in
set_option maxHeartbeats 1000000 in
theorem group_c (w : World) (hG : GlobW w) :
    Calls Tryd.prog 47 #[] w fun e w' => ∃ b, e = .returned (.pointer (some ⟨b, 0, none⟩)) ∧ RingP w' b bigP ∧ Below w.heap.size w w' := by
  have HR := hid hG.range
  have HE := hid (dsc_len bigP)
  obtain ⟨X, hX⟩ : ∃ X, X = bigP := ⟨_, rfl⟩
  rw [← hX] at HR HE ⊢
  have HRT : Hid (Rt (ds X)) := by rw [hX]; exact rtP
  clear hX hG
  go_enter Tryd.func47, Tryd.ntmps47
  go_wp2_with (with_reducible refine wpList_load_mid rfl 24 (.global 1) rfl 1 0 rfl (cellsOf64 (ds X)) _ HR.out Tryd.underlying24 rfl (sizeNb.trans (congrArg some HE.out.symm)) ?_)
  refine (ringOf_c X w HRT).mono ?_
  rintro e w1 ⟨b, rfl, hR, hb⟩
  have R := hid hR
  clear hR HR HE HRT
  go_wp2
  go_ret
  exact ⟨_, rfl, R.out, hb⟩
set_option maxRecDepth 20000 in
set_option maxHeartbeats 1000000 in
theorem exponents_c (w : World) (hG : GlobW w) :
    Calls Tryd.prog 50 #[] w fun e w' => ∃ b, e = .returned (.pointer (some ⟨b, 0, none⟩)) ∧ RingP w' b bigQ ∧ Below w.heap.size w w' := by
  have HR := hid hG.range
  have HE := hid (dsc_len bigP)
  have HH := hid half_P
  have HLT := hid bigP_lt
  obtain ⟨X, hX⟩ : ∃ X, X = bigP := ⟨_, rfl⟩
  rw [← hX] at HR HE HH HLT
  obtain ⟨Y, hY⟩ : ∃ Y, Y = bigQ := ⟨_, rfl⟩
  rw [← hY] at HH ⊢
  have HRT : Hid (Rt (ds Y)) := by rw [hY]; exact rtQ
  clear hX hG hY
  go_enter Tryd.func50, Tryd.ntmps50
  go_wp2_with (with_reducible refine wpList_load_mid rfl 24 (.global 1) rfl 1 0 rfl (cellsOf64 (ds X)) _ HR.out Tryd.underlying24 rfl (sizeNb.trans (congrArg some HE.out.symm)) ?_)
  refine (half_c X w HLT).mono ?_
  rintro e w1 ⟨rfl, hb1⟩
  rw [HH.out]
  go_wp2_with fail
  refine (ringOf_c Y w1 HRT).mono ?_
  rintro e w2 ⟨b, rfl, hR, hb2⟩
  have R := hid hR
  clear hR HR HE HRT
  go_wp2
  go_ret
  exact ⟨_, rfl, R.out, bchain hb1 hb2⟩

/-- P or q. -/
def mOf (g : Bool) : Nat := if g then bigP else bigQ
theorem mOf_lt (g : Bool) : mOf g < W12 := by cases g <;> decide
theorem mOf_pos (g : Bool) : 0 < mOf g := by cases g <;> decide
theorem ring_c (g : Bool) (w : World) (hG : GlobW w) :
    Calls Tryd.prog 10 #[.bool g] w fun e w' => ∃ b, e = .returned (.pointer (some ⟨b, 0, none⟩)) ∧ RingP w' b (mOf g) ∧ Below w.heap.size w w' := by
  cases g
  · go_enter Tryd.func10, Tryd.ntmps10
    go_wp2_with fail
    refine (exponents_c w hG).mono ?_
    rintro e w1 ⟨b, rfl, hR, hb⟩
    have R := hid hR
    clear hR
    go_wp2
    go_ret
    exact ⟨_, rfl, R.out, hb⟩
  · go_enter Tryd.func10, Tryd.ntmps10
    go_wp2_with fail
    refine (group_c w hG).mono ?_
    rintro e w1 ⟨b, rfl, hR, hb⟩
    have R := hid hR
    clear hR
    go_wp2
    go_ret
    exact ⟨_, rfl, R.out, hb⟩

/-- What is stored into a result's place, and read from it. -/
theorem num_stored {w : World} {b X : Nat} (h : BlkW w b 24 (List.replicate 12 0)) :
    (storeCells ⟨b, 0, none⟩ (cellsOf64 (ds X))).run Tryd.prog w = .ok () (w.setCells b 0 (cellsOf64 (ds X))) ∧ Hid ((w.setCells b 0 (cellsOf64 (ds X))).rangeAt b 0 (cellsOf64 (ds X))) := by
  have hlen := dsc_len X
  exact ⟨store64 b (ds X) w (by rw [ds_len]; exact h.there), World.rangeAt_setCells_same w b 0 (cellsOf64 (ds X)) (by rw [hlen]; exact h.there)⟩
theorem num_result {fn : Func} {p : Tmp} {w : World} {tmps : Array Value} {b X : Nat} (h : fn.results = #[.cell p 24]) (hp : tmps.getD p undef = .pointer (some ⟨b, 0, none⟩)) (hr : Hid (w.rangeAt b 0 (cellsOf64 (ds X)))) :
    (results fn tmps).run Tryd.prog w = .ok (num X) w :=
  results_cell1 h ⟨b, 0, none⟩ _ hp (run_loadVar_mid _ b 0 24 (cellsOf64 (ds X)) _ hr.out Tryd.underlying24 rfl (sizeNb.trans (congrArg some (dsc_len X).symm)))

set_option maxRecDepth 20000 in
set_option maxHeartbeats 1000000 in
theorem size_c (b X : Nat) (w : World) (hR : RingP w b X) (hX : Hid (X < W12)) :
    Calls Tryd.prog 11 #[.pointer (some ⟨b, 0, none⟩)] w fun e w' => e = .returned (num X) ∧ Below w.heap.size w w' := by
  have hl0 := (Below.refl w.heap.size w).alloc (Nat.le_refl _) (z12 24)
  obtain ⟨p, h1, h2, h3⟩ := hR.up hl0
  have hZ0 := z12_new w 24
  have HL := hid hl0
  have HZ := hid hZ0
  unfold z12 at h1
  have HB := hid hR
  clear hl0 hZ0 hR
  go_enter Tryd.func11, Tryd.ntmps11
  go_wp2_with fail
  refine (mwords_c p (ds X) _ h3).mono ?_
  rintro e w1 ⟨A, c, l, rfl, hc, rl, vl, hb1⟩
  rw [ds_len] at rl hc ⊢
  rw [ds_val X hX.out] at vl
  have HV := hid vl
  clear vl
  go_wp2_with fail
  refine (numberOf_c A 12 c l w1 rl (by decide)).mono ?_
  rintro e w2 ⟨rfl, hb2⟩
  rw [HV.out]
  have hl1 := HL.out.trans (Below.mono (B' := w.heap.size) hb1 HL.out.size)
  have hl2 := hl1.trans (hb2.mono hl1.size)
  have hZ2 := (HZ.out.below hb1 HZ.out.size).below hb2 (Nat.lt_of_lt_of_le HZ.out.size hb1.size)
  obtain ⟨hst, HR⟩ := num_stored (X := X) hZ2
  have hlen := dsc_len X
  clear hb1 hb2 rl h1 h2 h3 hZ2 HZ HL hl1
  unfold num
  go_wp2
  refine bodyPost_ret (num_result Tryd.results11 rfl HR) rfl ?_
  exact ⟨rfl, below_cells (Nat.le_refl _) _ _ _ hl2⟩
end Go.Proofs.YtfonpmahcdmajaaDoor
