import Derived.Test.YtfonpmahcdmajaaDoorAgg
import Derived.StillTailTactics
import Derived.Test.YtfonpmahcdmajaaDoorLMod
import Derived.Test.YtfonpmahcdmajaaDoorLOpsC
/-
  wide's numbers as values (num): twelve words; wide.numberOf and wide.Write: what each call does.
-/
namespace Go.Proofs.YtfonpmahcdmajaaDoor
open Go.RowKit
set_option linter.unusedVariables false

/-- The great primes. -/
def bigP : Nat := 1552518092300708935130918131258481755631334049434514313202351194902966239949102107258669453876591642442910007680288864229150803718918046342632727613031282983744380820890196288509170691316593175367469551763119843371637221007210577919
def bigQ : Nat := 776259046150354467565459065629240877815667024717257156601175597451483119974551053629334726938295821221455003840144432114575401859459023171316363806515641491872190410445098144254585345658296587683734775881559921685818610503605288959
/-- The twelve words of a number, and the value that they are. -/
def ds (X : Nat) : List Nat := (List.range 12).map fun i => X / 18446744073709551616 ^ i % 18446744073709551616
def num (X : Nat) : Value := .agg (cellsOf64 (ds X)).toArray
/-- The number behind a number's words. -/
def W12 : Nat := 18446744073709551616 ^ 12

theorem ds_len (X : Nat) : (ds X).length = 12 := by simp [ds]
theorem ds_lt (X : Nat) : allLt (ds X) := by
  intro x hx
  simp only [ds, List.mem_map] at hx
  obtain ⟨i, _, rfl⟩ := hx
  exact Nat.mod_lt _ (by decide)
theorem ds_getD (X i : Nat) (h : i < 12) : (ds X).getD i 0 = X / 18446744073709551616 ^ i % 18446744073709551616 := by
  simp [ds, List.getD_eq_getElem?_getD, h]
theorem ds_pv (X : Nat) : ∀ k, k ≤ 12 → pv 18446744073709551616 (ds X) k = X % 18446744073709551616 ^ k
  | 0, _ => by simp [pv, Nat.mod_one]
  | k + 1, h => by
    rw [pv_succ, ds_pv X k (by omega), ds_getD X k (by omega), Nat.pow_succ, Nat.mod_mul, Nat.mul_comm]
theorem ds_val (X : Nat) (h : X < W12) : val 18446744073709551616 (ds X) = X := by
  unfold val
  rw [ds_len, ds_pv X 12 (Nat.le_refl _)]
  exact Nat.mod_eq_of_lt h
theorem ds_of {l : List Nat} (hl : l.length = 12) (h : allLt l) : ds (val 18446744073709551616 l) = l := by
  have hv : val 18446744073709551616 l < W12 := by have := val_lt 18446744073709551616 (by decide) l h; rw [hl] at this; exact this
  exact val_inj 18446744073709551616 (by decide) _ _ (ds_lt _) h ((ds_len _).trans hl.symm) (ds_val _ hv)
theorem ds_app {l : List Nat} {n : Nat} (hl : l.length = n) (hn : n ≤ 12) (h : allLt l) : ds (val 18446744073709551616 l) = l ++ List.replicate (12 - n) 0 := by
  rw [← val_app_zeros _ l (12 - n)]
  refine ds_of (by rw [List.length_append, hl, List.length_replicate]; omega) ?_
  intro x hx
  rcases List.mem_append.1 hx with h' | h'
  · exact h x h'
  · have := List.eq_of_mem_replicate h'; omega
theorem dsc_len (X : Nat) : (cellsOf64 (ds X)).length = 12 := by simp [cellsOf64, ds_len]
theorem val12 {l : List Nat} (hl : l.length ≤ 12) (h : allLt l) : val 18446744073709551616 l < W12 :=
  Nat.lt_of_lt_of_le (val_lt 18446744073709551616 (by decide) l h) (Nat.pow_le_pow_right (by decide) hl)
theorem bigP_lt : bigP < W12 := by decide
theorem bigQ_lt : bigQ < W12 := by decide

theorem sizeNb : (Tryd.prog.info? 24).map (·.size) = some 12 := by kernel_rfl
/-- A new block of twelve words. -/
def o12 (t : TypeId) (X : Nat) : Obj := .cells (cellsOf64 (ds X)).toArray t
theorem o12_new (w : World) (t : TypeId) (X : Nat) : BlkW (w.alloc (o12 t X)) w.heap.size t (ds X) := BlkW.new64 w t (ds X) (ds_lt X)
/-- The same of zeros, as the program makes it. -/
def z12 (t : TypeId) : Obj := .cells #[.int .u64 0, .int .u64 0, .int .u64 0, .int .u64 0, .int .u64 0, .int .u64 0, .int .u64 0, .int .u64 0, .int .u64 0, .int .u64 0, .int .u64 0, .int .u64 0] t
theorem z12_new (w : World) (t : TypeId) : BlkW (w.alloc (z12 t)) w.heap.size t (List.replicate 12 0) := BlkW.new64 w t (List.replicate 12 0) (zeros_all 12)
theorem ds_zero : ds 0 = List.replicate 12 0 := by decide
/-- A block of words, known whole, read as a slice. -/
theorem BlkW.rd0 {w : World} {b B : Nat} {t : TypeId} {ws : List Nat} (h : BlkW w b t ws) (hB : b < B) {n : Nat} (hn : ws.length = n) : Rd w B (some ⟨b, 0, none⟩) n ws := by
  have := h.rd (off := 0) (n := n) (B := B) (by omega) hB
  rw [List.drop_zero, ← hn, List.take_length] at this
  rw [← hn]; exact this

set_option maxRecDepth 20000 in
set_option maxHeartbeats 1000000 in
theorem numberOf_c (A : Option Addr) (n c : Nat) (l : List Nat) (w : World) (ha : Rd w w.heap.size A n l) (hn : n ≤ 12) :
    Calls Tryd.prog 52 #[.slice A n c] w fun e w' => e = .returned (num (val 18446744073709551616 l)) ∧ Below w.heap.size w w' := by
  have hB0 : BlkW ((w.alloc (z12 24)).alloc (z12 24)) (w.heap.size + 1) 24 (List.replicate 12 0) := by
    have h := z12_new (w.alloc (z12 24)) 24
    rw [show (w.alloc (z12 24)).heap.size = w.heap.size + 1 by simp] at h
    exact h
  have hl0 : Below w.heap.size w (w.alloc (z12 24)) := (Below.refl w.heap.size w).alloc (Nat.le_refl _) _
  have hz0 := z12_new w 24
  have hl1 : Below (w.heap.size + 1) (w.alloc (z12 24)) ((w.alloc (z12 24)).alloc (z12 24)) := (Below.refl _ _).alloc (by simp) _
  have ra : Rd ((w.alloc (z12 24)).alloc (z12 24)) w.heap.size A n l := (ha.below hl0 (Nat.le_refl _)).below hl1 (by omega)
  unfold z12 at hB0 hl0 hz0 hl1 ra
  have HL0 := hid hl0
  have HA := hid ha
  obtain ⟨X, hX⟩ : ∃ X, X = val 18446744073709551616 l := ⟨_, rfl⟩
  rw [← hX]
  have HX := hid hX
  clear hl0 ha hX
  go_enter Tryd.func52, Tryd.ntmps52
  go_wp2_with (with_reducible refine copy_words (tb := 24) rfl (.tmp 4) (.tmp 5) rfl (w.heap.size + 1) 12 12 rfl A n c w.heap.size l rfl ra hn hB0 hl1 ?_)
  intro w1 hB1 hb1
  have hz1 := hz0.below hb1 (by omega)
  have hl2 := HL0.out.trans (hb1.mono (by omega))
  rw [← ds_app HA.out.len hn HA.out.lt, ← HX.out] at hB1
  have hlen := dsc_len X
  have hst := store64 w.heap.size (ds X) w1 (by rw [ds_len]; exact hz1.there)
  have hran := hid (World.rangeAt_setCells_same w1 w.heap.size 0 (cellsOf64 (ds X)) (by rw [hlen]; exact hz1.there))
  have HO := hid hB1.range
  have HE := hid hlen
  clear hB0 hz0 hl1 ra hB1 hb1 hz1
  go_wp2_with (with_reducible refine wpList_load_mid rfl 24 (.tmp 3) rfl (w.heap.size + 1) 0 rfl (cellsOf64 (ds X)) _ HO.out Tryd.underlying24 rfl (sizeNb.trans (congrArg some HE.out.symm)) ?_)
  refine bodyPost_ret (results_cell1 Tryd.results52 ⟨w.heap.size, 0, none⟩ _ rfl (run_loadVar_mid _ (w.heap.size) 0 24 (cellsOf64 (ds X)) _ hran.out Tryd.underlying24 rfl (sizeNb.trans (congrArg some HE.out.symm)))) rfl ?_
  exact ⟨rfl, below_cells (by omega) _ _ _ hl2⟩

/-- 96 bytes as a value: the bytes of the number X. -/
structure By96 (v : Value) (X : Nat) : Prop where
  ex : ∃ l : List Nat, v = .agg (cells8 l).toArray ∧ l.length = 96 ∧ allLt8 l ∧ val 256 l = X
def o96 (t : TypeId) : Obj := .cells (cells8 (List.replicate 96 0)).toArray t
theorem o96_new (w : World) (t : TypeId) : BlkB (w.alloc (o96 t)) w.heap.size t (List.replicate 96 0) := BlkB.new w t _ (zeros_lt8 _)
theorem size96 : (Tryd.prog.info? 70).map (·.size) = some 96 := by kernel_rfl

set_option maxRecDepth 20000 in
set_option maxHeartbeats 2000000 in
theorem write_c (X : Nat) (w : World) (hX : Hid (X < W12)) :
    Calls Tryd.prog 48 #[num X] w fun e w' => ∃ r, e = .returned r ∧ By96 r X ∧ Below w.heap.size w w' := by
  have hlen0 := dsc_len X
  unfold num
  go_enter Tryd.func48, Tryd.ntmps48
  go_wp2
  change Code.wp _ _ _ _ (((w.alloc (o12 24 X)).alloc (o96 70)).alloc (o96 70))
  have hA0 := ((o12_new w 24 X).alloc (o96 70)).alloc (o96 70)
  have hZ0 := (o96_new (w.alloc (o12 24 X)) 70).alloc (o96 70)
  have hO0 := o96_new ((w.alloc (o12 24 X)).alloc (o96 70)) 70
  have hl0 := ((((Below.refl w.heap.size w).alloc (Nat.le_refl _) (o12 24 X))).alloc (by simp) (o96 70)).alloc (by simp; omega) (o96 70)
  rw [show (w.alloc (o12 24 X)).heap.size = w.heap.size + 1 by simp] at hZ0
  rw [show ((w.alloc (o12 24 X)).alloc (o96 70)).heap.size = w.heap.size + 1 + 1 by simp] at hO0
  generalize ((w.alloc (o12 24 X)).alloc (o96 70)).alloc (o96 70) = w0 at *
  have hA1 : BlkW w0.drew w.heap.size 24 (ds X) := hA0.drewN 1
  have hr0 := hA1.rd0 (show w.heap.size < w0.drew.heap.size from hA1.size) (ds_len X)
  have HO := hid hO0
  have HZ := hid hZ0
  have HL := hid hl0
  clear hA0 hZ0 hO0 hl0 hA1 hlen0
  go_region_law (first
    | (refine step_copy_splice rfl (.tmp 4) (.tmp 6) 33 33 rfl 5 Tryd.underlying33 (by kernel_rfl) (some ⟨w.heap.size + 1 + 1, 0, none⟩) Ar 96 96 96 cr (by simp [Act.eval]) (by simp [Act.eval])
        (w.heap.size + 1 + 1) 0 (cells8 (List.replicate 96 0)) 70 (HO.out.drew.below hb1 HO.out.size).heap (cells8 lr) (by simp [cells8, hr1.len]) (fun _ => ⟨rfl, src8 hr1 (by decide)⟩) (by simp [cells8, hr1.len]) (one8 lr) (w.heap.size + 1 + 1) w1 (Below.refl _ _) (Nat.le_refl _) ?_
       intro w2 hg2 hb2)
    | (go_simp
       go_at_call 83
       refine (limbBytes_c _ 12 12 (ds X) _ hr0 (by decide)).mono ?_
       rintro e w1 ⟨Ar, cr, lr, rfl, hcr, hr1, hv1, hb1⟩))
  have hO2 : BlkB w2 (w.heap.size + 1 + 1) 70 lr := by
    refine ⟨?_, hr1.lt⟩
    have e : splice (cells8 (List.replicate 96 0)) 0 (cells8 lr) = cells8 lr := by
      have h1 : (cells8 lr).length = 96 := by simp [cells8, hr1.len]
      have h2 : (cells8 (List.replicate 96 0)).length = 96 := by simp [cells8]
      unfold splice
      rw [List.take_zero, List.nil_append, Nat.zero_add, List.drop_eq_nil_of_le (by omega), List.append_nil]
    rw [← e]; exact hg2.out
  have hZ2 : BlkB w2 (w.heap.size + 1) 70 (List.replicate 96 0) := (HZ.out.drew.below hb1 HZ.out.size).below hb2 (by omega)
  have hl2 : Below w.heap.size w w2 := (HL.out.drew.trans (hb1.mono HL.out.size)).trans (hb2.mono (by omega))
  have hlen : (cells8 lr).length = 96 := by simp [cells8, hr1.len]
  have HL96 : Hid (lr.length = 96) := hid hr1.len
  have hval : By96 (.agg (cells8 lr).toArray) X := ⟨lr, rfl, hr1.len, hr1.lt, by rw [hv1, ds_val X hX.out]⟩
  have HV := hid hval
  have HE := hid hlen
  have hth := hZ2.there
  have hran := World.rangeAt_setCells_same w2 (w.heap.size + 1) 0 (cells8 lr) (by rw [hlen]; exact hth)
  have HR := hid hran
  have hst := store8 (w.heap.size + 1) lr w2 (by rw [HL96.out]; exact hth)
  have HO2 := hid hO2.range
  clear hval hth hran hO2 hZ2 hg2 hb2 hb1 hr1 hv1 hr0 HO HZ HL
  go_wp2_with (with_reducible refine wpList_load_mid rfl 70 (.tmp 3) rfl (w.heap.size + 1 + 1) 0 rfl (cells8 lr) _ HO2.out Tryd.underlying70 rfl (size96.trans (congrArg some HE.out.symm)) ?_)
  refine bodyPost_ret (results_cell1 Tryd.results48 ⟨w.heap.size + 1, 0, none⟩ _ rfl (run_loadVar_mid _ (w.heap.size + 1) 0 70 (cells8 lr) _ HR.out Tryd.underlying70 rfl (size96.trans (congrArg some HE.out.symm)))) rfl ?_
  exact ⟨_, rfl, HV.out, below_cells (by omega) _ _ _ hl2⟩
end Go.Proofs.YtfonpmahcdmajaaDoor
/-
  wide.half, ringOf, Group, Exponents, (*Ring).Size: what each call does.
-/
namespace Go.Proofs.YtfonpmahcdmajaaDoor
open Go.RowKit
set_option linter.unusedVariables false

/-- The relation of half's loop: words below k are shifted. -/
def HfRel (w : World) (X : Nat) (wr : World) (k : Nat) : Prop :=
  ∃ ws : List Nat, ws.length = 12 ∧ BlkW wr w.heap.size 24 ws ∧ BlkW wr (w.heap.size + 1) 24 (List.replicate 12 0) ∧ Below w.heap.size w wr ∧
    ∀ j, ws.getD j 0 = if j < k then (ds X).getD j 0 / 2 ^ 1 + ((ds X).getD (j + 1) 0 % 2 ^ 1) * 2 ^ (64 - 1) else (ds X).getD j 0
theorem HfRel.drew {w wr : World} {X k : Nat} (h : HfRel w X wr k) : HfRel w X wr.drew k := by
  obtain ⟨ws, hl, hB, hZ, hb, hj⟩ := h
  exact ⟨ws, hl, ⟨hB.heap, hB.lt⟩, ⟨hZ.heap, hZ.lt⟩, hb.drew, hj⟩
theorem HfRel.step {w wr : World} {X k : Nat} (h : HfRel w X wr k) (hk : k < 12) (v : Int) (hv : v = (((ds X).getD k 0 / 2 ^ 1 + ((ds X).getD (k + 1) 0 % 2 ^ 1) * 2 ^ (64 - 1) : Nat) : Int)) :
    HfRel w X (wr.setCell ⟨w.heap.size, k, none⟩ (.int .u64 v)) (k + 1) := by
  obtain ⟨ws, hl, hB, hZ, hb, hj⟩ := h
  refine ⟨ws.set k ((ds X).getD k 0 / 2 ^ 1 + ((ds X).getD (k + 1) 0 % 2 ^ 1) * 2 ^ (64 - 1)), by simp [hl], hB.setI _ _ _ (dn_lt _ _ 1 (by decide) (getD_lt _ (by decide) (ds X) (ds_lt X) _)) hv, hZ.otherC (by omega), hb.setCell (Nat.le_refl _) _, fun j => ?_⟩
  by_cases hjk : j = k
  · subst hjk
    rw [getD_set_eq _ _ _ (by omega), if_pos (by omega)]
  · rw [getD_set_ne _ _ _ _ (by omega), hj j]
    by_cases hc : j < k
    · rw [if_pos hc, if_pos (by omega)]
    · rw [if_neg hc, if_neg (by omega)]
/-- When all words are shifted. -/
theorem HfRel.end_ {w wr : World} {X : Nat} (hX : X < W12) (h : HfRel w X wr 12) : BlkW wr w.heap.size 24 (ds (X / 2)) ∧ BlkW wr (w.heap.size + 1) 24 (List.replicate 12 0) ∧ Below w.heap.size w wr := by
  obtain ⟨ws, hl, hB, hZ, hb, hj⟩ := h
  refine ⟨?_, hZ, hb⟩
  have hd := down_pv (ds X) ws 1 (by decide) 11 (fun i hi => by rw [hj i, if_pos (by omega)]) (by
    rw [hj 11, if_pos (by omega), getD_out (ds X) 12 (by rw [ds_len]; omega)]; simp)
  rw [ds_pv X 12 (Nat.le_refl _), Nat.mod_eq_of_lt (show X < 18446744073709551616 ^ 12 from hX), pv_out _ ws 12 (by omega)] at hd
  have e : ds (X / 2) = ws := by
    have : val 18446744073709551616 ws = X / 2 := hd
    rw [← this]; exact ds_of hl hB.lt
  rw [e]; exact hB

set_option maxRecDepth 100000 in
set_option maxHeartbeats 2000000 in
theorem half_c (X : Nat) (w : World) (hX : Hid (X < W12)) :
    Calls Tryd.prog 85 #[num X] w fun e w' => e = .returned (num (X / 2)) ∧ Below w.heap.size w w' := by
  have hlen0 := dsc_len X
  have hA0 := (o12_new w 24 X).alloc (z12 24)
  have hZ0 := z12_new (w.alloc (o12 24 X)) 24
  rw [show (w.alloc (o12 24 X)).heap.size = w.heap.size + 1 by simp] at hZ0
  have hl0 := ((Below.refl w.heap.size w).alloc (Nat.le_refl _) (o12 24 X)).alloc (by simp) (z12 24)
  have R0 : Hid (HfRel w X ((w.alloc (o12 24 X)).alloc (z12 24)) 0) := ⟨ds X, ds_len X, hA0, hZ0, hl0, fun j => by rw [if_neg (by omega)]⟩
  clear hA0 hZ0 hl0
  obtain ⟨Y, hY⟩ : ∃ Y, Y = X / 2 := ⟨_, rfl⟩
  rw [← hY]
  have HY := hid hY
  clear hY
  unfold num
  go_enter Tryd.func85, Tryd.ntmps85
  go_wp2
  clear hlen0
  go_loopw [4] (fun i wr => ∃ k : Nat, k ≤ 11 ∧ i = .int .i64 k ∧ HfRel w X wr k) (fun i _ => 11 - (intOf i).toNat)
  case atStart => exact ⟨0, by omega, rfl, R0.out⟩
  case round =>
    clear R0
    obtain ⟨k, hk, rfl, hrel⟩ := hrel
    obtain ⟨ws, hl, hB1, hZ1, hb1, hj⟩ := id hrel
    by_cases hlt : k < 11
    · have c0 := hB1.cell (i := k) (by omega)
      have c1 := hB1.cell (i := k + 1) (by omega)
      have g0 : at64 ws k = at64 (ds X) k := by unfold at64; rw [hj k, if_neg (by omega)]
      have g1 : at64 ws (k + 1) = at64 (ds X) (k + 1) := by unfold at64; rw [hj (k + 1), if_neg (by omega)]
      rw [g0] at c0
      rw [g1] at c1
      have f0 := hB1.frozen k
      have x0 := at64_nonneg (ds X) k
      have x1 := at64_nonneg (ds X) (k + 1)
      have HST := hid (HfRel.step hrel (by omega) _ (show bits .or .u64 (at64 (ds X) k / 2 ^ 1) (IntKind.u64.wrap (at64 (ds X) (k + 1) * 2 ^ (64 - 1))) = _ by
        exact down_word _ _ 1 (by decide) (getD_lt _ (by decide) (ds X) (ds_lt X) _) (getD_lt _ (by decide) (ds X) (ds_lt X) _)))
      have i0 : (0 : Int) ≤ (k : Int) := by omega
      have i1 : (k : Int) < 12 := by omega
      have i2 : (k : Int) + 1 < 12 := by omega
      have i3 : (0 : Int) ≤ (k : Int) + 1 := by omega
      have i4 : IntKind.i64.wrap ((k : Int) + 1) = (k : Int) + 1 := by rw [IntKind.wrap_i64]; omega
      have i5 : ((k : Int) + 1).toNat = k + 1 := by omega
      clear hl hj g0 g1 hrel
      go_wp2
      go_still_tail 12, (by kernel_rfl)
      change wpList _ _ _ _ _ wr.drew
      clear i4 i5
      go_wp2
      go_roundw
      case rel => exact ⟨k + 1, by omega, by go_num, HST.out.drew⟩
      case measure => simp [intOf]; omega
    · obtain rfl : k = 11 := by omega
      have c0 := hB1.cell (i := 11) (by omega)
      have f0 := hB1.frozen 11
      have g0 : at64 ws 11 = at64 (ds X) 11 := by unfold at64; rw [hj 11, if_neg (by omega)]
      rw [g0] at c0
      have x0 := at64_nonneg (ds X) 11
      have HST := hid (HfRel.step hrel (by omega) (at64 (ds X) 11 / 2) (by
        unfold at64
        rw [getD_out (ds X) (11 + 1) (by rw [ds_len]; omega)]
        omega))
      have E := HfRel.end_ hX.out HST.out
      rw [← HY.out] at E
      obtain ⟨e1, e2, e3⟩ := E
      have hlen := dsc_len Y
      have hst := store64 (w.heap.size + 1) (ds Y) _ (by rw [ds_len]; exact e2.there)
      have hran := hid (World.rangeAt_setCells_same _ (w.heap.size + 1) 0 (cellsOf64 (ds Y)) (by rw [hlen]; exact e2.there))
      have HO := hid e1.range
      have HE := hid hlen
      have HB := hid e3
      clear hl hj g0 HST e1 e2 e3 hB1 hZ1 hrel hb1
      go_wp2_with (with_reducible refine wpList_load_mid rfl 24 (.tmp 1) rfl w.heap.size 0 rfl (cellsOf64 (ds Y)) _ HO.out Tryd.underlying24 rfl (sizeNb.trans (congrArg some HE.out.symm)) ?_)
      refine bodyPost_ret (results_cell1 Tryd.results85 ⟨w.heap.size + 1, 0, none⟩ _ rfl (run_loadVar_mid _ (w.heap.size + 1) 0 24 (cellsOf64 (ds Y)) _ hran.out Tryd.underlying24 rfl (sizeNb.trans (congrArg some HE.out.symm)))) rfl ?_
      exact ⟨rfl, below_cells (by omega) _ _ _ HB.out⟩
end Go.Proofs.YtfonpmahcdmajaaDoor
