/-
  wide's numbers as values (num): twelve words; wide.numberOf and wide.Write: what each call does.
-/
import Derived.Test.YtfonpmahcdmajaaDoorAgg
import Derived.StillTailTactics
namespace Go.Proofs.YtfonpmahcdmajaaDoor
open Go.RowKit
set_option linter.unusedVariables false

/-- The great primes. -/
def bigP : Nat := 1552518092300708935130918131258481755631334049434514313202351194902966239949102107258669453876591642442910007680288864229150803718918046342632727613031282983744380820890196288509170691316593175367469551763119843371637221007210577919
def bigQ : Nat := 776259046150354467565459065629240877815667024717257156601175597451483119974551053629334726938295821221455003840144432114575401859459023171316363806515641491872190410445098144254585345658296587683734775881559921685818610503605288959
/-- The twelve words of a number, and the value that they are. -/
def ds (X : Nat) : List Nat := (List.range 12).map fun i => X / 18446744073709551616 ^ i % 18446744073709551616
def num (X : Nat) : Value := .agg (cellsOf64 (ds X)).toArray
/-- The number behind a number's words. -/
def W12 : Nat := 18446744073709551616 ^ 12

theorem ds_len (X : Nat) : (ds X).length = 12 := by simp [ds]
theorem ds_lt (X : Nat) : allLt (ds X) := by
  intro x hx
  simp only [ds, List.mem_map] at hx
  obtain ⟨i, _, rfl⟩ := hx
  exact Nat.mod_lt _ (by decide)
theorem ds_getD (X i : Nat) (h : i < 12) : (ds X).getD i 0 = X / 18446744073709551616 ^ i % 18446744073709551616 := by
  simp [ds, List.getD_eq_getElem?_getD, h]
theorem ds_pv (X : Nat) : ∀ k, k ≤ 12 → pv 18446744073709551616 (ds X) k = X % 18446744073709551616 ^ k
  | 0, _ => by simp [pv, Nat.mod_one]
  | k + 1, h => by
    rw [pv_succ, ds_pv X k (by omega), ds_getD X k (by omega), Nat.pow_succ, Nat.mod_mul, Nat.mul_comm]
theorem ds_val (X : Nat) (h : X < W12) : val 18446744073709551616 (ds X) = X := by
  unfold val
  rw [ds_len, ds_pv X 12 (Nat.le_refl _)]
  exact Nat.mod_eq_of_lt h
theorem ds_of {l : List Nat} (hl : l.length = 12) (h : allLt l) : ds (val 18446744073709551616 l) = l := by
  have hv : val 18446744073709551616 l < W12 := by have := val_lt 18446744073709551616 (by decide) l h; rw [hl] at this; exact this
  exact val_inj 18446744073709551616 (by decide) _ _ (ds_lt _) h ((ds_len _).trans hl.symm) (ds_val _ hv)
theorem ds_app {l : List Nat} {n : Nat} (hl : l.length = n) (hn : n ≤ 12) (h : allLt l) : ds (val 18446744073709551616 l) = l ++ List.replicate (12 - n) 0 := by
  rw [← val_app_zeros _ l (12 - n)]
  refine ds_of (by rw [List.length_append, hl, List.length_replicate]; omega) ?_
  intro x hx
  rcases List.mem_append.1 hx with h' | h'
  · exact h x h'
  · have := List.eq_of_mem_replicate h'; omega
theorem dsc_len (X : Nat) : (cellsOf64 (ds X)).length = 12 := by simp [cellsOf64, ds_len]
theorem val12 {l : List Nat} (hl : l.length ≤ 12) (h : allLt l) : val 18446744073709551616 l < W12 :=
  Nat.lt_of_lt_of_le (val_lt 18446744073709551616 (by decide) l h) (Nat.pow_le_pow_right (by decide) hl)
theorem bigP_lt : bigP < W12 := by decide
theorem bigQ_lt : bigQ < W12 := by decide

theorem sizeNb : (Tryd.prog.info? 24).map (·.size) = some 12 := by kernel_rfl
/-- A new block of twelve words. -/
def o12 (t : TypeId) (X : Nat) : Obj := .cells (cellsOf64 (ds X)).toArray t
theorem o12_new (w : World) (t : TypeId) (X : Nat) : BlkW (w.alloc (o12 t X)) w.heap.size t (ds X) := BlkW.new64 w t (ds X) (ds_lt X)
/-- The same of zeros, as the program makes it. -/
def z12 (t : TypeId) : Obj := .cells #[.int .u64 0, .int .u64 0, .int .u64 0, .int .u64 0, .int .u64 0, .int .u64 0, .int .u64 0, .int .u64 0, .int .u64 0, .int .u64 0, .int .u64 0, .int .u64 0] t
theorem z12_new (w : World) (t : TypeId) : BlkW (w.alloc (z12 t)) w.heap.size t (List.replicate 12 0) := BlkW.new64 w t (List.replicate 12 0) (zeros_all 12)
theorem ds_zero : ds 0 = List.replicate 12 0 := by decide
/-- A block of words, known whole, read as a slice. -/
theorem BlkW.rd0 {w : World} {b B : Nat} {t : TypeId} {ws : List Nat} (h : BlkW w b t ws) (hB : b < B) {n : Nat} (hn : ws.length = n) : Rd w B (some ⟨b, 0, none⟩) n ws := by
  have := h.rd (off := 0) (n := n) (B := B) (by omega) hB
  rw [List.drop_zero, ← hn, List.take_length] at this
  rw [← hn]; exact this

set_option maxRecDepth 20000 in
set_option maxHeartbeats 1000000 in
theorem numberOf_c (A : Option Addr) (n c : Nat) (l : List Nat) (w : World) (ha : Rd w w.heap.size A n l) (hn : n ≤ 12) :
    Calls Tryd.prog 52 #[.slice A n c] w fun e w' => e = .returned (num (val 18446744073709551616 l)) ∧ Below w.heap.size w w' := by
  have hB0 : BlkW ((w.alloc (z12 24)).alloc (z12 24)) (w.heap.size + 1) 24 (List.replicate 12 0) := by
    have h := z12_new (w.alloc (z12 24)) 24
    rw [show (w.alloc (z12 24)).heap.size = w.heap.size + 1 by simp] at h
    exact h
  have hl0 : Below w.heap.size w (w.alloc (z12 24)) := (Below.refl w.heap.size w).alloc (Nat.le_refl _) _
  have hz0 := z12_new w 24
  have hl1 : Below (w.heap.size + 1) (w.alloc (z12 24)) ((w.alloc (z12 24)).alloc (z12 24)) := (Below.refl _ _).alloc (by simp) _
  have ra : Rd ((w.alloc (z12 24)).alloc (z12 24)) w.heap.size A n l := (ha.below hl0 (Nat.le_refl _)).below hl1 (by omega)
  unfold z12 at hB0 hl0 hz0 hl1 ra
  have HL0 := hid hl0
  have HA := hid ha
  obtain ⟨X, hX⟩ : ∃ X, X = val 18446744073709551616 l := ⟨_, rfl⟩
  rw [← hX]
  have HX := hid hX
  clear hl0 ha hX
  go_enter Tryd.func52, Tryd.ntmps52
  go_wp2_with (with_reducible refine copy_words (tb := 24) rfl (.tmp 4) (.tmp 5) rfl (w.heap.size + 1) 12 12 rfl A n c w.heap.size l rfl ra hn hB0 hl1 ?_)
  intro w1 hB1 hb1
  have hz1 := hz0.below hb1 (by omega)
  have hl2 := HL0.out.trans (hb1.mono (by omega))
  rw [← ds_app HA.out.len hn HA.out.lt, ← HX.out] at hB1
  have hlen := dsc_len X
  have hst := store64 w.heap.size (ds X) w1 (by rw [ds_len]; exact hz1.there)
  have hran := hid (World.rangeAt_setCells_same w1 w.heap.size 0 (cellsOf64 (ds X)) (by rw [hlen]; exact hz1.there))
  have HO := hid hB1.range
  have HE := hid hlen
  clear hB0 hz0 hl1 ra hB1 hb1 hz1
  go_wp2_with (with_reducible refine wpList_load_mid rfl 24 (.tmp 3) rfl (w.heap.size + 1) 0 rfl (cellsOf64 (ds X)) _ HO.out Tryd.underlying24 rfl (sizeNb.trans (congrArg some HE.out.symm)) ?_)
  refine bodyPost_ret (results_cell1 Tryd.results52 ⟨w.heap.size, 0, none⟩ _ rfl (run_loadVar_mid _ (w.heap.size) 0 24 (cellsOf64 (ds X)) _ hran.out Tryd.underlying24 rfl (sizeNb.trans (congrArg some HE.out.symm)))) rfl ?_
  exact ⟨rfl, below_cells (by omega) _ _ _ hl2⟩

/-- 96 bytes as a value: the bytes of the number X. -/
structure By96 (v : Value) (X : Nat) : Prop where
  ex : ∃ l : List Nat, v = .agg (cells8 l).toArray ∧ l.length = 96 ∧ allLt8 l ∧ val 256 l = X
def o96 (t : TypeId) : Obj := .cells (cells8 (List.replicate 96 0)).toArray t
theorem o96_new (w : World) (t : TypeId) : BlkB (w.alloc (o96 t)) w.heap.size t (List.replicate 96 0) := BlkB.new w t _ (zeros_lt8 _)
theorem size96 : (Tryd.prog.info? 70).map (·.size) = some 96 := by kernel_rfl

set_option maxRecDepth 20000 in
set_option maxHeartbeats 2000000 in
theorem write_c (X : Nat) (w : World) (hX : Hid (X < W12)) :
    Calls Tryd.prog 48 #[num X] w fun e w' => ∃ r, e = .returned r ∧ By96 r X ∧ Below w.heap.size w w' := by
  have hlen0 := dsc_len X
  unfold num
  go_enter Tryd.func48, Tryd.ntmps48
  go_wp2
  change Code.wp _ _ _ _ (((w.alloc (o12 24 X)).alloc (o96 70)).alloc (o96 70))
  have hA0 := ((o12_new w 24 X).alloc (o96 70)).alloc (o96 70)
  have hZ0 := (o96_new (w.alloc (o12 24 X)) 70).alloc (o96 70)
  have hO0 := o96_new ((w.alloc (o12 24 X)).alloc (o96 70)) 70
  have hl0 := ((((Below.refl w.heap.size w).alloc (Nat.le_refl _) (o12 24 X))).alloc (by simp) (o96 70)).alloc (by simp; omega) (o96 70)
  rw [show (w.alloc (o12 24 X)).heap.size = w.heap.size + 1 by simp] at hZ0
  rw [show ((w.alloc (o12 24 X)).alloc (o96 70)).heap.size = w.heap.size + 1 + 1 by simp] at hO0
  generalize ((w.alloc (o12 24 X)).alloc (o96 70)).alloc (o96 70) = w0 at *
  have hA1 : BlkW w0.drew w.heap.size 24 (ds X) := hA0.drewN 1
  have hr0 := hA1.rd0 (show w.heap.size < w0.drew.heap.size from hA1.size) (ds_len X)
  have HO := hid hO0
  have HZ := hid hZ0
  have HL := hid hl0
  clear hA0 hZ0 hO0 hl0 hA1 hlen0
  go_region_law (first
    | (refine step_copy_splice rfl (.tmp 4) (.tmp 6) 33 33 rfl 5 Tryd.underlying33 (by kernel_rfl) (some ⟨w.heap.size + 1 + 1, 0, none⟩) Ar 96 96 96 cr (by simp [Act.eval]) (by simp [Act.eval])
        (w.heap.size + 1 + 1) 0 (cells8 (List.replicate 96 0)) 70 (HO.out.drew.below hb1 HO.out.size).heap (cells8 lr) (by simp [cells8, hr1.len]) (fun _ => ⟨rfl, src8 hr1 (by decide)⟩) (by simp [cells8, hr1.len]) (one8 lr) (w.heap.size + 1 + 1) w1 (Below.refl _ _) (Nat.le_refl _) ?_
       intro w2 hg2 hb2)
    | (go_simp
       go_at_call 83
       refine (limbBytes_c _ 12 12 (ds X) _ hr0 (by decide)).mono ?_
       rintro e w1 ⟨Ar, cr, lr, rfl, hcr, hr1, hv1, hb1⟩))
  have hO2 : BlkB w2 (w.heap.size + 1 + 1) 70 lr := by
    refine ⟨?_, hr1.lt⟩
    have e : splice (cells8 (List.replicate 96 0)) 0 (cells8 lr) = cells8 lr := by
      have h1 : (cells8 lr).length = 96 := by simp [cells8, hr1.len]
      have h2 : (cells8 (List.replicate 96 0)).length = 96 := by simp [cells8]
      unfold splice
      rw [List.take_zero, List.nil_append, Nat.zero_add, List.drop_eq_nil_of_le (by omega), List.append_nil]
    rw [← e]; exact hg2.out
  have hZ2 : BlkB w2 (w.heap.size + 1) 70 (List.replicate 96 0) := (HZ.out.drew.below hb1 HZ.out.size).below hb2 (by omega)
  have hl2 : Below w.heap.size w w2 := (HL.out.drew.trans (hb1.mono HL.out.size)).trans (hb2.mono (by omega))
  have hlen : (cells8 lr).length = 96 := by simp [cells8, hr1.len]
  have HL96 : Hid (lr.length = 96) := hid hr1.len
  have hval : By96 (.agg (cells8 lr).toArray) X := ⟨lr, rfl, hr1.len, hr1.lt, by rw [hv1, ds_val X hX.out]⟩
  have HV := hid hval
  have HE := hid hlen
  have hth := hZ2.there
  have hran := World.rangeAt_setCells_same w2 (w.heap.size + 1) 0 (cells8 lr) (by rw [hlen]; exact hth)
  have HR := hid hran
  have hst := store8 (w.heap.size + 1) lr w2 (by rw [HL96.out]; exact hth)
  have HO2 := hid hO2.range
  clear hval hth hran hO2 hZ2 hg2 hb2 hb1 hr1 hv1 hr0 HO HZ HL
  go_wp2_with (with_reducible refine wpList_load_mid rfl 70 (.tmp 3) rfl (w.heap.size + 1 + 1) 0 rfl (cells8 lr) _ HO2.out Tryd.underlying70 rfl (size96.trans (congrArg some HE.out.symm)) ?_)
  refine bodyPost_ret (results_cell1 Tryd.results48 ⟨w.heap.size + 1, 0, none⟩ _ rfl (run_loadVar_mid _ (w.heap.size + 1) 0 70 (cells8 lr) _ HR.out Tryd.underlying70 rfl (size96.trans (congrArg some HE.out.symm)))) rfl ?_
  exact ⟨_, rfl, HV.out, below_cells (by omega) _ _ _ hl2⟩
end Go.Proofs.YtfonpmahcdmajaaDoor
