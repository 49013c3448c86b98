/-
  group: Read, ReadScalar, restOf, OfNumber: what each call does.
-/
import Derived.Test.YtfonpmahcdmajaaDoorGrpB
namespace Go.Proofs.YtfonpmahcdmajaaDoor
open Go.RowKit
set_option linter.unusedVariables false

theorem el_result2 {fn : Func} {p q : Tmp} {w : World} {tmps : Array Value} {b X : Nat} {u : Value} (h : fn.results = #[.cell p 35, .tmp q]) (hp : tmps.getD p undef = .pointer (some ⟨b, 0, none⟩)) (hr : Hid (w.rangeAt b 0 (cellsOf64 (ds X)))) (hq : tmps.getD q undef = u) :
    (results fn tmps).run Tryd.prog w = .ok (.tuple #[num X, u]) w :=
  results_cell_tmp h ⟨b, 0, none⟩ _ u hp (run_loadVar_mid _ b 0 35 (cellsOf64 (ds X)) _ hr.out Tryd.underlying35 rfl (sizeEl.trans (congrArg some (dsc_len X).symm))) hq
theorem sc_result2 {fn : Func} {p q : Tmp} {w : World} {tmps : Array Value} {b X : Nat} {u : Value} (h : fn.results = #[.cell p 44, .tmp q]) (hp : tmps.getD p undef = .pointer (some ⟨b, 0, none⟩)) (hr : Hid (w.rangeAt b 0 (cellsOf64 (ds X)))) (hq : tmps.getD q undef = u) :
    (results fn tmps).run Tryd.prog w = .ok (.tuple #[num X, u]) w :=
  results_cell_tmp h ⟨b, 0, none⟩ _ u hp (run_loadVar_mid _ b 0 44 (cellsOf64 (ds X)) _ hr.out Tryd.underlying44 rfl (sizeSc.trans (congrArg some (dsc_len X).symm))) hq
theorem zero_storedT {w : World} {b : Nat} {t : TypeId} (h : BlkW w b t (List.replicate 12 0)) :
    Hid (w.there b 0 12) ∧ Hid ((w.setCells b 0 [.int .u64 0, .int .u64 0, .int .u64 0, .int .u64 0, .int .u64 0, .int .u64 0, .int .u64 0, .int .u64 0, .int .u64 0, .int .u64 0, .int .u64 0, .int .u64 0]).rangeAt b 0 (cellsOf64 (ds 0))) := by
  have := (num_storedT (X := 0) h).2
  rw [← cells_zero]
  exact ⟨h.there, this⟩
theorem size_zeroE : (Tryd.prog.info? 35).map (·.size) = some (#[.int .u64 0, .int .u64 0, .int .u64 0, .int .u64 0, .int .u64 0, .int .u64 0, .int .u64 0, .int .u64 0, .int .u64 0, .int .u64 0, .int .u64 0, .int .u64 0] : Array Value).size := sizeEl
/-- A new number, laid into memory. -/
theorem laidN (w : World) (t : TypeId) (N : Nat) : ∃ wx, (storeCells ⟨w.heap.size, 0, none⟩ (cellsOf64 (ds N))).run Tryd.prog (w.alloc (.cells #[.int .u64 0, .int .u64 0, .int .u64 0, .int .u64 0, .int .u64 0, .int .u64 0, .int .u64 0, .int .u64 0, .int .u64 0, .int .u64 0, .int .u64 0, .int .u64 0] t)) = .ok () wx ∧ Hid (wx.rangeAt w.heap.size 0 (cellsOf64 (ds N))) ∧ Below w.heap.size w wx := by
  obtain ⟨h1, h2⟩ := num_storedT (X := N) (z12_new w t)
  exact ⟨_, h1, h2, below_cells (Nat.le_refl _) _ _ _ ((Below.refl _ _).alloc (Nat.le_refl _) _)⟩
def eE (bs : List Nat) : Int := if rdE true bs = 0 then (if rdN true bs ^ bigQ % bigP = 1 then 0 else 4) else rdE true bs
def eN (bs : List Nat) : Nat := if eE bs = 0 then rdN true bs else 0
theorem rdN_lt12 (g : Bool) (bs : List Nat) : rdN g bs < W12 := rdN_lt g bs
/-- A number's twelve cells, as letters. -/
theorem num_cellsL (X : Nat) : ∃ a0 a1 a2 a3 a4 a5 a6 a7 a8 a9 a10 a11 : Int, cellsOf64 (ds X) = [.int .u64 a0, .int .u64 a1, .int .u64 a2, .int .u64 a3, .int .u64 a4, .int .u64 a5, .int .u64 a6, .int .u64 a7, .int .u64 a8, .int .u64 a9, .int .u64 a10, .int .u64 a11] := ⟨_, _, _, _, _, _, _, _, _, _, _, _, rfl⟩
theorem all_cells (a0 a1 a2 a3 a4 a5 a6 a7 a8 a9 a10 a11 : Int) : (#[.int .u64 a0, .int .u64 a1, .int .u64 a2, .int .u64 a3, .int .u64 a4, .int .u64 a5, .int .u64 a6, .int .u64 a7, .int .u64 a8, .int .u64 a9, .int .u64 a10, .int .u64 a11] : Array Value).all (·.oneCell') = true := by simp [Value.oneCell']
theorem size_cellsE (a0 a1 a2 a3 a4 a5 a6 a7 a8 a9 a10 a11 : Int) : (Tryd.prog.info? 35).map (·.size) = some (#[.int .u64 a0, .int .u64 a1, .int .u64 a2, .int .u64 a3, .int .u64 a4, .int .u64 a5, .int .u64 a6, .int .u64 a7, .int .u64 a8, .int .u64 a9, .int .u64 a10, .int .u64 a11] : Array Value).size := sizeEl
theorem el_resultC {fn : Func} {p q : Tmp} {w : World} {tmps : Array Value} {b : Nat} {u : Value} (a0 a1 a2 a3 a4 a5 a6 a7 a8 a9 a10 a11 : Int) (h : fn.results = #[.cell p 35, .tmp q]) (hp : tmps.getD p undef = .pointer (some ⟨b, 0, none⟩)) (hr : Hid (w.rangeAt b 0 [.int .u64 a0, .int .u64 a1, .int .u64 a2, .int .u64 a3, .int .u64 a4, .int .u64 a5, .int .u64 a6, .int .u64 a7, .int .u64 a8, .int .u64 a9, .int .u64 a10, .int .u64 a11])) (hq : tmps.getD q undef = u) :
    (results fn tmps).run Tryd.prog w = .ok (.tuple #[.agg #[.int .u64 a0, .int .u64 a1, .int .u64 a2, .int .u64 a3, .int .u64 a4, .int .u64 a5, .int .u64 a6, .int .u64 a7, .int .u64 a8, .int .u64 a9, .int .u64 a10, .int .u64 a11], u]) w :=
  results_cell_tmp h ⟨b, 0, none⟩ _ u hp (run_loadVar_mid _ b 0 35 [.int .u64 a0, .int .u64 a1, .int .u64 a2, .int .u64 a3, .int .u64 a4, .int .u64 a5, .int .u64 a6, .int .u64 a7, .int .u64 a8, .int .u64 a9, .int .u64 a10, .int .u64 a11] _ hr.out Tryd.underlying35 rfl sizeEl) hq
theorem sc_resultC {fn : Func} {p q : Tmp} {w : World} {tmps : Array Value} {b : Nat} {u : Value} (a0 a1 a2 a3 a4 a5 a6 a7 a8 a9 a10 a11 : Int) (h : fn.results = #[.cell p 44, .tmp q]) (hp : tmps.getD p undef = .pointer (some ⟨b, 0, none⟩)) (hr : Hid (w.rangeAt b 0 [.int .u64 a0, .int .u64 a1, .int .u64 a2, .int .u64 a3, .int .u64 a4, .int .u64 a5, .int .u64 a6, .int .u64 a7, .int .u64 a8, .int .u64 a9, .int .u64 a10, .int .u64 a11])) (hq : tmps.getD q undef = u) :
    (results fn tmps).run Tryd.prog w = .ok (.tuple #[.agg #[.int .u64 a0, .int .u64 a1, .int .u64 a2, .int .u64 a3, .int .u64 a4, .int .u64 a5, .int .u64 a6, .int .u64 a7, .int .u64 a8, .int .u64 a9, .int .u64 a10, .int .u64 a11], u]) w :=
  results_cell_tmp h ⟨b, 0, none⟩ _ u hp (run_loadVar_mid _ b 0 44 [.int .u64 a0, .int .u64 a1, .int .u64 a2, .int .u64 a3, .int .u64 a4, .int .u64 a5, .int .u64 a6, .int .u64 a7, .int .u64 a8, .int .u64 a9, .int .u64 a10, .int .u64 a11] _ hr.out Tryd.underlying44 rfl sizeSc) hq
theorem el_resultC1 {fn : Func} {p : Tmp} {w : World} {tmps : Array Value} {b : Nat} (a0 a1 a2 a3 a4 a5 a6 a7 a8 a9 a10 a11 : Int) (h : fn.results = #[.cell p 35]) (hp : tmps.getD p undef = .pointer (some ⟨b, 0, none⟩)) (hr : Hid (w.rangeAt b 0 [.int .u64 a0, .int .u64 a1, .int .u64 a2, .int .u64 a3, .int .u64 a4, .int .u64 a5, .int .u64 a6, .int .u64 a7, .int .u64 a8, .int .u64 a9, .int .u64 a10, .int .u64 a11])) :
    (results fn tmps).run Tryd.prog w = .ok (.agg #[.int .u64 a0, .int .u64 a1, .int .u64 a2, .int .u64 a3, .int .u64 a4, .int .u64 a5, .int .u64 a6, .int .u64 a7, .int .u64 a8, .int .u64 a9, .int .u64 a10, .int .u64 a11]) w :=
  results_cell1 h ⟨b, 0, none⟩ _ hp (run_loadVar_mid _ b 0 35 [.int .u64 a0, .int .u64 a1, .int .u64 a2, .int .u64 a3, .int .u64 a4, .int .u64 a5, .int .u64 a6, .int .u64 a7, .int .u64 a8, .int .u64 a9, .int .u64 a10, .int .u64 a11] _ hr.out Tryd.underlying35 rfl sizeEl)
theorem sc_resultC1 {fn : Func} {p : Tmp} {w : World} {tmps : Array Value} {b : Nat} (a0 a1 a2 a3 a4 a5 a6 a7 a8 a9 a10 a11 : Int) (h : fn.results = #[.cell p 44]) (hp : tmps.getD p undef = .pointer (some ⟨b, 0, none⟩)) (hr : Hid (w.rangeAt b 0 [.int .u64 a0, .int .u64 a1, .int .u64 a2, .int .u64 a3, .int .u64 a4, .int .u64 a5, .int .u64 a6, .int .u64 a7, .int .u64 a8, .int .u64 a9, .int .u64 a10, .int .u64 a11])) :
    (results fn tmps).run Tryd.prog w = .ok (.agg #[.int .u64 a0, .int .u64 a1, .int .u64 a2, .int .u64 a3, .int .u64 a4, .int .u64 a5, .int .u64 a6, .int .u64 a7, .int .u64 a8, .int .u64 a9, .int .u64 a10, .int .u64 a11]) w :=
  results_cell1 h ⟨b, 0, none⟩ _ hp (run_loadVar_mid _ b 0 44 [.int .u64 a0, .int .u64 a1, .int .u64 a2, .int .u64 a3, .int .u64 a4, .int .u64 a5, .int .u64 a6, .int .u64 a7, .int .u64 a8, .int .u64 a9, .int .u64 a10, .int .u64 a11] _ hr.out Tryd.underlying44 rfl sizeSc)
theorem size_cellsN (a0 a1 a2 a3 a4 a5 a6 a7 a8 a9 a10 a11 : Int) : (Tryd.prog.info? 24).map (·.size) = some ([.int .u64 a0, .int .u64 a1, .int .u64 a2, .int .u64 a3, .int .u64 a4, .int .u64 a5, .int .u64 a6, .int .u64 a7, .int .u64 a8, .int .u64 a9, .int .u64 a10, .int .u64 a11] : List Value).length := sizeNb
theorem size_cellsS (a0 a1 a2 a3 a4 a5 a6 a7 a8 a9 a10 a11 : Int) : (Tryd.prog.info? 44).map (·.size) = some (#[.int .u64 a0, .int .u64 a1, .int .u64 a2, .int .u64 a3, .int .u64 a4, .int .u64 a5, .int .u64 a6, .int .u64 a7, .int .u64 a8, .int .u64 a9, .int .u64 a10, .int .u64 a11] : Array Value).size := sizeSc

set_option maxRecDepth 20000 in
set_option maxHeartbeats 1000000 in
theorem gRead_err (A : Option Addr) (n c : Nat) (bs : List Nat) (w : World) (ha : Rd8 w w.heap.size A n bs) (hG : GlobW w) (N : Nat) (E : Int) (hN : Hid (rdN true bs = N)) (hE : Hid (rdE true bs = E)) (he : (E != 0) = true) :
    Calls Tryd.prog 16 #[.slice A n c] w fun e w' => e = .returned (.tuple #[num 0, .int .i64 E]) ∧ Below w.heap.size w w' := by
  have hl0 := (Below.refl w.heap.size w).alloc (Nat.le_refl _) (z12 35)
  have HZ := hid (z12_new w 35)
  have hG0 := hG.up hl0
  have ra := ha.up hl0 (Nat.le_refl _)
  have HL := hid hl0
  have HN := hid (rdN_lt12 true bs)
  clear hl0 hG ha
  go_enter Tryd.func16, Tryd.ntmps16
  go_wp2_with fail
  change Calls _ _ _ (w.alloc (z12 35)) _
  generalize w.alloc (z12 35) = w0 at *
  refine (group_c w0 hG0).mono ?_
  rintro e w1 ⟨b, rfl, hr, b1⟩
  have ra1 := ra.up b1 (Nat.le_refl _)
  have hG1 := hG0.up b1
  go_wp2_with fail
  refine (rRead_c b true A n c bs w1 hr ra1).mono ?_
  rintro e w2 ⟨rfl, b2⟩
  have b02 := bchain b1 b2
  have hG2 := hG1.up b2
  rw [hN.out, hE.out]
  rw [hN.out] at HN
  obtain ⟨w3, hst, HR, b3⟩ := laidN w2 24 N
  have hlen := dsc_len N
  have b03 := bchain b02 b3
  have HG3 := hid (hG2.up b3)
  have HZ3 := hid (HZ.out.below b03 HZ.out.size)
  have HL3 := hid (HL.out.trans (b03.mono HL.out.size))
  clear ra ra1 hG0 hG1 hG2 hr b1 b2 b02 b3 b03 HZ HL
  unfold num
  obtain ⟨HT, HR0⟩ := zero_storedT HZ3.out
  have hl3 := HL3.out
  go_wp2_with (refine wpList_store_mid rfl 35 (.tmp 2) (.tmp 14) rfl w.heap.size 0 #[.int .u64 0, .int .u64 0, .int .u64 0, .int .u64 0, .int .u64 0, .int .u64 0, .int .u64 0, .int .u64 0, .int .u64 0, .int .u64 0, .int .u64 0, .int .u64 0] rfl rfl HT.out size_zeroE all_zero ?_)
  refine bodyPost_ret (el_result2 Tryd.results16 rfl HR0 rfl) rfl ?_
  exact ⟨rfl, below_cells (Nat.le_refl _) _ _ _ hl3⟩

set_option maxRecDepth 20000 in
set_option maxHeartbeats 1000000 in
theorem gRead_none (A : Option Addr) (n c : Nat) (bs : List Nat) (w : World) (ha : Rd8 w w.heap.size A n bs) (hG : GlobW w) (N : Nat) (E : Int) (hN : Hid (rdN true bs = N)) (hE : Hid (rdE true bs = E)) (he : Hid (E = 0)) (hp : Hid (¬ N ^ bigQ % bigP = 1)) :
    Calls Tryd.prog 16 #[.slice A n c] w fun e w' => e = .returned (.tuple #[num 0, .int .i64 4]) ∧ Below w.heap.size w w' := by
  have hl0 := (Below.refl w.heap.size w).alloc (Nat.le_refl _) (z12 35)
  have HZ := hid (z12_new w 35)
  have hG0 := hG.up hl0
  have ra := ha.up hl0 (Nat.le_refl _)
  have HL := hid hl0
  have HN := hid (rdN_lt12 true bs)
  clear hl0 hG ha
  go_enter Tryd.func16, Tryd.ntmps16
  go_wp2_with fail
  change Calls _ _ _ (w.alloc (z12 35)) _
  generalize w.alloc (z12 35) = w0 at *
  refine (group_c w0 hG0).mono ?_
  rintro e w1 ⟨b, rfl, hr, b1⟩
  have ra1 := ra.up b1 (Nat.le_refl _)
  have hG1 := hG0.up b1
  go_wp2_with fail
  refine (rRead_c b true A n c bs w1 hr ra1).mono ?_
  rintro e w2 ⟨rfl, b2⟩
  have b02 := bchain b1 b2
  have hG2 := hG1.up b2
  rw [hN.out, hE.out]
  rw [hN.out] at HN
  obtain ⟨w3, hst, HR, b3⟩ := laidN w2 24 N
  have hlen := dsc_len N
  have b03 := bchain b02 b3
  have HG3 := hid (hG2.up b3)
  have HZ3 := hid (HZ.out.below b03 HZ.out.size)
  have HL3 := hid (HL.out.trans (b03.mono HL.out.size))
  clear ra ra1 hG0 hG1 hG2 hr b1 b2 b02 b3 b03 HZ HL
  unfold num
  have I := hid (sizeNb.trans (congrArg some hlen.symm))
  have HN' := HN.out
  obtain ⟨q, hq⟩ : ∃ q, q = decide (N ^ bigQ % bigP = 1) := ⟨_, rfl⟩
  have HQ : Hid (q = false) := hid (by rw [hq]; exact decide_eq_false hp.out)
  have hE0 : E = 0 := he.out
  subst hE0
  go_wp2_with (refine wpList_load_mid rfl 24 (.tmp 4) rfl w2.heap.size 0 rfl (cellsOf64 (ds N)) _ HR.out Tryd.underlying24 rfl I.out ?_)
  have CB := belongs_c N w3 HN' HG3.out
  rw [← hq, HQ.out] at CB
  refine CB.mono ?_
  rintro e w4 ⟨rfl, b4⟩
  have hZ4 := HZ3.out.below b4 HZ3.out.size
  have hl4 := HL3.out.trans (b4.mono HL3.out.size)
  obtain ⟨HT, HR0⟩ := zero_storedT hZ4
  clear hq HQ CB HR I hZ4 hst
  go_wp2_with (refine wpList_store_mid rfl 35 (.tmp 2) (.tmp 19) rfl w.heap.size 0 #[.int .u64 0, .int .u64 0, .int .u64 0, .int .u64 0, .int .u64 0, .int .u64 0, .int .u64 0, .int .u64 0, .int .u64 0, .int .u64 0, .int .u64 0, .int .u64 0] rfl rfl HT.out size_zeroE all_zero ?_)
  refine bodyPost_ret (el_result2 Tryd.results16 rfl HR0 rfl) rfl ?_
  exact ⟨rfl, below_cells (Nat.le_refl _) _ _ _ hl4⟩

set_option maxRecDepth 20000 in
set_option maxHeartbeats 1000000 in
theorem gRead_ok (A : Option Addr) (n c : Nat) (bs : List Nat) (w : World) (ha : Rd8 w w.heap.size A n bs) (hG : GlobW w) (N : Nat) (E : Int) (hN : Hid (rdN true bs = N)) (hE : Hid (rdE true bs = E)) (he : Hid (E = 0)) (hp : Hid (N ^ bigQ % bigP = 1)) :
    Calls Tryd.prog 16 #[.slice A n c] w fun e w' => e = .returned (.tuple #[num N, .int .i64 0]) ∧ Below w.heap.size w w' := by
  have hl0 := (Below.refl w.heap.size w).alloc (Nat.le_refl _) (z12 35)
  have HZ := hid (z12_new w 35)
  have hG0 := hG.up hl0
  have ra := ha.up hl0 (Nat.le_refl _)
  have HL := hid hl0
  have HN := hid (rdN_lt12 true bs)
  clear hl0 hG ha
  go_enter Tryd.func16, Tryd.ntmps16
  go_wp2_with fail
  change Calls _ _ _ (w.alloc (z12 35)) _
  generalize w.alloc (z12 35) = w0 at *
  refine (group_c w0 hG0).mono ?_
  rintro e w1 ⟨b, rfl, hr, b1⟩
  have ra1 := ra.up b1 (Nat.le_refl _)
  have hG1 := hG0.up b1
  go_wp2_with fail
  refine (rRead_c b true A n c bs w1 hr ra1).mono ?_
  rintro e w2 ⟨rfl, b2⟩
  have b02 := bchain b1 b2
  have hG2 := hG1.up b2
  rw [hN.out, hE.out]
  rw [hN.out] at HN
  have hE0 : E = 0 := he.out
  subst hE0
  have hb3 := (Below.refl w2.heap.size w2).alloc (Nat.le_refl _) (o12 24 N)
  have hB3 := o12_new w2 24 N
  have b03 := bchain b02 hb3
  have hZ3 := HZ.out.below b03 HZ.out.size
  have hl3 := HL.out.trans (b03.mono HL.out.size)
  have CB := belongs_c N _ HN.out (hG2.up hb3)
  rw [decide_eq_true hp.out] at CB
  clear ra ra1 hG0 hG1 hG2 hr b1 b2 b02 hb3 b03 HZ HL hN hE he hp HN
  have CB' : ∀ w3, w3 = w2.alloc (o12 24 N) → Calls Tryd.prog 61 #[num N] w3 fun e w' => e = .returned (.bool true) ∧ Below w3.heap.size w3 w' := fun w3 h => by rw [h]; exact CB
  have HB := hid (And.intro hB3 (And.intro hZ3 hl3))
  clear CB hB3 hZ3 hl3
  obtain ⟨a0, a1, a2, a3, a4, a5, a6, a7, a8, a9, a10, a11, ea⟩ := num_cellsL N
  have EA := hid ea
  unfold num at CB' ⊢
  unfold o12 at CB'
  rw [ea] at CB' ⊢
  clear ea
  go_wp2_with fail
  refine (CB' _ rfl).mono ?_
  rintro e w4 ⟨rfl, b4⟩
  obtain ⟨hB3, hZ3, hl3⟩ := HB.out
  unfold o12 at hB3 hZ3 hl3
  rw [EA.out] at hB3 hZ3 hl3
  have hB4 := hB3.below b4 hB3.size
  have hZ4 := hZ3.below b4 hZ3.size
  have hl4 := hl3.trans (b4.mono hl3.size)
  have HT := hid hZ4.there
  have HR0 := (num_storedT (X := N) hZ4).2
  have HR4 := hid hB4.range
  rw [EA.out] at HR0 HR4
  clear CB' hB3 hZ3 hl3 hB4 hZ4 b4 HB
  go_wp2_with (first
    | with_reducible refine wpList_load_mid rfl 24 (.tmp 4) rfl w2.heap.size 0 rfl [.int .u64 a0, .int .u64 a1, .int .u64 a2, .int .u64 a3, .int .u64 a4, .int .u64 a5, .int .u64 a6, .int .u64 a7, .int .u64 a8, .int .u64 a9, .int .u64 a10, .int .u64 a11] _ HR4.out Tryd.underlying24 rfl (size_cellsN a0 a1 a2 a3 a4 a5 a6 a7 a8 a9 a10 a11) ?_
    | refine wpList_store_mid rfl 35 (.tmp 2) (.tmp 21) rfl w.heap.size 0 #[.int .u64 a0, .int .u64 a1, .int .u64 a2, .int .u64 a3, .int .u64 a4, .int .u64 a5, .int .u64 a6, .int .u64 a7, .int .u64 a8, .int .u64 a9, .int .u64 a10, .int .u64 a11] rfl rfl HT.out (size_cellsE a0 a1 a2 a3 a4 a5 a6 a7 a8 a9 a10 a11) (all_cells a0 a1 a2 a3 a4 a5 a6 a7 a8 a9 a10 a11) ?_)
  refine bodyPost_ret (el_resultC a0 a1 a2 a3 a4 a5 a6 a7 a8 a9 a10 a11 Tryd.results16 rfl HR0 rfl) rfl ?_
  exact ⟨by unfold num; rw [EA.out]; rfl, below_cells (Nat.le_refl _) _ _ _ hl4⟩

theorem gRead_c (A : Option Addr) (n c : Nat) (bs : List Nat) (w : World) (ha : Rd8 w w.heap.size A n bs) (hG : GlobW w) :
    Calls Tryd.prog 16 #[.slice A n c] w fun e w' => e = .returned (.tuple #[num (eN bs), .int .i64 (eE bs)]) ∧ Below w.heap.size w w' := by
  by_cases h0 : rdE true bs = 0
  · by_cases h1 : rdN true bs ^ bigQ % bigP = 1
    · have e1 : eE bs = 0 := by unfold eE; rw [if_pos h0, if_pos h1]
      have e2 : eN bs = rdN true bs := by unfold eN; rw [if_pos e1]
      rw [e1, e2]
      exact gRead_ok A n c bs w ha hG _ _ rfl rfl h0 h1
    · have e1 : eE bs = 4 := by unfold eE; rw [if_pos h0, if_neg h1]
      have e2 : eN bs = 0 := by unfold eN; rw [if_neg (by rw [e1]; decide)]
      rw [e1, e2]
      exact gRead_none A n c bs w ha hG _ _ rfl rfl h0 h1
  · have e1 : eE bs = rdE true bs := by unfold eE; rw [if_neg h0]
    have e2 : eN bs = 0 := by unfold eN; rw [if_neg (by rw [e1]; exact h0)]
    rw [e1, e2]
    exact gRead_err A n c bs w ha hG _ _ rfl rfl (by simpa using h0)

set_option maxRecDepth 20000 in
set_option maxHeartbeats 1000000 in
theorem readScalar_c (A : Option Addr) (n c : Nat) (bs : List Nat) (w : World) (ha : Rd8 w w.heap.size A n bs) (hG : GlobW w) :
    Calls Tryd.prog 20 #[.slice A n c] w fun e w' => e = .returned (.tuple #[num (rdN false bs), .int .i64 (rdE false bs)]) ∧ Below w.heap.size w w' := by
  obtain ⟨N, hN⟩ : ∃ N, N = rdN false bs := ⟨_, rfl⟩
  obtain ⟨E, hE⟩ : ∃ E, E = rdE false bs := ⟨_, rfl⟩
  rw [← hN, ← hE]
  have HN := hid hN
  have HE := hid hE
  clear hN hE
  have hl0 := (Below.refl w.heap.size w).alloc (Nat.le_refl _) (z12 44)
  have HZ := hid (z12_new w 44)
  have hG0 := hG.up hl0
  have ra := ha.up hl0 (Nat.le_refl _)
  have HL := hid hl0
  clear hl0 hG ha
  go_enter Tryd.func20, Tryd.ntmps20
  go_wp2_with fail
  change Calls _ _ _ (w.alloc (z12 44)) _
  generalize w.alloc (z12 44) = w0 at *
  refine (exponents_c w0 hG0).mono ?_
  rintro e w1 ⟨b, rfl, hr, b1⟩
  have ra1 := ra.up b1 (Nat.le_refl _)
  go_wp2_with fail
  refine (rRead_c b false A n c bs w1 hr ra1).mono ?_
  rintro e w2 ⟨rfl, b2⟩
  have b02 := bchain b1 b2
  rw [← HN.out, ← HE.out]
  clear HN HE
  have hb3 := (Below.refl w2.heap.size w2).alloc (Nat.le_refl _) (o12 24 N)
  have b03 := bchain b02 hb3
  have hZ3 := HZ.out.below b03 HZ.out.size
  have hl3 := HL.out.trans (b03.mono HL.out.size)
  have HR0 := (num_storedT (X := N) hZ3).2
  have HT := hid hZ3.there
  clear ra ra1 hG0 hr b1 b2 b02 hb3 b03 HZ HL hZ3
  obtain ⟨a0, a1, a2, a3, a4, a5, a6, a7, a8, a9, a10, a11, ea⟩ := num_cellsL N
  unfold num
  unfold o12 at *
  rw [ea] at HR0 HT hl3 ⊢
  have EA := hid ea
  clear ea
  go_wp2_with (refine wpList_store_mid rfl 44 (.tmp 2) (.tmp 13) rfl w.heap.size 0 #[.int .u64 a0, .int .u64 a1, .int .u64 a2, .int .u64 a3, .int .u64 a4, .int .u64 a5, .int .u64 a6, .int .u64 a7, .int .u64 a8, .int .u64 a9, .int .u64 a10, .int .u64 a11] rfl rfl HT.out (size_cellsS a0 a1 a2 a3 a4 a5 a6 a7 a8 a9 a10 a11) (all_cells a0 a1 a2 a3 a4 a5 a6 a7 a8 a9 a10 a11) ?_)
  refine bodyPost_ret (sc_resultC a0 a1 a2 a3 a4 a5 a6 a7 a8 a9 a10 a11 Tryd.results20 rfl HR0 rfl) rfl ?_
  exact ⟨by unfold num; rw [EA.out]; rfl, below_cells (Nat.le_refl _) _ _ _ hl3⟩

set_option maxRecDepth 20000 in
set_option maxHeartbeats 1000000 in
theorem restOf_c (A : Option Addr) (n c : Nat) (bs : List Nat) (w : World) (ha : Rd8 w w.heap.size A n bs) (hn : n ≤ 1000) (hG : GlobW w) :
    Calls Tryd.prog 70 #[.slice A n c] w fun e w' => e = .returned (num (val 256 bs % bigQ)) ∧ Below w.heap.size w w' := by
  obtain ⟨N, hN⟩ : ∃ N, N = val 256 bs % bigQ := ⟨_, rfl⟩
  rw [← hN]
  have HN := hid hN
  clear hN
  have hl0 := (Below.refl w.heap.size w).alloc (Nat.le_refl _) (z12 44)
  have HZ := hid (z12_new w 44)
  have hG0 := hG.up hl0
  have ra := ha.up hl0 (Nat.le_refl _)
  have HL := hid hl0
  clear hl0 hG ha
  go_enter Tryd.func70, Tryd.ntmps70
  go_wp2_with fail
  change Calls _ _ _ (w.alloc (z12 44)) _
  generalize w.alloc (z12 44) = w0 at *
  refine (exponents_c w0 hG0).mono ?_
  rintro e w1 ⟨b, rfl, hr, b1⟩
  have ra1 := ra.up b1 (Nat.le_refl _)
  go_wp2_with fail
  refine (rReduce_c b bigQ A n c bs w1 hr ra1 hn bigQ_lt).mono ?_
  rintro e w2 ⟨rfl, b2⟩
  have b02 := bchain b1 b2
  rw [← HN.out]
  have hZ2 := HZ.out.below b02 HZ.out.size
  have hl2 := HL.out.trans (b02.mono HL.out.size)
  have HR0 := (num_storedT (X := N) hZ2).2
  have HT := hid hZ2.there
  clear ra ra1 hG0 hr b1 b2 b02 HZ HL hZ2 HN hn
  obtain ⟨a0, a1, a2, a3, a4, a5, a6, a7, a8, a9, a10, a11, ea⟩ := num_cellsL N
  unfold num
  rw [ea] at HR0 ⊢
  have EA := hid ea
  clear ea
  go_wp2_with (refine wpList_store_mid rfl 44 (.tmp 2) (.tmp 6) rfl w.heap.size 0 #[.int .u64 a0, .int .u64 a1, .int .u64 a2, .int .u64 a3, .int .u64 a4, .int .u64 a5, .int .u64 a6, .int .u64 a7, .int .u64 a8, .int .u64 a9, .int .u64 a10, .int .u64 a11] rfl rfl HT.out (size_cellsS a0 a1 a2 a3 a4 a5 a6 a7 a8 a9 a10 a11) (all_cells a0 a1 a2 a3 a4 a5 a6 a7 a8 a9 a10 a11) ?_)
  refine bodyPost_ret (sc_resultC1 a0 a1 a2 a3 a4 a5 a6 a7 a8 a9 a10 a11 Tryd.results70 rfl HR0) rfl ?_
  exact ⟨by unfold num; rw [EA.out], below_cells (Nat.le_refl _) _ _ _ hl2⟩
end Go.Proofs.YtfonpmahcdmajaaDoor
