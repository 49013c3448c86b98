/-
  group: elements and exponents as values; One, Generator, Bytes, Equal: what each call does.
-/
import Derived.Test.YtfonpmahcdmajaaDoorWidU
namespace Go.Proofs.YtfonpmahcdmajaaDoor
open Go.RowKit
set_option linter.unusedVariables false

theorem build_el (X : Nat) (w : World) : (Instr.build 35 #[(0, .agg (cellsOf64 (ds X)).toArray)]).run Tryd.prog w = .ok (.agg (cellsOf64 (ds X)).toArray) w := run_build w _ _ _ (by kernel_rfl)
theorem build_sc (X : Nat) (w : World) : (Instr.build 44 #[(0, .agg (cellsOf64 (ds X)).toArray)]).run Tryd.prog w = .ok (.agg (cellsOf64 (ds X)).toArray) w := run_build w _ _ _ (by kernel_rfl)
theorem field_el (X : Nat) (w : World) : (Instr.field 35 (.agg (cellsOf64 (ds X)).toArray) 0).run Tryd.prog w = .ok (.agg (cellsOf64 (ds X)).toArray) w := by kernel_rfl
theorem sizeEl : (Tryd.prog.info? 35).map (·.size) = some 12 := by kernel_rfl
theorem sizeSc : (Tryd.prog.info? 44).map (·.size) = some 12 := by kernel_rfl
theorem num_4 : num 4 = .agg #[.int .u64 4, .int .u64 0, .int .u64 0, .int .u64 0, .int .u64 0, .int .u64 0, .int .u64 0, .int .u64 0, .int .u64 0, .int .u64 0, .int .u64 0, .int .u64 0] := num_one 4 (by decide)
/-- What is stored into a place of twelve words, and read from it. -/
theorem num_storedT {w : World} {b X : Nat} {t : TypeId} (h : BlkW w b t (List.replicate 12 0)) :
    (storeCells ⟨b, 0, none⟩ (cellsOf64 (ds X))).run Tryd.prog w = .ok () (w.setCells b 0 (cellsOf64 (ds X))) ∧ Hid ((w.setCells b 0 (cellsOf64 (ds X))).rangeAt b 0 (cellsOf64 (ds X))) := by
  have hlen := dsc_len X
  exact ⟨store64 b (ds X) w (by rw [ds_len]; exact h.there), World.rangeAt_setCells_same w b 0 (cellsOf64 (ds X)) (by rw [hlen]; exact h.there)⟩
theorem el_result {fn : Func} {p : Tmp} {w : World} {tmps : Array Value} {b X : Nat} (h : fn.results = #[.cell p 35]) (hp : tmps.getD p undef = .pointer (some ⟨b, 0, none⟩)) (hr : Hid (w.rangeAt b 0 (cellsOf64 (ds X)))) :
    (results fn tmps).run Tryd.prog w = .ok (num X) w :=
  results_cell1 h ⟨b, 0, none⟩ _ hp (run_loadVar_mid _ b 0 35 (cellsOf64 (ds X)) _ hr.out Tryd.underlying35 rfl (sizeEl.trans (congrArg some (dsc_len X).symm)))
theorem sc_result {fn : Func} {p : Tmp} {w : World} {tmps : Array Value} {b X : Nat} (h : fn.results = #[.cell p 44]) (hp : tmps.getD p undef = .pointer (some ⟨b, 0, none⟩)) (hr : Hid (w.rangeAt b 0 (cellsOf64 (ds X)))) :
    (results fn tmps).run Tryd.prog w = .ok (num X) w :=
  results_cell1 h ⟨b, 0, none⟩ _ hp (run_loadVar_mid _ b 0 44 (cellsOf64 (ds X)) _ hr.out Tryd.underlying44 rfl (sizeSc.trans (congrArg some (dsc_len X).symm)))
theorem by_result {fn : Func} {p : Tmp} {w : World} {tmps : Array Value} {b : Nat} {l : List Nat} (h : fn.results = #[.cell p 70]) (hp : tmps.getD p undef = .pointer (some ⟨b, 0, none⟩)) (hr : BlkB w b 70 l) (hl : l.length = 96) :
    (results fn tmps).run Tryd.prog w = .ok (.agg (cells8 l).toArray) w :=
  results_cell1 h ⟨b, 0, none⟩ _ hp (run_loadVar_mid _ b 0 70 (cells8 l) _ hr.range Tryd.underlying70 rfl (size96.trans (congrArg some (by simp [cells8, hl]))))

set_option maxRecDepth 20000 in
theorem one_c (w : World) : Calls Tryd.prog 33 #[] w fun e w' => e = .returned (num 1) ∧ Below w.heap.size w w' := by
  go_enter Tryd.func33, Tryd.ntmps33
  go_wp2
  change bodyPost _ _ _ _ _ (w.alloc (o12 35 1))
  refine bodyPost_ret (el_result Tryd.results33 rfl (hid (o12_new w 35 1).range)) rfl ?_
  exact ⟨rfl, (Below.refl _ _).alloc (Nat.le_refl _) _⟩
set_option maxRecDepth 20000 in
theorem generator_c (w : World) : Calls Tryd.prog 34 #[] w fun e w' => e = .returned (num 4) ∧ Below w.heap.size w w' := by
  go_enter Tryd.func34, Tryd.ntmps34
  go_wp2
  change bodyPost _ _ _ _ _ (w.alloc (o12 35 4))
  refine bodyPost_ret (el_result Tryd.results34 rfl (hid (o12_new w 35 4).range)) rfl ?_
  exact ⟨rfl, (Below.refl _ _).alloc (Nat.le_refl _) _⟩

/-- A number in memory, and 96 bytes beside. -/

theorem boxBy (w : World) (t : TypeId) (X : Nat) : BlkW ((w.alloc (o12 t X)).alloc (.cells Tryd.zeroCells70 70)) w.heap.size t (ds X) ∧ BlkB ((w.alloc (o12 t X)).alloc (.cells Tryd.zeroCells70 70)) (w.heap.size + 1) 70 (List.replicate 96 0) ∧ Below w.heap.size w ((w.alloc (o12 t X)).alloc (.cells Tryd.zeroCells70 70)) := by
  rw [z96_eq]
  have h2 := o96_new (w.alloc (o12 t X)) 70
  have e : (w.alloc (o12 t X)).heap.size = w.heap.size + 1 := by simp
  rw [e] at h2
  exact ⟨(o12_new w t X).alloc _, h2, ((Below.refl _ _).alloc (Nat.le_refl _) _).alloc (by omega) _⟩
/-- 96 bytes stored over 96 zeros. -/
theorem stored96 {w : World} {b : Nat} (h : BlkB w b 70 (List.replicate 96 0)) (l : List Nat) (hl : l.length = 96) (hlt : allLt8 l) :
    (storeCells ⟨b, 0, none⟩ (cells8 l)).run Tryd.prog w = .ok () (w.setCells b 0 (cells8 l)) ∧ BlkB (w.setCells b 0 (cells8 l)) b 70 l := by
  refine ⟨store8 b l w (by rw [hl]; exact h.there), ?_⟩
  have h2 := setCells_blkB (w := w) (b := b) (t := 70) l (List.replicate 96 0) [] (by simpa using h.heap) (by simp [hl])
  simp only [List.nil_append, List.length_nil] at h2
  exact ⟨h2, hlt⟩

set_option maxRecDepth 20000 in
theorem elBytes_c (X : Nat) (w : World) (hX : Hid (X < W12)) : Calls Tryd.prog 46 #[num X] w fun e w' => ∃ r, e = .returned r ∧ By96 r X ∧ Below w.heap.size w w' := by
  have hlX := dsc_len X
  obtain ⟨a1, a2, a3⟩ := boxBy w 35 X
  have HB := hid a2
  have HL := hid a3
  clear a1 a2 a3
  unfold num
  go_enter Tryd.func46, Tryd.ntmps46
  go_wp2_with fail
  change Calls _ _ _ ((w.alloc (o12 35 X)).alloc (.cells Tryd.zeroCells70 70)) _
  generalize (w.alloc (o12 35 X)).alloc (.cells Tryd.zeroCells70 70) = w0 at *
  refine (write_c X w0 hX).mono ?_
  rintro e w1 ⟨r, rfl, hr, b1⟩
  obtain ⟨l, rfl, hl, hlt, hv⟩ := hr
  have hl1 := HL.out.trans (b1.mono HL.out.size)
  obtain ⟨hst, hB⟩ := stored96 (HB.out.below b1 HB.out.size) l hl hlt
  have HB1 := hid hB
  have hlen : (cells8 l).length = 96 := by simp [cells8, hl]
  clear b1 HB HL hB
  go_wp2
  refine bodyPost_ret (by_result Tryd.results46 rfl HB1.out hl) rfl ?_
  exact ⟨_, rfl, ⟨l, rfl, hl, hlt, hv⟩, below_cells (by omega) _ _ _ hl1⟩

set_option maxRecDepth 20000 in
theorem scBytes_c (X : Nat) (w : World) (hX : Hid (X < W12)) : Calls Tryd.prog 67 #[num X] w fun e w' => ∃ r, e = .returned r ∧ By96 r X ∧ Below w.heap.size w w' := by
  have hlX := dsc_len X
  obtain ⟨a1, a2, a3⟩ := boxBy w 44 X
  have HB := hid a2
  have HL := hid a3
  clear a1 a2 a3
  unfold num
  go_enter Tryd.func67, Tryd.ntmps67
  go_wp2_with fail
  change Calls _ _ _ ((w.alloc (o12 44 X)).alloc (.cells Tryd.zeroCells70 70)) _
  generalize (w.alloc (o12 44 X)).alloc (.cells Tryd.zeroCells70 70) = w0 at *
  refine (write_c X w0 hX).mono ?_
  rintro e w1 ⟨r, rfl, hr, b1⟩
  obtain ⟨l, rfl, hl, hlt, hv⟩ := hr
  have hl1 := HL.out.trans (b1.mono HL.out.size)
  obtain ⟨hst, hB⟩ := stored96 (HB.out.below b1 HB.out.size) l hl hlt
  have HB1 := hid hB
  have hlen : (cells8 l).length = 96 := by simp [cells8, hl]
  clear b1 HB HL hB
  go_wp2
  refine bodyPost_ret (by_result Tryd.results67 rfl HB1.out hl) rfl ?_
  exact ⟨_, rfl, ⟨l, rfl, hl, hlt, hv⟩, below_cells (by omega) _ _ _ hl1⟩
end Go.Proofs.YtfonpmahcdmajaaDoor
