import Derived.Test.YtfonpmahcdmajaaDoorWidU
import Derived.Laws.StructEq
import Derived.Deep.RegionHeld3
import Derived.Deep.CutBlock
import Derived.Deep.DeepCutAuto
/-
  group: elements and exponents as values; One, Generator, Bytes, Equal: what each call does.
-/
namespace Go.Proofs.YtfonpmahcdmajaaDoor
open Go.RowKit
set_option linter.unusedVariables false

theorem build_el (X : Nat) (w : World) : (Instr.build 35 #[(0, .agg (cellsOf64 (ds X)).toArray)]).run Tryd.prog w = .ok (.agg (cellsOf64 (ds X)).toArray) w := run_build w _ _ _ (by kernel_rfl)
theorem build_sc (X : Nat) (w : World) : (Instr.build 44 #[(0, .agg (cellsOf64 (ds X)).toArray)]).run Tryd.prog w = .ok (.agg (cellsOf64 (ds X)).toArray) w := run_build w _ _ _ (by kernel_rfl)
theorem field_el (X : Nat) (w : World) : (Instr.field 35 (.agg (cellsOf64 (ds X)).toArray) 0).run Tryd.prog w = .ok (.agg (cellsOf64 (ds X)).toArray) w := by kernel_rfl
theorem sizeEl : (Tryd.prog.info? 35).map (·.size) = some 12 := by kernel_rfl
theorem sizeSc : (Tryd.prog.info? 44).map (·.size) = some 12 := by kernel_rfl
theorem num_4 : num 4 = .agg #[.int .u64 4, .int .u64 0, .int .u64 0, .int .u64 0, .int .u64 0, .int .u64 0, .int .u64 0, .int .u64 0, .int .u64 0, .int .u64 0, .int .u64 0, .int .u64 0] := num_one 4 (by decide)
/-- What is stored into a place of twelve words, and read from it. -/
theorem num_storedT {w : World} {b X : Nat} {t : TypeId} (h : BlkW w b t (List.replicate 12 0)) :
    (storeCells ⟨b, 0, none⟩ (cellsOf64 (ds X))).run Tryd.prog w = .ok () (w.setCells b 0 (cellsOf64 (ds X))) ∧ Hid ((w.setCells b 0 (cellsOf64 (ds X))).rangeAt b 0 (cellsOf64 (ds X))) := by
  have hlen := dsc_len X
  exact ⟨store64 b (ds X) w (by rw [ds_len]; exact h.there), World.rangeAt_setCells_same w b 0 (cellsOf64 (ds X)) (by rw [hlen]; exact h.there)⟩
theorem el_result {fn : Func} {p : Tmp} {w : World} {tmps : Array Value} {b X : Nat} (h : fn.results = #[.cell p 35]) (hp : tmps.getD p undef = .pointer (some ⟨b, 0, none⟩)) (hr : Hid (w.rangeAt b 0 (cellsOf64 (ds X)))) :
    (results fn tmps).run Tryd.prog w = .ok (num X) w :=
  results_cell1 h ⟨b, 0, none⟩ _ hp (run_loadVar_mid _ b 0 35 (cellsOf64 (ds X)) _ hr.out Tryd.underlying35 rfl (sizeEl.trans (congrArg some (dsc_len X).symm)))
theorem sc_result {fn : Func} {p : Tmp} {w : World} {tmps : Array Value} {b X : Nat} (h : fn.results = #[.cell p 44]) (hp : tmps.getD p undef = .pointer (some ⟨b, 0, none⟩)) (hr : Hid (w.rangeAt b 0 (cellsOf64 (ds X)))) :
    (results fn tmps).run Tryd.prog w = .ok (num X) w :=
  results_cell1 h ⟨b, 0, none⟩ _ hp (run_loadVar_mid _ b 0 44 (cellsOf64 (ds X)) _ hr.out Tryd.underlying44 rfl (sizeSc.trans (congrArg some (dsc_len X).symm)))
theorem by_result {fn : Func} {p : Tmp} {w : World} {tmps : Array Value} {b : Nat} {l : List Nat} (h : fn.results = #[.cell p 70]) (hp : tmps.getD p undef = .pointer (some ⟨b, 0, none⟩)) (hr : BlkB w b 70 l) (hl : l.length = 96) :
    (results fn tmps).run Tryd.prog w = .ok (.agg (cells8 l).toArray) w :=
  results_cell1 h ⟨b, 0, none⟩ _ hp (run_loadVar_mid _ b 0 70 (cells8 l) _ hr.range Tryd.underlying70 rfl (size96.trans (congrArg some (by simp [cells8, hl]))))

set_option maxRecDepth 20000 in
theorem one_c (w : World) : Calls Tryd.prog 33 #[] w fun e w' => e = .returned (num 1) ∧ Below w.heap.size w w' := by
  go_enter Tryd.func33, Tryd.ntmps33
  go_wp2
  change bodyPost _ _ _ _ _ (w.alloc (o12 35 1))
  refine bodyPost_ret (el_result Tryd.results33 rfl (hid (o12_new w 35 1).range)) rfl ?_
  exact ⟨rfl, (Below.refl _ _).alloc (Nat.le_refl _) _⟩
set_option maxRecDepth 20000 in
theorem generator_c (w : World) : Calls Tryd.prog 34 #[] w fun e w' => e = .returned (num 4) ∧ Below w.heap.size w w' := by
  go_enter Tryd.func34, Tryd.ntmps34
  go_wp2
  change bodyPost _ _ _ _ _ (w.alloc (o12 35 4))
  refine bodyPost_ret (el_result Tryd.results34 rfl (hid (o12_new w 35 4).range)) rfl ?_
  exact ⟨rfl, (Below.refl _ _).alloc (Nat.le_refl _) _⟩

/-- A number in memory, and 96 bytes beside. -/

theorem boxBy (w : World) (t : TypeId) (X : Nat) : BlkW ((w.alloc (o12 t X)).alloc (.cells Tryd.zeroCells70 70)) w.heap.size t (ds X) ∧ BlkB ((w.alloc (o12 t X)).alloc (.cells Tryd.zeroCells70 70)) (w.heap.size + 1) 70 (List.replicate 96 0) ∧ Below w.heap.size w ((w.alloc (o12 t X)).alloc (.cells Tryd.zeroCells70 70)) := by
  rw [z96_eq]
  have h2 := o96_new (w.alloc (o12 t X)) 70
  have e : (w.alloc (o12 t X)).heap.size = w.heap.size + 1 := by simp
  rw [e] at h2
  exact ⟨(o12_new w t X).alloc _, h2, ((Below.refl _ _).alloc (Nat.le_refl _) _).alloc (by omega) _⟩
/-- 96 bytes stored over 96 zeros. -/
theorem stored96 {w : World} {b : Nat} (h : BlkB w b 70 (List.replicate 96 0)) (l : List Nat) (hl : l.length = 96) (hlt : allLt8 l) :
    (storeCells ⟨b, 0, none⟩ (cells8 l)).run Tryd.prog w = .ok () (w.setCells b 0 (cells8 l)) ∧ BlkB (w.setCells b 0 (cells8 l)) b 70 l := by
  refine ⟨store8 b l w (by rw [hl]; exact h.there), ?_⟩
  have h2 := setCells_blkB (w := w) (b := b) (t := 70) l (List.replicate 96 0) [] (by simpa using h.heap) (by simp [hl])
  simp only [List.nil_append, List.length_nil] at h2
  exact ⟨h2, hlt⟩

set_option maxRecDepth 20000 in
theorem elBytes_c (X : Nat) (w : World) (hX : Hid (X < W12)) : Calls Tryd.prog 46 #[num X] w fun e w' => ∃ r, e = .returned r ∧ By96 r X ∧ Below w.heap.size w w' := by
  have hlX := dsc_len X
  obtain ⟨a1, a2, a3⟩ := boxBy w 35 X
  have HB := hid a2
  have HL := hid a3
  clear a1 a2 a3
  unfold num
  go_enter Tryd.func46, Tryd.ntmps46
  go_wp2_with fail
  change Calls _ _ _ ((w.alloc (o12 35 X)).alloc (.cells Tryd.zeroCells70 70)) _
  generalize (w.alloc (o12 35 X)).alloc (.cells Tryd.zeroCells70 70) = w0 at *
  refine (write_c X w0 hX).mono ?_
  rintro e w1 ⟨r, rfl, hr, b1⟩
  obtain ⟨l, rfl, hl, hlt, hv⟩ := hr
  have hl1 := HL.out.trans (b1.mono HL.out.size)
  obtain ⟨hst, hB⟩ := stored96 (HB.out.below b1 HB.out.size) l hl hlt
  have HB1 := hid hB
  have hlen : (cells8 l).length = 96 := by simp [cells8, hl]
  clear b1 HB HL hB
  go_wp2
  refine bodyPost_ret (by_result Tryd.results46 rfl HB1.out hl) rfl ?_
  exact ⟨_, rfl, ⟨l, rfl, hl, hlt, hv⟩, below_cells (by omega) _ _ _ hl1⟩

set_option maxRecDepth 20000 in
theorem scBytes_c (X : Nat) (w : World) (hX : Hid (X < W12)) : Calls Tryd.prog 67 #[num X] w fun e w' => ∃ r, e = .returned r ∧ By96 r X ∧ Below w.heap.size w w' := by
  have hlX := dsc_len X
  obtain ⟨a1, a2, a3⟩ := boxBy w 44 X
  have HB := hid a2
  have HL := hid a3
  clear a1 a2 a3
  unfold num
  go_enter Tryd.func67, Tryd.ntmps67
  go_wp2_with fail
  change Calls _ _ _ ((w.alloc (o12 44 X)).alloc (.cells Tryd.zeroCells70 70)) _
  generalize (w.alloc (o12 44 X)).alloc (.cells Tryd.zeroCells70 70) = w0 at *
  refine (write_c X w0 hX).mono ?_
  rintro e w1 ⟨r, rfl, hr, b1⟩
  obtain ⟨l, rfl, hl, hlt, hv⟩ := hr
  have hl1 := HL.out.trans (b1.mono HL.out.size)
  obtain ⟨hst, hB⟩ := stored96 (HB.out.below b1 HB.out.size) l hl hlt
  have HB1 := hid hB
  have hlen : (cells8 l).length = 96 := by simp [cells8, hl]
  clear b1 HB HL hB
  go_wp2
  refine bodyPost_ret (by_result Tryd.results67 rfl HB1.out hl) rfl ?_
  exact ⟨_, rfl, ⟨l, rfl, hl, hlt, hv⟩, below_cells (by omega) _ _ _ hl1⟩
end Go.Proofs.YtfonpmahcdmajaaDoor
/-
  group: Equal, belongs, Mul, Exp: what each call does.
-/
namespace Go.Proofs.YtfonpmahcdmajaaDoor
open Go.RowKit
set_option linter.unusedVariables false

theorem fields_el : ∃ f : Field, (Tryd.prog.fieldsOf 35).toList = [f] ∧ f.type = 24 ∧ f.offset = 0 ∧ f.name ≠ "_" :=
  ⟨((Tryd.prog.fieldsOf 35).toList).headD default, by kernel_rfl, by kernel_rfl, by kernel_rfl, by decide +kernel⟩
theorem part_num (X : Nat) (w : World) : (part 24 (cellsOf64 (ds X)).toArray 0).run Tryd.prog w = .ok (num X) w := by kernel_rfl
theorem grp_eq (w : World) (A B : Nat) (hA : A < W12) (hB : B < W12) : (Op.equalIn 10000 35 (.agg (cellsOf64 (ds A)).toArray) (.agg (cellsOf64 (ds B)).toArray)).run Tryd.prog w = .ok (decide (A = B)) w := by
  rw [run_equalIn_struct w 9999 35 _ _ (by kernel_rfl) (by kernel_rfl)]
  obtain ⟨f, e1, e2, e3, e4⟩ := fields_el
  rw [e1]
  have h := run_equalIn_words (P := Tryd.prog) w 9997 24 22 12 Tryd.underlying24 Tryd.underlying22 sz64 (ds A) (ds B) (ds_len A) (ds_len B)
  have e : decide (ds A = ds B) = decide (A = B) := by
    rw [Bool.eq_iff_iff, decide_eq_true_iff, decide_eq_true_iff]
    refine ⟨fun h => ?_, fun h => by rw [h]⟩
    rw [← ds_val A hA, ← ds_val B hB, h]
  rw [e] at h
  unfold Op.eqFields
  rw [if_pos e4]
  simp only [Sem.run_bind, e2, e3, part_num, Result.andThen_ok]
  unfold num
  rw [h]
  cases decide (A = B) <;> simp [Op.eqFields]

theorem num_cells (X : Nat) : ∃ a0 a1 a2 a3 a4 a5 a6 a7 a8 a9 a10 a11 : Int, num X = .agg #[.int .u64 a0, .int .u64 a1, .int .u64 a2, .int .u64 a3, .int .u64 a4, .int .u64 a5, .int .u64 a6, .int .u64 a7, .int .u64 a8, .int .u64 a9, .int .u64 a10, .int .u64 a11] := ⟨_, _, _, _, _, _, _, _, _, _, _, _, rfl⟩
set_option maxRecDepth 20000 in
theorem grEq_c (X Y : Nat) (w : World) (hX : X < W12) (hY : Y < W12) :
    Calls Tryd.prog 26 #[num X, num Y] w fun e w' => e = .returned (.bool (decide (X = Y))) ∧ Below w.heap.size w w' := by
  have hq : ∀ w, (Op.equalIn 10000 35 (num X) (num Y)).run Tryd.prog w = .ok (decide (X = Y)) w := fun w => grp_eq w X Y hX hY
  obtain ⟨a0, a1, a2, a3, a4, a5, a6, a7, a8, a9, a10, a11, ea⟩ := num_cells X
  obtain ⟨b0, b1, b2, b3, b4, b5, b6, b7, b8, b9, b10, b11, eb⟩ := num_cells Y
  rw [ea, eb] at hq ⊢
  clear ea eb hX hY
  generalize decide (X = Y) = q at *
  cases q
  · go_enter Tryd.func26, Tryd.ntmps26
    go_wp2
    go_ret
    exact ⟨rfl, ((Below.refl _ _).alloc (Nat.le_refl _) _).alloc (by simp) _⟩
  · go_enter Tryd.func26, Tryd.ntmps26
    go_wp2
    go_ret
    exact ⟨rfl, ((Below.refl _ _).alloc (Nat.le_refl _) _).alloc (by simp) _⟩

/-- What is kept: a number in memory, and the table. -/
structure EnvB (w : World) (bx X : Nat) (v : World) : Prop where
  x : BlkW v bx 24 (ds X)
  g : GlobW v
  b : Below w.heap.size w v
theorem EnvB.up {w : World} {bx X : Nat} {v v' : World} (h : EnvB w bx X v) (hb : Below v.heap.size v v') : EnvB w bx X v' :=
  ⟨h.x.below hb h.x.size, h.g.up hb, bchain h.b hb⟩
set_option maxRecDepth 100000 in
set_option maxHeartbeats 4000000 in
theorem belongs_c (X : Nat) (w : World) (hX : X < W12) (hG : GlobW w) :
    Calls Tryd.prog 61 #[num X] w fun e w' => e = .returned (.bool (decide (X ^ bigQ % bigP = 1))) ∧ Below w.heap.size w w' := by
  have hlX := dsc_len X
  have a1 := o12_new w 24 X
  have a2 := (Below.refl w.heap.size w).alloc (Nat.le_refl _) (o12 24 X)
  have hG0 := hG.up a2
  obtain ⟨Z, hZ⟩ : ∃ Z, Z = X ^ bigQ % bigP := ⟨_, rfl⟩
  have hZl : Z < W12 := by rw [hZ]; exact Nat.lt_trans (Nat.mod_lt _ (by decide)) bigP_lt
  have CE0 := fun (b : Nat) (v : World) (h : RingP v b bigP) => rExp_c b X bigQ bigP v h hX bigQ_lt bigP_lt (by decide)
  rw [← hZ] at CE0 ⊢
  have E0 : EnvB w w.heap.size X ((w.alloc (o12 24 X)).drew) := (EnvB.mk a1 hG0 a2).up (Below.refl _ _).drew
  clear hG hG0 a1 a2 hZ
  unfold num
  go_enter Tryd.func61, Tryd.ntmps61
  go_wp2_with fail
  change Code.wp _ _ _ _ (w.alloc (o12 24 X))
  generalize w.alloc (o12 24 X) = w0 at *
  clear hlX
  generalize hbx : w.heap.size = bx at *
  go_cut [2] (fun s wx => s = .bool (decide (Z = 1)) ∧ EnvB w bx X wx)
  case first =>
    obtain ⟨n12, hn12⟩ : ∃ n : Nat, n = 12 := ⟨_, rfl⟩
    have L1 : ∀ v, EnvB w bx X v → (loadCellsFrom ⟨bx, 0, none⟩ 0 n12 #[]).run Tryd.prog v = .ok (cellsOf64 (ds X)).toArray v := fun v h => by rw [hn12]; exact cells_num h.x
    have CG : ∀ v, GlobW v → Calls Tryd.prog 47 #[] v fun e w' => ∃ b, e = .returned (.pointer (some ⟨b, 0, none⟩)) ∧ RingP w' b bigP ∧ Below v.heap.size v w' := fun v h => group_c v h
    have CX : ∀ v, GlobW v → Calls Tryd.prog 50 #[] v fun e w' => ∃ b, e = .returned (.pointer (some ⟨b, 0, none⟩)) ∧ RingP w' b bigQ ∧ Below v.heap.size v w' := fun v h => exponents_c v h
    have CS : ∀ b v, RingP v b bigQ → Calls Tryd.prog 11 #[.pointer (some ⟨b, 0, none⟩)] v fun e w' => e = .returned (.agg (cellsOf64 (ds bigQ)).toArray) ∧ Below v.heap.size v w' := fun b v h => size_c b bigQ v h bigQ_lt
    have CE : ∀ b v, RingP v b bigP → Calls Tryd.prog 14 #[.pointer (some ⟨b, 0, none⟩), .agg (cellsOf64 (ds X)).toArray, .agg (cellsOf64 (ds bigQ)).toArray] v fun e w' => e = .returned (.agg (cellsOf64 (ds Z)).toArray) ∧ Below v.heap.size v w' := CE0
    have CO : ∀ v, Calls Tryd.prog 33 #[] v fun e w' => e = .returned (.agg (cellsOf64 (ds 1)).toArray) ∧ Below v.heap.size v w' := fun v => one_c v
    have F0 : ∀ v, (Instr.field 35 (.agg (cellsOf64 (ds 1)).toArray) 0).run Tryd.prog v = .ok (.agg (cellsOf64 (ds 1)).toArray) v := field_el 1
    have F1 : ∀ v, (Op.equalIn 10000 24 (.agg (cellsOf64 (ds Z)).toArray) (.agg (cellsOf64 (ds 1)).toArray)).run Tryd.prog v = .ok (decide (Z = 1)) v := fun v => num_eq v Z 1 hZl (by decide)
    have G1 := agg_num
    have G2 : ∀ v, (sizeOf 24).run Tryd.prog v = .ok n12 v := by rw [hn12]; exact size_num
    clear hn12
    have G3 := Tryd.eqGuardType24
    have N1 := Tryd.call47
    have N2 := Tryd.call50
    have N3 := Tryd.call11
    have N4 := Tryd.call14
    have N5 := Tryd.call33
    clear CE0
    generalize ds bigQ = dq at *
    generalize ds 1 = d1 at *
    generalize decide (Z = 1) = q1 at *
    generalize Tryd.prog = P at CG CX CS CE CO F0 F1 L1 G1 G2 G3 N1 N2 N3 N4 N5 ⊢
    go_region_held3 (fun w' => EnvB w bx X w') (with_reducible assumption) (first
      | (go_at_call 47; with_reducible refine (CG _ (EnvB.g (by with_reducible assumption))).mono ?_; rintro e v ⟨b, rfl, hr, hb⟩; have hE := EnvB.up (by with_reducible assumption) hb; dsimp only)
      | (go_at_call 50; with_reducible refine (CX _ (EnvB.g (by with_reducible assumption))).mono ?_; rintro e v ⟨b, rfl, hr, hb⟩; have hE := EnvB.up (by with_reducible assumption) hb; have hR := RingP.up (X := bigP) (by with_reducible assumption) hb; dsimp only)
      | (go_at_call 11; with_reducible refine (CS _ _ (by with_reducible assumption)).mono ?_; rintro e v ⟨rfl, hb⟩; have hE := EnvB.up (by with_reducible assumption) hb; have hR := RingP.up (X := bigP) (by with_reducible assumption) hb; dsimp only)
      | (go_at_call 14; with_reducible refine (CE _ _ (by with_reducible assumption)).mono ?_; rintro e v ⟨rfl, hb⟩; have hE := EnvB.up (by with_reducible assumption) hb; dsimp only)
      | (go_at_call 33; with_reducible refine (CO _).mono ?_; rintro e v ⟨rfl, hb⟩; have hE := EnvB.up (by with_reducible assumption) hb; dsimp only))
    go_wp2_with fail
    go_meet
    exact ⟨rfl, hE⟩
  case rest =>
    obtain ⟨rfl, hE⟩ := hcut
    clear CE0
    go_wp2
    go_ret
    exact ⟨rfl, hE.b⟩
end Go.Proofs.YtfonpmahcdmajaaDoor
