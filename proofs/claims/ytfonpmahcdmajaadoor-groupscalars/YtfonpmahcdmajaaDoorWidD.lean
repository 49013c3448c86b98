/-
  wide.join, (*Ring).Add, Sub, Mul, Exp: what each call does.
-/
import Derived.Test.YtfonpmahcdmajaaDoorFrameW
namespace Go.Proofs.YtfonpmahcdmajaaDoor
open Go.RowKit
set_option linter.unusedVariables false

/-- Two numbers in memory, and a place for the result. -/
theorem boxes (w : World) (X Y : Nat) :
    BlkW (((w.alloc (o12 24 X)).alloc (o12 24 Y)).alloc (z12 24)) w.heap.size 24 (ds X) ∧
    BlkW (((w.alloc (o12 24 X)).alloc (o12 24 Y)).alloc (z12 24)) (w.heap.size + 1) 24 (ds Y) ∧
    BlkW (((w.alloc (o12 24 X)).alloc (o12 24 Y)).alloc (z12 24)) (w.heap.size + 1 + 1) 24 (List.replicate 12 0) ∧
    Below w.heap.size w (((w.alloc (o12 24 X)).alloc (o12 24 Y)).alloc (z12 24)) := by
  have e1 : (w.alloc (o12 24 X)).heap.size = w.heap.size + 1 := by simp
  have e2 : ((w.alloc (o12 24 X)).alloc (o12 24 Y)).heap.size = w.heap.size + 1 + 1 := by simp
  have h2 := (o12_new (w.alloc (o12 24 X)) 24 Y).alloc (z12 24)
  have h3 := z12_new ((w.alloc (o12 24 X)).alloc (o12 24 Y)) 24
  rw [e1] at h2
  rw [e2] at h3
  exact ⟨((o12_new w 24 X).alloc _).alloc _, h2, h3, (((Below.refl _ _).alloc (Nat.le_refl _) _).alloc (by omega) _).alloc (by omega) _⟩

set_option maxRecDepth 20000 in
set_option maxHeartbeats 1000000 in
theorem joinAdd_c (p X Y M : Nat) (w : World) (hM : ModP w p (ds M)) (hX : X < W12) (hY : Y < W12) (hm : M < W12) (h0 : 0 < M) :
    Calls Tryd.prog 56 #[.func (.func 86) #[.pointer (some ⟨p, 0, none⟩)] #[], num X, num Y] w fun e w' => e = .returned (num ((X + Y) % M)) ∧ Below w.heap.size w w' := by
  have hlX := dsc_len X
  have hlY := dsc_len Y
  obtain ⟨a1, a2, a3, a4⟩ := boxes w X Y
  have hM0 := hM.keep a4 hM.lt
  have VX := hid (ds_val X hX)
  have VY := hid (ds_val Y hY)
  have VM := hid (ds_val M hm)
  have HL := hid a4
  have HZ := hid a3
  obtain ⟨Z, hZ⟩ : ∃ Z, Z = (X + Y) % M := ⟨_, rfl⟩
  rw [← hZ]
  have EZ := hid hZ
  have H0 := hid h0
  clear hM a4 a3 hX hY hm hZ h0
  unfold num
  go_enter Tryd.func56, Tryd.ntmps56
  go_wp2_with fail
  change Code.wp _ _ _ _ (((w.alloc (o12 24 X)).alloc (o12 24 Y)).alloc (z12 24))
  generalize ((w.alloc (o12 24 X)).alloc (o12 24 Y)).alloc (z12 24) = w0 at *
  clear hlX hlY
  have a1 : BlkW w0.drew w.heap.size 24 (ds X) := a1.drewN 1
  have a2 : BlkW w0.drew (w.heap.size + 1) 24 (ds Y) := a2.drewN 1
  have r1 := a1.rd0 a1.size (ds_len X)
  have r2 := a2.rd0 a2.size (ds_len Y)
  have hM1 : ModP w0.drew p (ds M) := hM0.keep ((Below.refl _ _).drew) hM0.lt
  have HZ1 : Hid (BlkW w0.drew (w.heap.size + 1 + 1) 24 (List.replicate 12 0)) := HZ.out.drewN 1
  have HL1 : Hid (Below w.heap.size w w0.drew) := HL.out.drew
  clear a1 a2 hM0 HZ HL
  go_still_tail 3, (by kernel_rfl)
  change wpList _ _ _ _ _ w0.drew
  generalize w0.drew = w1 at *
  go_wp2_with (
    (go_at_call 86
     refine (madd_c _ _ 12 12 12 12 p (ds X) (ds Y) (ds M) w1 r1 r2 hM1 (by decide) (by decide) (by rw [VM.out]; exact H0.out)).mono ?_
     rintro e w2 ⟨A, c, l, rfl, hc, rl, vl, b2⟩
     rw [ds_len] at rl hc ⊢
     rw [VX.out, VY.out, VM.out, ← EZ.out] at vl
     have EV := hid vl
     clear vl r1 r2 hM1))
  refine (numberOf_c A 12 c l w2 rl (by decide)).mono ?_
  rintro e w3 ⟨rfl, b3⟩
  rw [EV.out]
  have hl2 := HL1.out.trans (b2.mono HL1.out.size)
  have hl3 := hl2.trans (b3.mono hl2.size)
  have hZ3 := (HZ1.out.below b2 HZ1.out.size).below b3 (Nat.lt_of_lt_of_le HZ1.out.size b2.size)
  obtain ⟨hst, HR⟩ := num_stored (X := Z) hZ3
  have hlen := dsc_len Z
  clear b2 b3 rl hZ3 HZ1 HL1 hl2
  unfold num
  go_wp2
  refine bodyPost_ret (num_result Tryd.results56 rfl HR) rfl ?_
  exact ⟨rfl, below_cells (by omega) _ _ _ hl3⟩

set_option maxRecDepth 20000 in
set_option maxHeartbeats 1000000 in
theorem rAdd_c (b X Y M : Nat) (w : World) (hR : RingP w b M) (hX : X < W12) (hY : Y < W12) (hm : M < W12) (h0 : 0 < M) :
    Calls Tryd.prog 51 #[.pointer (some ⟨b, 0, none⟩), num X, num Y] w fun e w' => e = .returned (num ((X + Y) % M)) ∧ Below w.heap.size w w' := by
  have hlX := dsc_len X
  have hlY := dsc_len Y
  obtain ⟨a1, a2, a3, a4⟩ := boxes w X Y
  have hR0 := hR.up a4
  have HL := hid a4
  have HZ := hid a3
  have HX := hid hX
  have HY := hid hY
  have HM := hid hm
  have H0 := hid h0
  obtain ⟨Z, hZ⟩ : ∃ Z, Z = (X + Y) % M := ⟨_, rfl⟩
  rw [← hZ]
  have EZ := hid hZ
  clear hR a4 a3 hX hY hm hZ h0
  unfold num
  go_enter Tryd.func51, Tryd.ntmps51
  go_wp2_with fail
  change Code.wp _ _ _ _ (((w.alloc (o12 24 X)).alloc (o12 24 Y)).alloc (z12 24))
  generalize ((w.alloc (o12 24 X)).alloc (o12 24 Y)).alloc (z12 24) = w0 at *
  have a1 : BlkW w0.drew w.heap.size 24 (ds X) := a1.drewN 1
  have a2 : BlkW w0.drew (w.heap.size + 1) 24 (ds Y) := a2.drewN 1
  have hR1 : RingP w0.drew b M := hR0.up ((Below.refl _ _).drew)
  have HZ1 : Hid (BlkW w0.drew (w.heap.size + 1 + 1) 24 (List.replicate 12 0)) := HZ.out.drewN 1
  have HL1 : Hid (Below w.heap.size w w0.drew) := HL.out.drew
  have HG1 := hid a1.range
  have HG2 := hid a2.range
  have HI1 := hid (sizeNb.trans (congrArg some hlX.symm))
  have HI2 := hid (sizeNb.trans (congrArg some hlY.symm))
  obtain ⟨p, h1, h2, h3⟩ := hR1
  have hmf : ∀ (fn : Fn) (first cap : Array Value) (w : World), (Instr.makeFunc fn first cap).run Tryd.prog w = .ok (.func fn first cap) w := fun _ _ _ _ => rfl
  clear a1 a2 hR0 HZ HL hlX hlY
  refine wp_region_still_tail 7 (by kernel_rfl) (by kernel_rfl) ?_
  simp only [List.take_succ_cons, List.take_zero, List.drop_succ_cons, List.drop_zero]
  iterate 5 still_step
  refine still_load rfl 24 (.tmp 4) rfl w.heap.size 0 rfl (cellsOf64 (ds X)) _ HG1.out Tryd.underlying24 rfl HI1.out ?_
  refine still_load rfl 24 (.tmp 5) rfl (w.heap.size + 1) 0 rfl (cellsOf64 (ds Y)) _ HG2.out Tryd.underlying24 rfl HI2.out ?_
  refine wpStill_nil ?_
  change wpList _ _ _ _ _ w0.drew
  generalize w0.drew = w1 at *
  go_wp2_with fail
  refine (joinAdd_c p X Y M w1 h3 HX.out HY.out HM.out H0.out).mono ?_
  rintro e w2 ⟨rfl, b2⟩
  rw [← EZ.out]
  have hl2 := HL1.out.trans (b2.mono HL1.out.size)
  have hZ2 := HZ1.out.below b2 HZ1.out.size
  obtain ⟨hst, HR⟩ := num_stored (X := Z) hZ2
  have hlen := dsc_len Z
  clear b2 hZ2 HZ1 HL1 h1 h2 h3 hmf
  unfold num
  go_wp2
  refine bodyPost_ret (num_result Tryd.results51 rfl HR) rfl ?_
  exact ⟨rfl, below_cells (by omega) _ _ _ hl2⟩

set_option maxRecDepth 20000 in
set_option maxHeartbeats 1000000 in
theorem joinSub_c (p X Y M : Nat) (w : World) (hM : ModP w p (ds M)) (hX : X < W12) (hY : Y < W12) (hm : M < W12) (h0 : 0 < M) :
    Calls Tryd.prog 56 #[.func (.func 84) #[.pointer (some ⟨p, 0, none⟩)] #[], num X, num Y] w fun e w' => e = .returned (num ((X % M + M - Y % M) % M)) ∧ Below w.heap.size w w' := by
  have hlX := dsc_len X
  have hlY := dsc_len Y
  obtain ⟨a1, a2, a3, a4⟩ := boxes w X Y
  have hM0 := hM.keep a4 hM.lt
  have VX := hid (ds_val X hX)
  have VY := hid (ds_val Y hY)
  have VM := hid (ds_val M hm)
  have HL := hid a4
  have HZ := hid a3
  obtain ⟨Z, hZ⟩ : ∃ Z, Z = (X % M + M - Y % M) % M := ⟨_, rfl⟩
  rw [← hZ]
  have EZ := hid hZ
  have H0 := hid h0
  clear hM a4 a3 hX hY hm hZ h0
  unfold num
  go_enter Tryd.func56, Tryd.ntmps56
  go_wp2_with fail
  change Code.wp _ _ _ _ (((w.alloc (o12 24 X)).alloc (o12 24 Y)).alloc (z12 24))
  generalize ((w.alloc (o12 24 X)).alloc (o12 24 Y)).alloc (z12 24) = w0 at *
  clear hlX hlY
  have a1 : BlkW w0.drew w.heap.size 24 (ds X) := a1.drewN 1
  have a2 : BlkW w0.drew (w.heap.size + 1) 24 (ds Y) := a2.drewN 1
  have r1 := a1.rd0 a1.size (ds_len X)
  have r2 := a2.rd0 a2.size (ds_len Y)
  have hM1 : ModP w0.drew p (ds M) := hM0.keep ((Below.refl _ _).drew) hM0.lt
  have HZ1 : Hid (BlkW w0.drew (w.heap.size + 1 + 1) 24 (List.replicate 12 0)) := HZ.out.drewN 1
  have HL1 : Hid (Below w.heap.size w w0.drew) := HL.out.drew
  clear a1 a2 hM0 HZ HL
  go_still_tail 3, (by kernel_rfl)
  change wpList _ _ _ _ _ w0.drew
  generalize w0.drew = w1 at *
  go_wp2_with (
    (go_at_call 84
     refine (msub_c _ _ 12 12 12 12 p (ds X) (ds Y) (ds M) w1 r1 r2 hM1 (by decide) (by decide) (by rw [VM.out]; exact H0.out)).mono ?_
     rintro e w2 ⟨A, c, l, rfl, hc, rl, vl, b2⟩
     rw [ds_len] at rl hc ⊢
     rw [VX.out, VY.out, VM.out, ← EZ.out] at vl
     have EV := hid vl
     clear vl r1 r2 hM1))
  refine (numberOf_c A 12 c l w2 rl (by decide)).mono ?_
  rintro e w3 ⟨rfl, b3⟩
  rw [EV.out]
  have hl2 := HL1.out.trans (b2.mono HL1.out.size)
  have hl3 := hl2.trans (b3.mono hl2.size)
  have hZ3 := (HZ1.out.below b2 HZ1.out.size).below b3 (Nat.lt_of_lt_of_le HZ1.out.size b2.size)
  obtain ⟨hst, HR⟩ := num_stored (X := Z) hZ3
  have hlen := dsc_len Z
  clear b2 b3 rl hZ3 HZ1 HL1 hl2
  unfold num
  go_wp2
  refine bodyPost_ret (num_result Tryd.results56 rfl HR) rfl ?_
  exact ⟨rfl, below_cells (by omega) _ _ _ hl3⟩

set_option maxRecDepth 20000 in
set_option maxHeartbeats 1000000 in
theorem rSub_c (b X Y M : Nat) (w : World) (hR : RingP w b M) (hX : X < W12) (hY : Y < W12) (hm : M < W12) (h0 : 0 < M) :
    Calls Tryd.prog 49 #[.pointer (some ⟨b, 0, none⟩), num X, num Y] w fun e w' => e = .returned (num ((X % M + M - Y % M) % M)) ∧ Below w.heap.size w w' := by
  have hlX := dsc_len X
  have hlY := dsc_len Y
  obtain ⟨a1, a2, a3, a4⟩ := boxes w X Y
  have hR0 := hR.up a4
  have HL := hid a4
  have HZ := hid a3
  have HX := hid hX
  have HY := hid hY
  have HM := hid hm
  have H0 := hid h0
  obtain ⟨Z, hZ⟩ : ∃ Z, Z = (X % M + M - Y % M) % M := ⟨_, rfl⟩
  rw [← hZ]
  have EZ := hid hZ
  clear hR a4 a3 hX hY hm hZ h0
  unfold num
  go_enter Tryd.func49, Tryd.ntmps49
  go_wp2_with fail
  change Code.wp _ _ _ _ (((w.alloc (o12 24 X)).alloc (o12 24 Y)).alloc (z12 24))
  generalize ((w.alloc (o12 24 X)).alloc (o12 24 Y)).alloc (z12 24) = w0 at *
  have a1 : BlkW w0.drew w.heap.size 24 (ds X) := a1.drewN 1
  have a2 : BlkW w0.drew (w.heap.size + 1) 24 (ds Y) := a2.drewN 1
  have hR1 : RingP w0.drew b M := hR0.up ((Below.refl _ _).drew)
  have HZ1 : Hid (BlkW w0.drew (w.heap.size + 1 + 1) 24 (List.replicate 12 0)) := HZ.out.drewN 1
  have HL1 : Hid (Below w.heap.size w w0.drew) := HL.out.drew
  have HG1 := hid a1.range
  have HG2 := hid a2.range
  have HI1 := hid (sizeNb.trans (congrArg some hlX.symm))
  have HI2 := hid (sizeNb.trans (congrArg some hlY.symm))
  obtain ⟨p, h1, h2, h3⟩ := hR1
  have hmf : ∀ (fn : Fn) (first cap : Array Value) (w : World), (Instr.makeFunc fn first cap).run Tryd.prog w = .ok (.func fn first cap) w := fun _ _ _ _ => rfl
  clear a1 a2 hR0 HZ HL hlX hlY
  refine wp_region_still_tail 7 (by kernel_rfl) (by kernel_rfl) ?_
  simp only [List.take_succ_cons, List.take_zero, List.drop_succ_cons, List.drop_zero]
  iterate 5 still_step
  refine still_load rfl 24 (.tmp 4) rfl w.heap.size 0 rfl (cellsOf64 (ds X)) _ HG1.out Tryd.underlying24 rfl HI1.out ?_
  refine still_load rfl 24 (.tmp 5) rfl (w.heap.size + 1) 0 rfl (cellsOf64 (ds Y)) _ HG2.out Tryd.underlying24 rfl HI2.out ?_
  refine wpStill_nil ?_
  change wpList _ _ _ _ _ w0.drew
  generalize w0.drew = w1 at *
  go_wp2_with fail
  refine (joinSub_c p X Y M w1 h3 HX.out HY.out HM.out H0.out).mono ?_
  rintro e w2 ⟨rfl, b2⟩
  rw [← EZ.out]
  have hl2 := HL1.out.trans (b2.mono HL1.out.size)
  have hZ2 := HZ1.out.below b2 HZ1.out.size
  obtain ⟨hst, HR⟩ := num_stored (X := Z) hZ2
  have hlen := dsc_len Z
  clear b2 hZ2 HZ1 HL1 h1 h2 h3 hmf
  unfold num
  go_wp2
  refine bodyPost_ret (num_result Tryd.results49 rfl HR) rfl ?_
  exact ⟨rfl, below_cells (by omega) _ _ _ hl2⟩

set_option maxRecDepth 20000 in
set_option maxHeartbeats 1000000 in
theorem joinMul_c (p X Y M : Nat) (w : World) (hM : ModP w p (ds M)) (hX : X < W12) (hY : Y < W12) (hm : M < W12) (h0 : 0 < M) :
    Calls Tryd.prog 56 #[.func (.func 57) #[.pointer (some ⟨p, 0, none⟩)] #[], num X, num Y] w fun e w' => e = .returned (num (X * Y % M)) ∧ Below w.heap.size w w' := by
  have hlX := dsc_len X
  have hlY := dsc_len Y
  obtain ⟨a1, a2, a3, a4⟩ := boxes w X Y
  have hM0 := hM.keep a4 hM.lt
  have VX := hid (ds_val X hX)
  have VY := hid (ds_val Y hY)
  have VM := hid (ds_val M hm)
  have HL := hid a4
  have HZ := hid a3
  obtain ⟨Z, hZ⟩ : ∃ Z, Z = X * Y % M := ⟨_, rfl⟩
  rw [← hZ]
  have EZ := hid hZ
  have H0 := hid h0
  clear hM a4 a3 hX hY hm hZ h0
  unfold num
  go_enter Tryd.func56, Tryd.ntmps56
  go_wp2_with fail
  change Code.wp _ _ _ _ (((w.alloc (o12 24 X)).alloc (o12 24 Y)).alloc (z12 24))
  generalize ((w.alloc (o12 24 X)).alloc (o12 24 Y)).alloc (z12 24) = w0 at *
  clear hlX hlY
  have a1 : BlkW w0.drew w.heap.size 24 (ds X) := a1.drewN 1
  have a2 : BlkW w0.drew (w.heap.size + 1) 24 (ds Y) := a2.drewN 1
  have r1 := a1.rd0 a1.size (ds_len X)
  have r2 := a2.rd0 a2.size (ds_len Y)
  have hM1 : ModP w0.drew p (ds M) := hM0.keep ((Below.refl _ _).drew) hM0.lt
  have HZ1 : Hid (BlkW w0.drew (w.heap.size + 1 + 1) 24 (List.replicate 12 0)) := HZ.out.drewN 1
  have HL1 : Hid (Below w.heap.size w w0.drew) := HL.out.drew
  clear a1 a2 hM0 HZ HL
  go_still_tail 3, (by kernel_rfl)
  change wpList _ _ _ _ _ w0.drew
  generalize w0.drew = w1 at *
  go_wp2_with (
    (go_at_call 57
     refine (mmul_c _ _ 12 12 12 12 p (ds X) (ds Y) (ds M) w1 r1 r2 hM1 (by decide) (by decide)).mono ?_
     rintro e w2 ⟨A, c, l, rfl, hc, rl, vl, b2⟩
     rw [ds_len] at rl hc ⊢
     rw [VX.out, VY.out, VM.out, ← EZ.out] at vl
     have EV := hid vl
     clear vl r1 r2 hM1))
  refine (numberOf_c A 12 c l w2 rl (by decide)).mono ?_
  rintro e w3 ⟨rfl, b3⟩
  rw [EV.out]
  have hl2 := HL1.out.trans (b2.mono HL1.out.size)
  have hl3 := hl2.trans (b3.mono hl2.size)
  have hZ3 := (HZ1.out.below b2 HZ1.out.size).below b3 (Nat.lt_of_lt_of_le HZ1.out.size b2.size)
  obtain ⟨hst, HR⟩ := num_stored (X := Z) hZ3
  have hlen := dsc_len Z
  clear b2 b3 rl hZ3 HZ1 HL1 hl2
  unfold num
  go_wp2
  refine bodyPost_ret (num_result Tryd.results56 rfl HR) rfl ?_
  exact ⟨rfl, below_cells (by omega) _ _ _ hl3⟩

set_option maxRecDepth 20000 in
set_option maxHeartbeats 1000000 in
theorem rMul_c (b X Y M : Nat) (w : World) (hR : RingP w b M) (hX : X < W12) (hY : Y < W12) (hm : M < W12) (h0 : 0 < M) :
    Calls Tryd.prog 13 #[.pointer (some ⟨b, 0, none⟩), num X, num Y] w fun e w' => e = .returned (num (X * Y % M)) ∧ Below w.heap.size w w' := by
  have hlX := dsc_len X
  have hlY := dsc_len Y
  obtain ⟨a1, a2, a3, a4⟩ := boxes w X Y
  have hR0 := hR.up a4
  have HL := hid a4
  have HZ := hid a3
  have HX := hid hX
  have HY := hid hY
  have HM := hid hm
  have H0 := hid h0
  obtain ⟨Z, hZ⟩ : ∃ Z, Z = X * Y % M := ⟨_, rfl⟩
  rw [← hZ]
  have EZ := hid hZ
  clear hR a4 a3 hX hY hm hZ h0
  unfold num
  go_enter Tryd.func13, Tryd.ntmps13
  go_wp2_with fail
  change Code.wp _ _ _ _ (((w.alloc (o12 24 X)).alloc (o12 24 Y)).alloc (z12 24))
  generalize ((w.alloc (o12 24 X)).alloc (o12 24 Y)).alloc (z12 24) = w0 at *
  have a1 : BlkW w0.drew w.heap.size 24 (ds X) := a1.drewN 1
  have a2 : BlkW w0.drew (w.heap.size + 1) 24 (ds Y) := a2.drewN 1
  have hR1 : RingP w0.drew b M := hR0.up ((Below.refl _ _).drew)
  have HZ1 : Hid (BlkW w0.drew (w.heap.size + 1 + 1) 24 (List.replicate 12 0)) := HZ.out.drewN 1
  have HL1 : Hid (Below w.heap.size w w0.drew) := HL.out.drew
  have HG1 := hid a1.range
  have HG2 := hid a2.range
  have HI1 := hid (sizeNb.trans (congrArg some hlX.symm))
  have HI2 := hid (sizeNb.trans (congrArg some hlY.symm))
  obtain ⟨p, h1, h2, h3⟩ := hR1
  have hmf : ∀ (fn : Fn) (first cap : Array Value) (w : World), (Instr.makeFunc fn first cap).run Tryd.prog w = .ok (.func fn first cap) w := fun _ _ _ _ => rfl
  clear a1 a2 hR0 HZ HL hlX hlY
  refine wp_region_still_tail 7 (by kernel_rfl) (by kernel_rfl) ?_
  simp only [List.take_succ_cons, List.take_zero, List.drop_succ_cons, List.drop_zero]
  iterate 5 still_step
  refine still_load rfl 24 (.tmp 4) rfl w.heap.size 0 rfl (cellsOf64 (ds X)) _ HG1.out Tryd.underlying24 rfl HI1.out ?_
  refine still_load rfl 24 (.tmp 5) rfl (w.heap.size + 1) 0 rfl (cellsOf64 (ds Y)) _ HG2.out Tryd.underlying24 rfl HI2.out ?_
  refine wpStill_nil ?_
  change wpList _ _ _ _ _ w0.drew
  generalize w0.drew = w1 at *
  go_wp2_with fail
  refine (joinMul_c p X Y M w1 h3 HX.out HY.out HM.out H0.out).mono ?_
  rintro e w2 ⟨rfl, b2⟩
  rw [← EZ.out]
  have hl2 := HL1.out.trans (b2.mono HL1.out.size)
  have hZ2 := HZ1.out.below b2 HZ1.out.size
  obtain ⟨hst, HR⟩ := num_stored (X := Z) hZ2
  have hlen := dsc_len Z
  clear b2 hZ2 HZ1 HL1 h1 h2 h3 hmf
  unfold num
  go_wp2
  refine bodyPost_ret (num_result Tryd.results13 rfl HR) rfl ?_
  exact ⟨rfl, below_cells (by omega) _ _ _ hl2⟩

set_option maxRecDepth 20000 in
set_option maxHeartbeats 1000000 in
theorem joinExp_c (p X Y M : Nat) (w : World) (hM : ModP w p (ds M)) (hX : X < W12) (hY : Y < W12) (hm : M < W12) (h0 : 0 < M) :
    Calls Tryd.prog 56 #[.func (.func 58) #[.pointer (some ⟨p, 0, none⟩)] #[], num X, num Y] w fun e w' => e = .returned (num (X ^ Y % M)) ∧ Below w.heap.size w w' := by
  have hlX := dsc_len X
  have hlY := dsc_len Y
  obtain ⟨a1, a2, a3, a4⟩ := boxes w X Y
  have hM0 := hM.keep a4 hM.lt
  have VX := hid (ds_val X hX)
  have VY := hid (ds_val Y hY)
  have VM := hid (ds_val M hm)
  have HL := hid a4
  have HZ := hid a3
  obtain ⟨Z, hZ⟩ : ∃ Z, Z = X ^ Y % M := ⟨_, rfl⟩
  rw [← hZ]
  have EZ := hid hZ
  have H0 := hid h0
  clear hM a4 a3 hX hY hm hZ h0
  unfold num
  go_enter Tryd.func56, Tryd.ntmps56
  go_wp2_with fail
  change Code.wp _ _ _ _ (((w.alloc (o12 24 X)).alloc (o12 24 Y)).alloc (z12 24))
  generalize ((w.alloc (o12 24 X)).alloc (o12 24 Y)).alloc (z12 24) = w0 at *
  clear hlX hlY
  have a1 : BlkW w0.drew w.heap.size 24 (ds X) := a1.drewN 1
  have a2 : BlkW w0.drew (w.heap.size + 1) 24 (ds Y) := a2.drewN 1
  have r1 := a1.rd0 a1.size (ds_len X)
  have r2 := a2.rd0 a2.size (ds_len Y)
  have hM1 : ModP w0.drew p (ds M) := hM0.keep ((Below.refl _ _).drew) hM0.lt
  have HZ1 : Hid (BlkW w0.drew (w.heap.size + 1 + 1) 24 (List.replicate 12 0)) := HZ.out.drewN 1
  have HL1 : Hid (Below w.heap.size w w0.drew) := HL.out.drew
  clear a1 a2 hM0 HZ HL
  go_still_tail 3, (by kernel_rfl)
  change wpList _ _ _ _ _ w0.drew
  generalize w0.drew = w1 at *
  go_wp2_with (
    (go_at_call 58
     refine (mexp_c _ _ 12 12 12 12 p (ds X) (ds Y) (ds M) w1 r1 r2 hM1 (by decide) (by decide)).mono ?_
     rintro e w2 ⟨A, c, l, rfl, hc, rl, vl, b2⟩
     rw [ds_len] at rl hc ⊢
     rw [VX.out, VY.out, VM.out, ← EZ.out] at vl
     have EV := hid vl
     clear vl r1 r2 hM1))
  refine (numberOf_c A 12 c l w2 rl (by decide)).mono ?_
  rintro e w3 ⟨rfl, b3⟩
  rw [EV.out]
  have hl2 := HL1.out.trans (b2.mono HL1.out.size)
  have hl3 := hl2.trans (b3.mono hl2.size)
  have hZ3 := (HZ1.out.below b2 HZ1.out.size).below b3 (Nat.lt_of_lt_of_le HZ1.out.size b2.size)
  obtain ⟨hst, HR⟩ := num_stored (X := Z) hZ3
  have hlen := dsc_len Z
  clear b2 b3 rl hZ3 HZ1 HL1 hl2
  unfold num
  go_wp2
  refine bodyPost_ret (num_result Tryd.results56 rfl HR) rfl ?_
  exact ⟨rfl, below_cells (by omega) _ _ _ hl3⟩

set_option maxRecDepth 20000 in
set_option maxHeartbeats 1000000 in
theorem rExp_c (b X Y M : Nat) (w : World) (hR : RingP w b M) (hX : X < W12) (hY : Y < W12) (hm : M < W12) (h0 : 0 < M) :
    Calls Tryd.prog 14 #[.pointer (some ⟨b, 0, none⟩), num X, num Y] w fun e w' => e = .returned (num (X ^ Y % M)) ∧ Below w.heap.size w w' := by
  have hlX := dsc_len X
  have hlY := dsc_len Y
  obtain ⟨a1, a2, a3, a4⟩ := boxes w X Y
  have hR0 := hR.up a4
  have HL := hid a4
  have HZ := hid a3
  have HX := hid hX
  have HY := hid hY
  have HM := hid hm
  have H0 := hid h0
  obtain ⟨Z, hZ⟩ : ∃ Z, Z = X ^ Y % M := ⟨_, rfl⟩
  rw [← hZ]
  have EZ := hid hZ
  clear hR a4 a3 hX hY hm hZ h0
  unfold num
  go_enter Tryd.func14, Tryd.ntmps14
  go_wp2_with fail
  change Code.wp _ _ _ _ (((w.alloc (o12 24 X)).alloc (o12 24 Y)).alloc (z12 24))
  generalize ((w.alloc (o12 24 X)).alloc (o12 24 Y)).alloc (z12 24) = w0 at *
  have a1 : BlkW w0.drew w.heap.size 24 (ds X) := a1.drewN 1
  have a2 : BlkW w0.drew (w.heap.size + 1) 24 (ds Y) := a2.drewN 1
  have hR1 : RingP w0.drew b M := hR0.up ((Below.refl _ _).drew)
  have HZ1 : Hid (BlkW w0.drew (w.heap.size + 1 + 1) 24 (List.replicate 12 0)) := HZ.out.drewN 1
  have HL1 : Hid (Below w.heap.size w w0.drew) := HL.out.drew
  have HG1 := hid a1.range
  have HG2 := hid a2.range
  have HI1 := hid (sizeNb.trans (congrArg some hlX.symm))
  have HI2 := hid (sizeNb.trans (congrArg some hlY.symm))
  obtain ⟨p, h1, h2, h3⟩ := hR1
  have hmf : ∀ (fn : Fn) (first cap : Array Value) (w : World), (Instr.makeFunc fn first cap).run Tryd.prog w = .ok (.func fn first cap) w := fun _ _ _ _ => rfl
  clear a1 a2 hR0 HZ HL hlX hlY
  refine wp_region_still_tail 7 (by kernel_rfl) (by kernel_rfl) ?_
  simp only [List.take_succ_cons, List.take_zero, List.drop_succ_cons, List.drop_zero]
  iterate 5 still_step
  refine still_load rfl 24 (.tmp 4) rfl w.heap.size 0 rfl (cellsOf64 (ds X)) _ HG1.out Tryd.underlying24 rfl HI1.out ?_
  refine still_load rfl 24 (.tmp 5) rfl (w.heap.size + 1) 0 rfl (cellsOf64 (ds Y)) _ HG2.out Tryd.underlying24 rfl HI2.out ?_
  refine wpStill_nil ?_
  change wpList _ _ _ _ _ w0.drew
  generalize w0.drew = w1 at *
  go_wp2_with fail
  refine (joinExp_c p X Y M w1 h3 HX.out HY.out HM.out H0.out).mono ?_
  rintro e w2 ⟨rfl, b2⟩
  rw [← EZ.out]
  have hl2 := HL1.out.trans (b2.mono HL1.out.size)
  have hZ2 := HZ1.out.below b2 HZ1.out.size
  obtain ⟨hst, HR⟩ := num_stored (X := Z) hZ2
  have hlen := dsc_len Z
  clear b2 hZ2 HZ1 HL1 h1 h2 h3 hmf
  unfold num
  go_wp2
  refine bodyPost_ret (num_result Tryd.results14 rfl HR) rfl ?_
  exact ⟨rfl, below_cells (by omega) _ _ _ hl2⟩
end Go.Proofs.YtfonpmahcdmajaaDoor
