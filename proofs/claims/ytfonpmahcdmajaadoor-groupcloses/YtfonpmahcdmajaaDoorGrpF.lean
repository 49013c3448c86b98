import Derived.Test.YtfonpmahcdmajaaDoorGrpD
import Derived.Deep.RegionWith
import Derived.Laws.BytesArg
/-
  group: Scalar's Add, Sub, Mul, and OfNumber: what each call does.
-/
namespace Go.Proofs.YtfonpmahcdmajaaDoor
open Go.RowKit
set_option linter.unusedVariables false

set_option maxRecDepth 20000 in
set_option maxHeartbeats 1000000 in
theorem scAdd_c (X Y : Nat) (w : World) (hX : X < W12) (hY : Y < W12) (hG : GlobW w) :
    Calls Tryd.prog 35 #[num X, num Y] w fun e w' => e = .returned (num ((X + Y) % bigQ)) ∧ Below w.heap.size w w' := by
  obtain ⟨a1, a2⟩ := boxesT w 44 44 44 X Y
  obtain ⟨Z, hZ⟩ : ∃ Z, Z = (X + Y) % bigQ := ⟨_, rfl⟩
  have CJ := sjAdd_c X Y _ hX hY (hG.up a1.b)
  rw [← hZ] at CJ ⊢
  have A1 := hid a1.b
  have A2 := hid a2
  have hlX := dsc_len X
  have hlY := dsc_len Y
  have CJ' : ∀ w3, w3 = ((w.alloc (o12 44 X)).alloc (o12 44 Y)).alloc (z12 44) → Calls Tryd.prog 72 #[.func (.func 51) #[] #[], num X, num Y] w3 fun e w' => e = .returned (num Z) ∧ Below w3.heap.size w3 w' := fun w3 h => by rw [h]; exact CJ
  have HC := hid CJ'
  clear a1 a2 hZ CJ CJ' hX hY hG
  unfold num
  go_enter Tryd.func35, Tryd.ntmps35
  go_wp2_with fail
  refine (HC.out _ rfl).mono ?_
  rintro e w1 ⟨rfl, b1⟩
  have hZ1 := A2.out.below b1 A2.out.size
  have hl1 := A1.out.trans (b1.mono A1.out.size)
  obtain ⟨hst, HR⟩ := num_storedT (X := Z) hZ1
  have hlen := dsc_len Z
  clear HC A1 A2 b1 hZ1
  unfold num
  go_wp2
  refine bodyPost_ret (sc_result Tryd.results35 rfl HR) rfl ?_
  exact ⟨rfl, below_cells (by omega) _ _ _ hl1⟩

set_option maxRecDepth 20000 in
set_option maxHeartbeats 1000000 in
theorem scSub_c (X Y : Nat) (w : World) (hX : X < W12) (hY : Y < W12) (hG : GlobW w) :
    Calls Tryd.prog 37 #[num X, num Y] w fun e w' => e = .returned (num ((X % bigQ + bigQ - Y % bigQ) % bigQ)) ∧ Below w.heap.size w w' := by
  obtain ⟨a1, a2⟩ := boxesT w 44 44 44 X Y
  obtain ⟨Z, hZ⟩ : ∃ Z, Z = (X % bigQ + bigQ - Y % bigQ) % bigQ := ⟨_, rfl⟩
  have CJ := sjSub_c X Y _ hX hY (hG.up a1.b)
  rw [← hZ] at CJ ⊢
  have A1 := hid a1.b
  have A2 := hid a2
  have hlX := dsc_len X
  have hlY := dsc_len Y
  have CJ' : ∀ w3, w3 = ((w.alloc (o12 44 X)).alloc (o12 44 Y)).alloc (z12 44) → Calls Tryd.prog 72 #[.func (.func 49) #[] #[], num X, num Y] w3 fun e w' => e = .returned (num Z) ∧ Below w3.heap.size w3 w' := fun w3 h => by rw [h]; exact CJ
  have HC := hid CJ'
  clear a1 a2 hZ CJ CJ' hX hY hG
  unfold num
  go_enter Tryd.func37, Tryd.ntmps37
  go_wp2_with fail
  refine (HC.out _ rfl).mono ?_
  rintro e w1 ⟨rfl, b1⟩
  have hZ1 := A2.out.below b1 A2.out.size
  have hl1 := A1.out.trans (b1.mono A1.out.size)
  obtain ⟨hst, HR⟩ := num_storedT (X := Z) hZ1
  have hlen := dsc_len Z
  clear HC A1 A2 b1 hZ1
  unfold num
  go_wp2
  refine bodyPost_ret (sc_result Tryd.results37 rfl HR) rfl ?_
  exact ⟨rfl, below_cells (by omega) _ _ _ hl1⟩

set_option maxRecDepth 20000 in
set_option maxHeartbeats 1000000 in
theorem scMul_c (X Y : Nat) (w : World) (hX : X < W12) (hY : Y < W12) (hG : GlobW w) :
    Calls Tryd.prog 40 #[num X, num Y] w fun e w' => e = .returned (num (X * Y % bigQ)) ∧ Below w.heap.size w w' := by
  obtain ⟨a1, a2⟩ := boxesT w 44 44 44 X Y
  obtain ⟨Z, hZ⟩ : ∃ Z, Z = X * Y % bigQ := ⟨_, rfl⟩
  have CJ := sjMul_c X Y _ hX hY (hG.up a1.b)
  rw [← hZ] at CJ ⊢
  have A1 := hid a1.b
  have A2 := hid a2
  have hlX := dsc_len X
  have hlY := dsc_len Y
  have CJ' : ∀ w3, w3 = ((w.alloc (o12 44 X)).alloc (o12 44 Y)).alloc (z12 44) → Calls Tryd.prog 72 #[.func (.func 13) #[] #[], num X, num Y] w3 fun e w' => e = .returned (num Z) ∧ Below w3.heap.size w3 w' := fun w3 h => by rw [h]; exact CJ
  have HC := hid CJ'
  clear a1 a2 hZ CJ CJ' hX hY hG
  unfold num
  go_enter Tryd.func40, Tryd.ntmps40
  go_wp2_with fail
  refine (HC.out _ rfl).mono ?_
  rintro e w1 ⟨rfl, b1⟩
  have hZ1 := A2.out.below b1 A2.out.size
  have hl1 := A1.out.trans (b1.mono A1.out.size)
  obtain ⟨hst, HR⟩ := num_storedT (X := Z) hZ1
  have hlen := dsc_len Z
  clear HC A1 A2 b1 hZ1
  unfold num
  go_wp2
  refine bodyPost_ret (sc_result Tryd.results40 rfl HR) rfl ?_
  exact ⟨rfl, below_cells (by omega) _ _ _ hl1⟩

set_option maxRecDepth 20000 in
set_option maxHeartbeats 1000000 in
theorem ofNumber_c (X : Nat) (w : World) (hX : Hid (X < W12)) (hG : GlobW w) :
    Calls Tryd.prog 31 #[num X] w fun e w' => e = .returned (num (X % bigQ)) ∧ Below w.heap.size w w' := by
  obtain ⟨Z, hZ⟩ : ∃ Z, Z = X % bigQ := ⟨_, rfl⟩
  rw [← hZ]
  have EZ := hid hZ
  have hlX := dsc_len X
  have e1 : (w.alloc (o12 24 X)).heap.size = w.heap.size + 1 := by simp
  have hz := z12_new (w.alloc (o12 24 X)) 44
  rw [e1] at hz
  have A2 := hid hz
  have A1 := hid (((Below.refl w.heap.size w).alloc (Nat.le_refl _) (o12 24 X)).alloc (by omega) (z12 44))
  have HG := hid (hG.up A1.out)
  clear hZ e1 hz hG
  unfold num
  go_enter Tryd.func31, Tryd.ntmps31
  go_wp2_with fail
  change Calls _ _ _ ((w.alloc (o12 24 X)).alloc (z12 44)) _
  generalize (w.alloc (o12 24 X)).alloc (z12 44) = w0 at *
  refine (write_c X w0 hX).mono ?_
  rintro e w1 ⟨r, rfl, hr, b1⟩
  obtain ⟨l, rfl, hl, hlt, hv⟩ := hr
  obtain ⟨wx, hst, hBx, bx⟩ := new96 w1 l hl hlt
  have hlen : (cells8 l).length = 96 := by simp [cells8, hl]
  have b0x := bchain b1 bx
  have HGx := hid (HG.out.up b0x)
  have HAx := hid (A1.out.trans (b0x.mono A1.out.size))
  have HZx := hid (A2.out.below b0x A2.out.size)
  have HV := hid hv
  have HBx := hid hBx
  have HL := hid hl
  clear b1 bx b0x A1 A2 HG hBx hv
  go_wp2_with fail
  have ra := HBx.out.rd HBx.out.size
  rw [HL.out] at ra
  have CR := restOf_c _ 96 96 l wx ra (by decide) HGx.out
  rw [HV.out, ← EZ.out] at CR
  refine CR.mono ?_
  rintro e w2 ⟨rfl, b2⟩
  have hZ2 := HZx.out.below b2 HZx.out.size
  have hl2 := HAx.out.trans (b2.mono HAx.out.size)
  obtain ⟨hst2, HR⟩ := num_storedT (X := Z) hZ2
  have hlen2 := dsc_len Z
  clear CR hst hlen HBx HGx HAx HZx HV HL b2 hZ2 ra EZ hX
  unfold num
  go_wp2
  refine bodyPost_ret (sc_result Tryd.results31 rfl HR) rfl ?_
  exact ⟨rfl, below_cells (by omega) _ _ _ hl2⟩
end Go.Proofs.YtfonpmahcdmajaaDoor
/-
  avouchlaw05.Is, IsScalar: what each call does.
-/
namespace Go.Proofs.YtfonpmahcdmajaaDoor
open Go.RowKit
set_option linter.unusedVariables false

set_option maxRecDepth 20000 in
set_option maxHeartbeats 4000000 in
theorem isEl_c (v : Value) (x X : Nat) (w : World) (hx : Hid (x < W12)) (hv : Dg w v X) (hX : X < W12) :
    Calls Tryd.prog 18 #[num x, v] w fun e w' => e = .returned (.bool (decide (x = X))) ∧ Below w.heap.size w w' := by
  have hl0 := (Below.refl w.heap.size w).alloc (Nat.le_refl _) (o12 35 x)
  have hlx := dsc_len x
  have HL := hid hl0
  have HV := hid (hv.up hl0)
  have HX := hid hX
  obtain ⟨q, hq⟩ : ∃ q, q = decide (x = X) := ⟨_, rfl⟩
  rw [← hq]
  have HQ := hid hq
  clear hl0 hv hX hq
  unfold num
  go_enter Tryd.func18, Tryd.ntmps18
  go_wp2_with fail
  change Calls _ _ _ (w.alloc (o12 35 x)) _
  generalize w.alloc (o12 35 x) = w0 at *
  refine (elBytes_c x w0 hx).mono ?_
  rintro e w1 ⟨r, rfl, hr, b1⟩
  obtain ⟨l, rfl, hl, hlt, hval⟩ := hr
  obtain ⟨wx, hst, hBx, bx⟩ := new96 w1 l hl hlt
  have b1x := bchain b1 bx
  have b0x := HL.out.trans (b1x.mono HL.out.size)
  have hlen : (cells8 l).length = 96 := by simp [cells8, hl]
  have HVL := hid hval
  have hvx := HV.out.up b1x
  have rx := hBx.rd hBx.size
  rw [hl] at rx
  have RX := hid rx
  have HL2 := hid hl
  clear hval b1 HL HV bx b1x hBx rx
  go_wp2_with fail
  have rxd : Rd8 wx.drew wx.drew.heap.size (some ⟨w1.heap.size, 0, none⟩) 96 l := ⟨RX.out.len, RX.out.lt, RX.out.cells⟩
  have cv1 := conv8l rxd (by decide) 96
  have hvd : Dg wx.drew v X := hvx.up (Below.refl _ _).drew
  clear hst hlen hvx
  go_region_with (
    (go_at_call 19
     refine (refBytes96_c v X _ hvd).mono ?_
     rintro e w2 ⟨A2, c2, l2, rfl, hc2, r2, v2, b2⟩
     have cv2 := conv8l r2 (by decide) c2
     have cv3 := conv8l (rxd.up b2 (Nat.le_refl _)) (by decide) 96
     have hse := str_val (HL2.out.trans r2.len.symm) hlt r2.lt
     rw [HVL.out, v2, Nat.mod_eq_of_lt HX.out, ← HQ.out] at hse
     clear v2))
  all_goals
    have R := hid (bchain b0x (Below.trans ((Below.refl _ wx).drew) b2))
    go_wp2
    go_ret
    exact ⟨rfl, R.out⟩

set_option maxRecDepth 20000 in
set_option maxHeartbeats 4000000 in
theorem isSc_c (v : Value) (x X : Nat) (w : World) (hx : Hid (x < W12)) (hv : Dg w v X) (hX : X < W12) :
    Calls Tryd.prog 22 #[num x, v] w fun e w' => e = .returned (.bool (decide (x = X))) ∧ Below w.heap.size w w' := by
  have hl0 := (Below.refl w.heap.size w).alloc (Nat.le_refl _) (o12 44 x)
  have hlx := dsc_len x
  have HL := hid hl0
  have HV := hid (hv.up hl0)
  have HX := hid hX
  obtain ⟨q, hq⟩ : ∃ q, q = decide (x = X) := ⟨_, rfl⟩
  rw [← hq]
  have HQ := hid hq
  clear hl0 hv hX hq
  unfold num
  go_enter Tryd.func22, Tryd.ntmps22
  go_wp2_with fail
  change Calls _ _ _ (w.alloc (o12 44 x)) _
  generalize w.alloc (o12 44 x) = w0 at *
  refine (scBytes_c x w0 hx).mono ?_
  rintro e w1 ⟨r, rfl, hr, b1⟩
  obtain ⟨l, rfl, hl, hlt, hval⟩ := hr
  obtain ⟨wx, hst, hBx, bx⟩ := new96 w1 l hl hlt
  have b1x := bchain b1 bx
  have b0x := HL.out.trans (b1x.mono HL.out.size)
  have hlen : (cells8 l).length = 96 := by simp [cells8, hl]
  have HVL := hid hval
  have hvx := HV.out.up b1x
  have rx := hBx.rd hBx.size
  rw [hl] at rx
  have RX := hid rx
  have HL2 := hid hl
  clear hval b1 HL HV bx b1x hBx rx
  go_wp2_with fail
  have rxd : Rd8 wx.drew wx.drew.heap.size (some ⟨w1.heap.size, 0, none⟩) 96 l := ⟨RX.out.len, RX.out.lt, RX.out.cells⟩
  have cv1 := conv8l rxd (by decide) 96
  have hvd : Dg wx.drew v X := hvx.up (Below.refl _ _).drew
  clear hst hlen hvx
  go_region_with (
    (go_at_call 19
     refine (refBytes96_c v X _ hvd).mono ?_
     rintro e w2 ⟨A2, c2, l2, rfl, hc2, r2, v2, b2⟩
     have cv2 := conv8l r2 (by decide) c2
     have cv3 := conv8l (rxd.up b2 (Nat.le_refl _)) (by decide) 96
     have hse := str_val (HL2.out.trans r2.len.symm) hlt r2.lt
     rw [HVL.out, v2, Nat.mod_eq_of_lt HX.out, ← HQ.out] at hse
     clear v2))
  all_goals
    have R := hid (bchain b0x (Below.trans ((Below.refl _ wx).drew) b2))
    go_wp2
    go_ret
    exact ⟨rfl, R.out⟩
end Go.Proofs.YtfonpmahcdmajaaDoor
