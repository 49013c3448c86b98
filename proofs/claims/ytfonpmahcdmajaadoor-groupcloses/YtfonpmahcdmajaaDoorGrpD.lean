/-
  group: Element's Mul and Exp, join, Scalar's Add, Sub and Mul: what each call does.
-/
import Derived.Test.YtfonpmahcdmajaaDoorGrpC
namespace Go.Proofs.YtfonpmahcdmajaaDoor
open Go.RowKit
set_option linter.unusedVariables false

theorem blk_up {v v' : World} {b : Nat} {t : TypeId} {l : List Nat} (h : BlkW v b t l) (hb : Below v.heap.size v v') : BlkW v' b t l := h.below hb h.size
theorem blk_put {b c : Nat} {t : TypeId} {l : List Nat} (hne : b ≠ c) : ∀ (vs : List Value) (o : Nat) (w : World), BlkW w b t l → BlkW (w.setCells c o vs) b t l
  | [], _, _, h => h
  | v :: vs, o, w, h => blk_put hne vs (o + 1) _ (h.otherC hne)
/-- What is kept: two numbers in memory. -/
structure EnvM (w : World) (bx b_y : Nat) (tx ty : TypeId) (X Y : Nat) (v : World) : Prop where
  x : BlkW v bx tx (ds X)
  y : BlkW v b_y ty (ds Y)
  b : Below w.heap.size w v
theorem EnvM.up {w : World} {bx b_y : Nat} {tx ty : TypeId} {X Y : Nat} {v v' : World} (h : EnvM w bx b_y tx ty X Y v) (hb : Below v.heap.size v v') : EnvM w bx b_y tx ty X Y v' :=
  ⟨blk_up h.x hb, blk_up h.y hb, bchain h.b hb⟩
theorem EnvM.put {w : World} {bx b_y bz : Nat} {tx ty : TypeId} {X Y : Nat} {v : World} (h : EnvM w bx b_y tx ty X Y v) (hx : bx ≠ bz) (hy : b_y ≠ bz) (hz : w.heap.size ≤ bz) (vs : List Value) : EnvM w bx b_y tx ty X Y (v.setCells bz 0 vs) :=
  ⟨blk_put hx _ _ _ h.x, blk_put hy _ _ _ h.y, below_cells hz _ _ _ h.b⟩
theorem boxesT (w : World) (tx ty tz : TypeId) (X Y : Nat) :
    EnvM w w.heap.size (w.heap.size + 1) tx ty X Y (((w.alloc (o12 tx X)).alloc (o12 ty Y)).alloc (z12 tz)) ∧ BlkW (((w.alloc (o12 tx X)).alloc (o12 ty Y)).alloc (z12 tz)) (w.heap.size + 1 + 1) tz (List.replicate 12 0) := by
  have e1 : (w.alloc (o12 tx X)).heap.size = w.heap.size + 1 := by simp
  have e2 : ((w.alloc (o12 tx X)).alloc (o12 ty Y)).heap.size = w.heap.size + 1 + 1 := by simp
  have h2 := (o12_new (w.alloc (o12 tx X)) ty Y).alloc (z12 tz)
  have h3 := z12_new ((w.alloc (o12 tx X)).alloc (o12 ty Y)) tz
  rw [e1] at h2
  rw [e2] at h3
  exact ⟨⟨((o12_new w tx X).alloc _).alloc _, h2, (((Below.refl _ _).alloc (Nat.le_refl _) _).alloc (by omega) _).alloc (by omega) _⟩, h3⟩
theorem cells_numT {v : World} {b X : Nat} {t : TypeId} (h : BlkW v b t (ds X)) : (loadCellsFrom ⟨b, 0, none⟩ 0 12 #[]).run Tryd.prog v = .ok (cellsOf64 (ds X)).toArray v := by
  have e := run_loadCells_list (P := Tryd.prog) v ⟨b, 0, none⟩ (cellsOf64 (ds X)) (fun j u hu => by rw [Addr.add_mid]; exact h.range j u hu)
  rw [dsc_len] at e
  exact e
theorem agg_el (v : World) : (isAgg 35).run Tryd.prog v = .ok true v := by
  unfold isAgg
  rw [Sem.run_bind, run_underlying Tryd.underlying35 v]
  rfl
theorem agg_sc (v : World) : (isAgg 44).run Tryd.prog v = .ok true v := by
  unfold isAgg
  rw [Sem.run_bind, run_underlying Tryd.underlying44 v]
  rfl
/-- The zeros that a build starts from, and what becomes of them. -/
theorem zeros_el : ∃ zc : Array Value, (∀ v, (zeroValue 35).run Tryd.prog v = .ok (.agg zc) v) ∧ (∀ v, (zeroValue 44).run Tryd.prog v = .ok (.agg zc) v) ∧ zc.size = 12 ∧ ∀ Z : Nat, List.foldl (fun (cs : Array Value) x => cs.setIfInBounds x.snd x.fst) zc (cellsOf64 (ds Z)).zipIdx = (cellsOf64 (ds Z)).toArray :=
  ⟨#[.int .u64 0, .int .u64 0, .int .u64 0, .int .u64 0, .int .u64 0, .int .u64 0, .int .u64 0, .int .u64 0, .int .u64 0, .int .u64 0, .int .u64 0, .int .u64 0], fun v => by kernel_rfl, fun v => by kernel_rfl, rfl, fun Z => by kernel_rfl⟩
theorem size_el (v : World) : (sizeOf 35).run Tryd.prog v = .ok 12 v := by kernel_rfl
theorem size_sc (v : World) : (sizeOf 44).run Tryd.prog v = .ok 12 v := by kernel_rfl
theorem fieldAt_el (b : Nat) (v : World) : (Instr.fieldAt 35 (.pointer (some ⟨b, 0, none⟩)) 0).run Tryd.prog v = .ok (.pointer (some ⟨b, 0, none⟩)) v := by kernel_rfl
theorem fieldAt_sc (b : Nat) (v : World) : (Instr.fieldAt 44 (.pointer (some ⟨b, 0, none⟩)) 0).run Tryd.prog v = .ok (.pointer (some ⟨b, 0, none⟩)) v := by kernel_rfl

set_option maxRecDepth 100000 in
set_option maxHeartbeats 4000000 in
theorem grMul_c (X Y : Nat) (w : World) (hX : X < W12) (hY : Y < W12) (hG : GlobW w) :
    Calls Tryd.prog 29 #[num X, num Y] w fun e w' => e = .returned (num (X * Y % bigP)) ∧ Below w.heap.size w w' := by
  have hlX := dsc_len X
  have hlY := dsc_len Y
  obtain ⟨a1, a2⟩ := boxesT w 35 35 35 X Y
  have a1 := a1.up (Below.refl _ _).drew
  have a2 := blk_up a2 (Below.refl _ _).drew
  obtain ⟨Z, hZ⟩ : ∃ Z, Z = X * Y % bigP := ⟨_, rfl⟩
  have CE0 := fun (b : Nat) (v : World) (h : RingP v b bigP) => rMul_c b X Y bigP v h hX hY bigP_lt (by decide)
  rw [← hZ] at CE0 ⊢
  have A1 := hid a1
  have A2 := hid a2
  clear a1 a2 hZ hX hY
  unfold num
  go_enter Tryd.func29, Tryd.ntmps29
  go_wp2_with fail
  change Code.wp _ _ _ _ (((w.alloc (o12 35 X)).alloc (o12 35 Y)).alloc (z12 35))
  generalize ((w.alloc (o12 35 X)).alloc (o12 35 Y)).alloc (z12 35) = w0 at *
  clear hlX hlY
  have E0 := A1.out
  have hZ0 := A2.out
  have n1 : w.heap.size ≠ w.heap.size + 1 + 1 := by omega
  have n2 : w.heap.size + 1 ≠ w.heap.size + 1 + 1 := by omega
  have n3 : w.heap.size ≤ w.heap.size + 1 + 1 := by omega
  have EP := hid (fun (v : World) (h : EnvM w w.heap.size (w.heap.size + 1) 35 35 X Y v) => h.put n1 n2 n3 (cellsOf64 (ds Z)))
  clear A1 A2 n1 n2 n3
  generalize w.heap.size + 1 + 1 = bz at *
  generalize w.heap.size + 1 = b_y at *
  generalize hbx : w.heap.size = bx at *
  go_cut [4] (fun s wx => s = .pointer (some ⟨bz, 0, none⟩) ∧ Hid (wx.rangeAt bz 0 (cellsOf64 (ds Z))) ∧ EnvM w bx b_y 35 35 X Y wx)
  case first =>
    obtain ⟨n12, hn12⟩ : ∃ n : Nat, n = 12 := ⟨_, rfl⟩
    have L1 : ∀ v, EnvM w bx b_y 35 35 X Y v → (loadCellsFrom ⟨bx, 0, none⟩ 0 n12 #[]).run Tryd.prog v = .ok (cellsOf64 (ds X)).toArray v := fun v h => by rw [hn12]; exact cells_numT h.x
    have L2 : ∀ v, EnvM w bx b_y 35 35 X Y v → (loadCellsFrom ⟨b_y, 0, none⟩ 0 n12 #[]).run Tryd.prog v = .ok (cellsOf64 (ds Y)).toArray v := fun v h => by rw [hn12]; exact cells_numT h.y
    have CG : ∀ v, EnvM w bx b_y 35 35 X Y v → Calls Tryd.prog 47 #[] v fun e w' => ∃ b, e = .returned (.pointer (some ⟨b, 0, none⟩)) ∧ RingP w' b bigP ∧ Below v.heap.size v w' := fun v h => group_c v (hG.up (hbx ▸ h.b))
    have CE : ∀ b v, RingP v b bigP → Calls Tryd.prog 13 #[.pointer (some ⟨b, 0, none⟩), .agg (cellsOf64 (ds X)).toArray, .agg (cellsOf64 (ds Y)).toArray] v fun e w' => e = .returned (.agg (cellsOf64 (ds Z)).toArray) ∧ Below v.heap.size v w' := CE0
    obtain ⟨zc, hz1, hz2, hz3, hz4⟩ := zeros_el
    have B1 := hz4 Z
    have B2 : ¬ zc.size < n12 := by rw [hz3, hn12]; decide
    have B3 := hz1
    clear hz1 hz2 hz3 hz4
    have ST : ∀ v, BlkW v bz 35 (List.replicate 12 0) → (storeCells ⟨bz, 0, none⟩ (cellsOf64 (ds Z))).run Tryd.prog v = .ok () (v.setCells bz 0 (cellsOf64 (ds Z))) ∧ Hid ((v.setCells bz 0 (cellsOf64 (ds Z))).rangeAt bz 0 (cellsOf64 (ds Z))) := fun v h => num_storedT h
    have U1 := fun v => run_underlying Tryd.underlying35 v
    have U2 := fun v => run_underlying Tryd.underlying35 v
    have hn0 : ¬ n12 = 0 := by rw [hn12]; decide
    have hlen : (cellsOf64 (ds Z)).length = n12 := by rw [hn12]; exact dsc_len Z
    have G1 := agg_num
    have G2 : ∀ v, (sizeOf 24).run Tryd.prog v = .ok n12 v := by rw [hn12]; exact size_num
    have G3 := agg_el
    have G4 : ∀ v, (sizeOf 35).run Tryd.prog v = .ok n12 v := by rw [hn12]; exact size_el
    clear hn12 hbx
    have N1 := Tryd.call47
    have N2 := Tryd.call13
    clear CE0
    generalize Tryd.prog = P at CG CE B3 ST U1 U2 L1 L2 G1 G2 G3 G4 N1 N2 ⊢
    go_region_held3 (fun w' => EnvM w bx b_y 35 35 X Y w') (first | with_reducible assumption | exact EP.out _ (by with_reducible assumption)) (first
      | (go_at_call 47; with_reducible refine (CG _ (by with_reducible assumption)).mono ?_; rintro e v ⟨b, rfl, hr, hb⟩; have hE := EnvM.up (by with_reducible assumption) hb; have hZ1 := blk_up (b := bz) (by with_reducible assumption) hb; dsimp only)
      | (go_at_call 13; with_reducible refine (CE _ _ (by with_reducible assumption)).mono ?_; rintro e v ⟨rfl, hb⟩; have hE := EnvM.up (by with_reducible assumption) hb; have hZ1 := blk_up (b := bz) (by with_reducible assumption) hb; obtain ⟨hst, HR⟩ := ST _ hZ1; dsimp only))
    go_wp2_with fail
    go_meet
    exact ⟨rfl, HR, EP.out _ hE⟩
  case rest =>
    obtain ⟨rfl, HR, hE⟩ := hcut
    clear CE0
    go_wp2
    refine bodyPost_ret (el_result Tryd.results29 rfl HR) rfl ?_
    exact ⟨rfl, hbx ▸ hE.b⟩

set_option maxRecDepth 100000 in
set_option maxHeartbeats 4000000 in
theorem grExp_c (X Y : Nat) (w : World) (hX : X < W12) (hY : Y < W12) (hG : GlobW w) :
    Calls Tryd.prog 30 #[num X, num Y] w fun e w' => e = .returned (num (X ^ Y % bigP)) ∧ Below w.heap.size w w' := by
  have hlX := dsc_len X
  have hlY := dsc_len Y
  obtain ⟨a1, a2⟩ := boxesT w 35 44 35 X Y
  have a1 := a1.up (Below.refl _ _).drew
  have a2 := blk_up a2 (Below.refl _ _).drew
  obtain ⟨Z, hZ⟩ : ∃ Z, Z = X ^ Y % bigP := ⟨_, rfl⟩
  have CE0 := fun (b : Nat) (v : World) (h : RingP v b bigP) => rExp_c b X Y bigP v h hX hY bigP_lt (by decide)
  rw [← hZ] at CE0 ⊢
  have A1 := hid a1
  have A2 := hid a2
  clear a1 a2 hZ hX hY
  unfold num
  go_enter Tryd.func30, Tryd.ntmps30
  go_wp2_with fail
  change Code.wp _ _ _ _ (((w.alloc (o12 35 X)).alloc (o12 44 Y)).alloc (z12 35))
  generalize ((w.alloc (o12 35 X)).alloc (o12 44 Y)).alloc (z12 35) = w0 at *
  clear hlX hlY
  have E0 := A1.out
  have hZ0 := A2.out
  have n1 : w.heap.size ≠ w.heap.size + 1 + 1 := by omega
  have n2 : w.heap.size + 1 ≠ w.heap.size + 1 + 1 := by omega
  have n3 : w.heap.size ≤ w.heap.size + 1 + 1 := by omega
  have EP := hid (fun (v : World) (h : EnvM w w.heap.size (w.heap.size + 1) 35 44 X Y v) => h.put n1 n2 n3 (cellsOf64 (ds Z)))
  clear A1 A2 n1 n2 n3
  generalize w.heap.size + 1 + 1 = bz at *
  generalize w.heap.size + 1 = b_y at *
  generalize hbx : w.heap.size = bx at *
  go_cut [4] (fun s wx => s = .pointer (some ⟨bz, 0, none⟩) ∧ Hid (wx.rangeAt bz 0 (cellsOf64 (ds Z))) ∧ EnvM w bx b_y 35 44 X Y wx)
  case first =>
    obtain ⟨n12, hn12⟩ : ∃ n : Nat, n = 12 := ⟨_, rfl⟩
    have L1 : ∀ v, EnvM w bx b_y 35 44 X Y v → (loadCellsFrom ⟨bx, 0, none⟩ 0 n12 #[]).run Tryd.prog v = .ok (cellsOf64 (ds X)).toArray v := fun v h => by rw [hn12]; exact cells_numT h.x
    have L2 : ∀ v, EnvM w bx b_y 35 44 X Y v → (loadCellsFrom ⟨b_y, 0, none⟩ 0 n12 #[]).run Tryd.prog v = .ok (cellsOf64 (ds Y)).toArray v := fun v h => by rw [hn12]; exact cells_numT h.y
    have CG : ∀ v, EnvM w bx b_y 35 44 X Y v → Calls Tryd.prog 47 #[] v fun e w' => ∃ b, e = .returned (.pointer (some ⟨b, 0, none⟩)) ∧ RingP w' b bigP ∧ Below v.heap.size v w' := fun v h => group_c v (hG.up (hbx ▸ h.b))
    have CE : ∀ b v, RingP v b bigP → Calls Tryd.prog 14 #[.pointer (some ⟨b, 0, none⟩), .agg (cellsOf64 (ds X)).toArray, .agg (cellsOf64 (ds Y)).toArray] v fun e w' => e = .returned (.agg (cellsOf64 (ds Z)).toArray) ∧ Below v.heap.size v w' := CE0
    obtain ⟨zc, hz1, hz2, hz3, hz4⟩ := zeros_el
    have B1 := hz4 Z
    have B2 : ¬ zc.size < n12 := by rw [hz3, hn12]; decide
    have B3 := hz1
    clear hz1 hz2 hz3 hz4
    have ST : ∀ v, BlkW v bz 35 (List.replicate 12 0) → (storeCells ⟨bz, 0, none⟩ (cellsOf64 (ds Z))).run Tryd.prog v = .ok () (v.setCells bz 0 (cellsOf64 (ds Z))) ∧ Hid ((v.setCells bz 0 (cellsOf64 (ds Z))).rangeAt bz 0 (cellsOf64 (ds Z))) := fun v h => num_storedT h
    have U1 := fun v => run_underlying Tryd.underlying35 v
    have U2 := fun v => run_underlying Tryd.underlying44 v
    have hn0 : ¬ n12 = 0 := by rw [hn12]; decide
    have hlen : (cellsOf64 (ds Z)).length = n12 := by rw [hn12]; exact dsc_len Z
    have G1 := agg_num
    have G2 : ∀ v, (sizeOf 24).run Tryd.prog v = .ok n12 v := by rw [hn12]; exact size_num
    have G3 := agg_el
    have G4 : ∀ v, (sizeOf 35).run Tryd.prog v = .ok n12 v := by rw [hn12]; exact size_el
    clear hn12 hbx
    have N1 := Tryd.call47
    have N2 := Tryd.call14
    clear CE0
    generalize Tryd.prog = P at CG CE B3 ST U1 U2 L1 L2 G1 G2 G3 G4 N1 N2 ⊢
    go_region_held3 (fun w' => EnvM w bx b_y 35 44 X Y w') (first | with_reducible assumption | exact EP.out _ (by with_reducible assumption)) (first
      | (go_at_call 47; with_reducible refine (CG _ (by with_reducible assumption)).mono ?_; rintro e v ⟨b, rfl, hr, hb⟩; have hE := EnvM.up (by with_reducible assumption) hb; have hZ1 := blk_up (b := bz) (by with_reducible assumption) hb; dsimp only)
      | (go_at_call 14; with_reducible refine (CE _ _ (by with_reducible assumption)).mono ?_; rintro e v ⟨rfl, hb⟩; have hE := EnvM.up (by with_reducible assumption) hb; have hZ1 := blk_up (b := bz) (by with_reducible assumption) hb; obtain ⟨hst, HR⟩ := ST _ hZ1; dsimp only))
    go_wp2_with fail
    go_meet
    exact ⟨rfl, HR, EP.out _ hE⟩
  case rest =>
    obtain ⟨rfl, HR, hE⟩ := hcut
    clear CE0
    go_wp2
    refine bodyPost_ret (el_result Tryd.results30 rfl HR) rfl ?_
    exact ⟨rfl, hbx ▸ hE.b⟩

set_option maxRecDepth 100000 in
set_option maxHeartbeats 4000000 in
theorem sjAdd_c (X Y : Nat) (w : World) (hX : X < W12) (hY : Y < W12) (hG : GlobW w) :
    Calls Tryd.prog 72 #[.func (.func 51) #[] #[], num X, num Y] w fun e w' => e = .returned (num ((X + Y) % bigQ)) ∧ Below w.heap.size w w' := by
  have hlX := dsc_len X
  have hlY := dsc_len Y
  obtain ⟨a1, a2⟩ := boxesT w 44 44 44 X Y
  have a1 := a1.up (Below.refl _ _).drew
  have a2 := blk_up a2 (Below.refl _ _).drew
  obtain ⟨Z, hZ⟩ : ∃ Z, Z = (X + Y) % bigQ := ⟨_, rfl⟩
  have CE0 := fun (b : Nat) (v : World) (h : RingP v b bigQ) => rAdd_c b X Y bigQ v h hX hY bigQ_lt (by decide)
  rw [← hZ] at CE0 ⊢
  have A1 := hid a1
  have A2 := hid a2
  clear a1 a2 hZ hX hY
  unfold num
  go_enter Tryd.func72, Tryd.ntmps72
  go_wp2_with fail
  change Code.wp _ _ _ _ (((w.alloc (o12 44 X)).alloc (o12 44 Y)).alloc (z12 44))
  generalize ((w.alloc (o12 44 X)).alloc (o12 44 Y)).alloc (z12 44) = w0 at *
  clear hlX hlY
  have E0 := A1.out
  have hZ0 := A2.out
  have n1 : w.heap.size ≠ w.heap.size + 1 + 1 := by omega
  have n2 : w.heap.size + 1 ≠ w.heap.size + 1 + 1 := by omega
  have n3 : w.heap.size ≤ w.heap.size + 1 + 1 := by omega
  have EP := hid (fun (v : World) (h : EnvM w w.heap.size (w.heap.size + 1) 44 44 X Y v) => h.put n1 n2 n3 (cellsOf64 (ds Z)))
  clear A1 A2 n1 n2 n3
  generalize w.heap.size + 1 + 1 = bz at *
  generalize w.heap.size + 1 = b_y at *
  generalize hbx : w.heap.size = bx at *
  go_cut [6] (fun s wx => s = .pointer (some ⟨bz, 0, none⟩) ∧ Hid (wx.rangeAt bz 0 (cellsOf64 (ds Z))) ∧ EnvM w bx b_y 44 44 X Y wx)
  case first =>
    obtain ⟨n12, hn12⟩ : ∃ n : Nat, n = 12 := ⟨_, rfl⟩
    have L1 : ∀ v, EnvM w bx b_y 44 44 X Y v → (loadCellsFrom ⟨bx, 0, none⟩ 0 n12 #[]).run Tryd.prog v = .ok (cellsOf64 (ds X)).toArray v := fun v h => by rw [hn12]; exact cells_numT h.x
    have L2 : ∀ v, EnvM w bx b_y 44 44 X Y v → (loadCellsFrom ⟨b_y, 0, none⟩ 0 n12 #[]).run Tryd.prog v = .ok (cellsOf64 (ds Y)).toArray v := fun v h => by rw [hn12]; exact cells_numT h.y
    have CG : ∀ v, EnvM w bx b_y 44 44 X Y v → Calls Tryd.prog 50 #[] v fun e w' => ∃ b, e = .returned (.pointer (some ⟨b, 0, none⟩)) ∧ RingP w' b bigQ ∧ Below v.heap.size v w' := fun v h => exponents_c v (hG.up (hbx ▸ h.b))
    have CE : ∀ b v, RingP v b bigQ → Calls Tryd.prog 51 #[.pointer (some ⟨b, 0, none⟩), .agg (cellsOf64 (ds X)).toArray, .agg (cellsOf64 (ds Y)).toArray] v fun e w' => e = .returned (.agg (cellsOf64 (ds Z)).toArray) ∧ Below v.heap.size v w' := CE0
    obtain ⟨zc, hz1, hz2, hz3, hz4⟩ := zeros_el
    have B1 := hz4 Z
    have B2 : ¬ zc.size < n12 := by rw [hz3, hn12]; decide
    have B3 := hz2
    clear hz1 hz2 hz3 hz4
    have ST : ∀ v, BlkW v bz 44 (List.replicate 12 0) → (storeCells ⟨bz, 0, none⟩ (cellsOf64 (ds Z))).run Tryd.prog v = .ok () (v.setCells bz 0 (cellsOf64 (ds Z))) ∧ Hid ((v.setCells bz 0 (cellsOf64 (ds Z))).rangeAt bz 0 (cellsOf64 (ds Z))) := fun v h => num_storedT h
    have U1 := fun v => run_underlying Tryd.underlying44 v
    have U2 := fun v => run_underlying Tryd.underlying44 v
    have hn0 : ¬ n12 = 0 := by rw [hn12]; decide
    have hlen : (cellsOf64 (ds Z)).length = n12 := by rw [hn12]; exact dsc_len Z
    have G1 := agg_num
    have G2 : ∀ v, (sizeOf 24).run Tryd.prog v = .ok n12 v := by rw [hn12]; exact size_num
    have G3 := agg_sc
    have G4 : ∀ v, (sizeOf 44).run Tryd.prog v = .ok n12 v := by rw [hn12]; exact size_sc
    clear hn12 hbx
    have N1 := Tryd.call50
    have N2 := Tryd.call51
    clear CE0
    generalize Tryd.prog = P at CG CE B3 ST U1 U2 L1 L2 G1 G2 G3 G4 N1 N2 ⊢
    go_region_held3 (fun w' => EnvM w bx b_y 44 44 X Y w') (first | with_reducible assumption | exact EP.out _ (by with_reducible assumption)) (first
      | (go_at_call 50; with_reducible refine (CG _ (by with_reducible assumption)).mono ?_; rintro e v ⟨b, rfl, hr, hb⟩; have hE := EnvM.up (by with_reducible assumption) hb; have hZ1 := blk_up (b := bz) (by with_reducible assumption) hb; dsimp only)
      | (go_at_call 51; with_reducible refine (CE _ _ (by with_reducible assumption)).mono ?_; rintro e v ⟨rfl, hb⟩; have hE := EnvM.up (by with_reducible assumption) hb; have hZ1 := blk_up (b := bz) (by with_reducible assumption) hb; obtain ⟨hst, HR⟩ := ST _ hZ1; dsimp only))
    go_wp2_with fail
    go_meet
    exact ⟨rfl, HR, EP.out _ hE⟩
  case rest =>
    obtain ⟨rfl, HR, hE⟩ := hcut
    clear CE0
    go_wp2
    refine bodyPost_ret (sc_result Tryd.results72 rfl HR) rfl ?_
    exact ⟨rfl, hbx ▸ hE.b⟩

set_option maxRecDepth 100000 in
set_option maxHeartbeats 4000000 in
theorem sjSub_c (X Y : Nat) (w : World) (hX : X < W12) (hY : Y < W12) (hG : GlobW w) :
    Calls Tryd.prog 72 #[.func (.func 49) #[] #[], num X, num Y] w fun e w' => e = .returned (num ((X % bigQ + bigQ - Y % bigQ) % bigQ)) ∧ Below w.heap.size w w' := by
  have hlX := dsc_len X
  have hlY := dsc_len Y
  obtain ⟨a1, a2⟩ := boxesT w 44 44 44 X Y
  have a1 := a1.up (Below.refl _ _).drew
  have a2 := blk_up a2 (Below.refl _ _).drew
  obtain ⟨Z, hZ⟩ : ∃ Z, Z = (X % bigQ + bigQ - Y % bigQ) % bigQ := ⟨_, rfl⟩
  have CE0 := fun (b : Nat) (v : World) (h : RingP v b bigQ) => rSub_c b X Y bigQ v h hX hY bigQ_lt (by decide)
  rw [← hZ] at CE0 ⊢
  have A1 := hid a1
  have A2 := hid a2
  clear a1 a2 hZ hX hY
  unfold num
  go_enter Tryd.func72, Tryd.ntmps72
  go_wp2_with fail
  change Code.wp _ _ _ _ (((w.alloc (o12 44 X)).alloc (o12 44 Y)).alloc (z12 44))
  generalize ((w.alloc (o12 44 X)).alloc (o12 44 Y)).alloc (z12 44) = w0 at *
  clear hlX hlY
  have E0 := A1.out
  have hZ0 := A2.out
  have n1 : w.heap.size ≠ w.heap.size + 1 + 1 := by omega
  have n2 : w.heap.size + 1 ≠ w.heap.size + 1 + 1 := by omega
  have n3 : w.heap.size ≤ w.heap.size + 1 + 1 := by omega
  have EP := hid (fun (v : World) (h : EnvM w w.heap.size (w.heap.size + 1) 44 44 X Y v) => h.put n1 n2 n3 (cellsOf64 (ds Z)))
  clear A1 A2 n1 n2 n3
  generalize w.heap.size + 1 + 1 = bz at *
  generalize w.heap.size + 1 = b_y at *
  generalize hbx : w.heap.size = bx at *
  go_cut [6] (fun s wx => s = .pointer (some ⟨bz, 0, none⟩) ∧ Hid (wx.rangeAt bz 0 (cellsOf64 (ds Z))) ∧ EnvM w bx b_y 44 44 X Y wx)
  case first =>
    obtain ⟨n12, hn12⟩ : ∃ n : Nat, n = 12 := ⟨_, rfl⟩
    have L1 : ∀ v, EnvM w bx b_y 44 44 X Y v → (loadCellsFrom ⟨bx, 0, none⟩ 0 n12 #[]).run Tryd.prog v = .ok (cellsOf64 (ds X)).toArray v := fun v h => by rw [hn12]; exact cells_numT h.x
    have L2 : ∀ v, EnvM w bx b_y 44 44 X Y v → (loadCellsFrom ⟨b_y, 0, none⟩ 0 n12 #[]).run Tryd.prog v = .ok (cellsOf64 (ds Y)).toArray v := fun v h => by rw [hn12]; exact cells_numT h.y
    have CG : ∀ v, EnvM w bx b_y 44 44 X Y v → Calls Tryd.prog 50 #[] v fun e w' => ∃ b, e = .returned (.pointer (some ⟨b, 0, none⟩)) ∧ RingP w' b bigQ ∧ Below v.heap.size v w' := fun v h => exponents_c v (hG.up (hbx ▸ h.b))
    have CE : ∀ b v, RingP v b bigQ → Calls Tryd.prog 49 #[.pointer (some ⟨b, 0, none⟩), .agg (cellsOf64 (ds X)).toArray, .agg (cellsOf64 (ds Y)).toArray] v fun e w' => e = .returned (.agg (cellsOf64 (ds Z)).toArray) ∧ Below v.heap.size v w' := CE0
    obtain ⟨zc, hz1, hz2, hz3, hz4⟩ := zeros_el
    have B1 := hz4 Z
    have B2 : ¬ zc.size < n12 := by rw [hz3, hn12]; decide
    have B3 := hz2
    clear hz1 hz2 hz3 hz4
    have ST : ∀ v, BlkW v bz 44 (List.replicate 12 0) → (storeCells ⟨bz, 0, none⟩ (cellsOf64 (ds Z))).run Tryd.prog v = .ok () (v.setCells bz 0 (cellsOf64 (ds Z))) ∧ Hid ((v.setCells bz 0 (cellsOf64 (ds Z))).rangeAt bz 0 (cellsOf64 (ds Z))) := fun v h => num_storedT h
    have U1 := fun v => run_underlying Tryd.underlying44 v
    have U2 := fun v => run_underlying Tryd.underlying44 v
    have hn0 : ¬ n12 = 0 := by rw [hn12]; decide
    have hlen : (cellsOf64 (ds Z)).length = n12 := by rw [hn12]; exact dsc_len Z
    have G1 := agg_num
    have G2 : ∀ v, (sizeOf 24).run Tryd.prog v = .ok n12 v := by rw [hn12]; exact size_num
    have G3 := agg_sc
    have G4 : ∀ v, (sizeOf 44).run Tryd.prog v = .ok n12 v := by rw [hn12]; exact size_sc
    clear hn12 hbx
    have N1 := Tryd.call50
    have N2 := Tryd.call49
    clear CE0
    generalize Tryd.prog = P at CG CE B3 ST U1 U2 L1 L2 G1 G2 G3 G4 N1 N2 ⊢
    go_region_held3 (fun w' => EnvM w bx b_y 44 44 X Y w') (first | with_reducible assumption | exact EP.out _ (by with_reducible assumption)) (first
      | (go_at_call 50; with_reducible refine (CG _ (by with_reducible assumption)).mono ?_; rintro e v ⟨b, rfl, hr, hb⟩; have hE := EnvM.up (by with_reducible assumption) hb; have hZ1 := blk_up (b := bz) (by with_reducible assumption) hb; dsimp only)
      | (go_at_call 49; with_reducible refine (CE _ _ (by with_reducible assumption)).mono ?_; rintro e v ⟨rfl, hb⟩; have hE := EnvM.up (by with_reducible assumption) hb; have hZ1 := blk_up (b := bz) (by with_reducible assumption) hb; obtain ⟨hst, HR⟩ := ST _ hZ1; dsimp only))
    go_wp2_with fail
    go_meet
    exact ⟨rfl, HR, EP.out _ hE⟩
  case rest =>
    obtain ⟨rfl, HR, hE⟩ := hcut
    clear CE0
    go_wp2
    refine bodyPost_ret (sc_result Tryd.results72 rfl HR) rfl ?_
    exact ⟨rfl, hbx ▸ hE.b⟩

set_option maxRecDepth 100000 in
set_option maxHeartbeats 4000000 in
theorem sjMul_c (X Y : Nat) (w : World) (hX : X < W12) (hY : Y < W12) (hG : GlobW w) :
    Calls Tryd.prog 72 #[.func (.func 13) #[] #[], num X, num Y] w fun e w' => e = .returned (num (X * Y % bigQ)) ∧ Below w.heap.size w w' := by
  have hlX := dsc_len X
  have hlY := dsc_len Y
  obtain ⟨a1, a2⟩ := boxesT w 44 44 44 X Y
  have a1 := a1.up (Below.refl _ _).drew
  have a2 := blk_up a2 (Below.refl _ _).drew
  obtain ⟨Z, hZ⟩ : ∃ Z, Z = X * Y % bigQ := ⟨_, rfl⟩
  have CE0 := fun (b : Nat) (v : World) (h : RingP v b bigQ) => rMul_c b X Y bigQ v h hX hY bigQ_lt (by decide)
  rw [← hZ] at CE0 ⊢
  have A1 := hid a1
  have A2 := hid a2
  clear a1 a2 hZ hX hY
  unfold num
  go_enter Tryd.func72, Tryd.ntmps72
  go_wp2_with fail
  change Code.wp _ _ _ _ (((w.alloc (o12 44 X)).alloc (o12 44 Y)).alloc (z12 44))
  generalize ((w.alloc (o12 44 X)).alloc (o12 44 Y)).alloc (z12 44) = w0 at *
  clear hlX hlY
  have E0 := A1.out
  have hZ0 := A2.out
  have n1 : w.heap.size ≠ w.heap.size + 1 + 1 := by omega
  have n2 : w.heap.size + 1 ≠ w.heap.size + 1 + 1 := by omega
  have n3 : w.heap.size ≤ w.heap.size + 1 + 1 := by omega
  have EP := hid (fun (v : World) (h : EnvM w w.heap.size (w.heap.size + 1) 44 44 X Y v) => h.put n1 n2 n3 (cellsOf64 (ds Z)))
  clear A1 A2 n1 n2 n3
  generalize w.heap.size + 1 + 1 = bz at *
  generalize w.heap.size + 1 = b_y at *
  generalize hbx : w.heap.size = bx at *
  go_cut [6] (fun s wx => s = .pointer (some ⟨bz, 0, none⟩) ∧ Hid (wx.rangeAt bz 0 (cellsOf64 (ds Z))) ∧ EnvM w bx b_y 44 44 X Y wx)
  case first =>
    obtain ⟨n12, hn12⟩ : ∃ n : Nat, n = 12 := ⟨_, rfl⟩
    have L1 : ∀ v, EnvM w bx b_y 44 44 X Y v → (loadCellsFrom ⟨bx, 0, none⟩ 0 n12 #[]).run Tryd.prog v = .ok (cellsOf64 (ds X)).toArray v := fun v h => by rw [hn12]; exact cells_numT h.x
    have L2 : ∀ v, EnvM w bx b_y 44 44 X Y v → (loadCellsFrom ⟨b_y, 0, none⟩ 0 n12 #[]).run Tryd.prog v = .ok (cellsOf64 (ds Y)).toArray v := fun v h => by rw [hn12]; exact cells_numT h.y
    have CG : ∀ v, EnvM w bx b_y 44 44 X Y v → Calls Tryd.prog 50 #[] v fun e w' => ∃ b, e = .returned (.pointer (some ⟨b, 0, none⟩)) ∧ RingP w' b bigQ ∧ Below v.heap.size v w' := fun v h => exponents_c v (hG.up (hbx ▸ h.b))
    have CE : ∀ b v, RingP v b bigQ → Calls Tryd.prog 13 #[.pointer (some ⟨b, 0, none⟩), .agg (cellsOf64 (ds X)).toArray, .agg (cellsOf64 (ds Y)).toArray] v fun e w' => e = .returned (.agg (cellsOf64 (ds Z)).toArray) ∧ Below v.heap.size v w' := CE0
    obtain ⟨zc, hz1, hz2, hz3, hz4⟩ := zeros_el
    have B1 := hz4 Z
    have B2 : ¬ zc.size < n12 := by rw [hz3, hn12]; decide
    have B3 := hz2
    clear hz1 hz2 hz3 hz4
    have ST : ∀ v, BlkW v bz 44 (List.replicate 12 0) → (storeCells ⟨bz, 0, none⟩ (cellsOf64 (ds Z))).run Tryd.prog v = .ok () (v.setCells bz 0 (cellsOf64 (ds Z))) ∧ Hid ((v.setCells bz 0 (cellsOf64 (ds Z))).rangeAt bz 0 (cellsOf64 (ds Z))) := fun v h => num_storedT h
    have U1 := fun v => run_underlying Tryd.underlying44 v
    have U2 := fun v => run_underlying Tryd.underlying44 v
    have hn0 : ¬ n12 = 0 := by rw [hn12]; decide
    have hlen : (cellsOf64 (ds Z)).length = n12 := by rw [hn12]; exact dsc_len Z
    have G1 := agg_num
    have G2 : ∀ v, (sizeOf 24).run Tryd.prog v = .ok n12 v := by rw [hn12]; exact size_num
    have G3 := agg_sc
    have G4 : ∀ v, (sizeOf 44).run Tryd.prog v = .ok n12 v := by rw [hn12]; exact size_sc
    clear hn12 hbx
    have N1 := Tryd.call50
    have N2 := Tryd.call13
    clear CE0
    generalize Tryd.prog = P at CG CE B3 ST U1 U2 L1 L2 G1 G2 G3 G4 N1 N2 ⊢
    go_region_held3 (fun w' => EnvM w bx b_y 44 44 X Y w') (first | with_reducible assumption | exact EP.out _ (by with_reducible assumption)) (first
      | (go_at_call 50; with_reducible refine (CG _ (by with_reducible assumption)).mono ?_; rintro e v ⟨b, rfl, hr, hb⟩; have hE := EnvM.up (by with_reducible assumption) hb; have hZ1 := blk_up (b := bz) (by with_reducible assumption) hb; dsimp only)
      | (go_at_call 13; with_reducible refine (CE _ _ (by with_reducible assumption)).mono ?_; rintro e v ⟨rfl, hb⟩; have hE := EnvM.up (by with_reducible assumption) hb; have hZ1 := blk_up (b := bz) (by with_reducible assumption) hb; obtain ⟨hst, HR⟩ := ST _ hZ1; dsimp only))
    go_wp2_with fail
    go_meet
    exact ⟨rfl, HR, EP.out _ hE⟩
  case rest =>
    obtain ⟨rfl, HR, hE⟩ := hcut
    clear CE0
    go_wp2
    refine bodyPost_ret (sc_result Tryd.results72 rfl HR) rfl ?_
    exact ⟨rfl, hbx ▸ hE.b⟩
end Go.Proofs.YtfonpmahcdmajaaDoor
