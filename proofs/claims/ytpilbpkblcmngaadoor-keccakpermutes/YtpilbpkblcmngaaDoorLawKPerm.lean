/-
  avouchlaw06.KeccakPermutes: the walk.
-/
import Derived.Test.YtpilbpkblcmngaaDoorKLb
import Derived.Test.YtpilbpkblcmngaaDoorKRj
namespace Go.Proofs.YtpilbpkblcmngaaDoor
open Go.RowKit
set_option linter.unusedVariables false
set_option linter.unusedSimpArgs false

/-- What is kept: the state, and what the round makes of it. -/
structure EnvQ (w : World) (l M : List Nat) (b5 : Nat) (v : World) : Prop where
  x : BlkW v w.heap.size 24 l
  y : BlkW v b5 23 M
  g : GlobK v
  b : Below w.heap.size w v
theorem EnvQ.up {w : World} {l M : List Nat} {b5 : Nat} {v v' : World} (h : EnvQ w l M b5 v) (hb : Below v.heap.size v v') : EnvQ w l M b5 v' := ⟨h.x.up hb, h.y.up hb, h.g.up hb, bchain h.b hb⟩

set_option maxRecDepth 100000 in
set_option maxHeartbeats 4000000 in
theorem keccakPermutes_w (l : List Nat) (r : Int) (w : World) (hl : Lanes l) (hG : GlobK w) :
    Calls Tryd.prog 3 #[st l, .int .i64 r] w fun e w' => e = .returned (.bool true) ∧ Below w.heap.size w w' := by
  obtain ⟨h1, h4⟩ := boot1 w hl
  have H1 := hid h1
  have H4 := hid h4
  have HG := hid (hG.up h4)
  have HL := hid hl
  have hlen := st_len hl
  clear h1 h4 hG hl
  unfold oW at H1 H4 HG
  unfold st
  go_enter Tryd.func3, Tryd.ntmps3
  go_wp2_with fail
  clear hlen
  generalize (w.alloc _) = w0 at *
  refine (speaks6_c w0 HG.out).mono ?_
  rintro e w1 ⟨rfl, b1⟩
  have O1 := hid (H1.out.up b1).range
  have HSz := hid (st_size HL.out)
  have X1 := hid (H1.out.up b1)
  have G1 := hid (HG.out.up b1)
  have B1 := hid (bchain H4.out b1)
  clear b1 H1 H4 HG
  go_wp2_with (with_reducible refine wpList_load_mid rfl 24 (.tmp 2) rfl w.heap.size 0 rfl (cellsOf64 l) _ O1.out Tryd.underlying24 rfl HSz.out ?_)
  refine (ofWords_c l w1 HL.out).mono ?_
  rintro e w2 ⟨rfl, b2⟩
  go_wp2_with fail
  refine (round6_l l r w2 HL.out).mono ?_
  rintro e w3 ⟨rfl, b3⟩
  obtain ⟨M, hM⟩ : ∃ M, M = lrd (kc r) l := ⟨_, rfl⟩
  have HM := hid hM
  have HML : Hid (Lanes M) := hM ▸ lrd_lanes (kc_lt r) HL.out
  rw [← hM]
  clear hM
  go_wp2_with fail
  refine (words6_c M w3 HML.out).mono ?_
  rintro e w4 ⟨rfl, b4⟩
  have b14 := bchain b2 (bchain b3 b4)
  have X4 := X1.out.up b14
  have G4 := G1.out.up b14
  have B4 := bchain B1.out b14
  obtain ⟨hst, hn, hbn⟩ := new_st w4 23 HML.out
  have E0 : Hid (EnvQ w l M w4.heap.size ((w4.alloc (zS 23)).setCells w4.heap.size 0 (cellsOf64 M))) := ⟨X4.up hbn, hn, G4.up hbn, bchain B4 hbn⟩
  have hlM := st_len HML.out
  clear b2 b3 b4 b14 X4 G4 B4 hn hbn X1 G1 B1 O1 HSz
  unfold zS at hst E0
  unfold st
  go_wp2_with fail
  clear hst hlM
  generalize ((w4.alloc _).setCells _ _ _) = w5 at *
  generalize w4.heap.size = b5 at *
  have EX : EnvQ w l M b5 w5.drew := E0.out.up (Below.refl _ _).drew
  clear E0
  go_cut [4] (fun s wx => s = .bool true ∧ EnvQ w l M b5 wx)
  case first =>
    obtain ⟨n25, hn25⟩ : ∃ n : Nat, n = 25 := ⟨_, rfl⟩
    obtain ⟨Pm, hPm⟩ : ∃ p, p = lperm l := ⟨_, rfl⟩
    have HPL : Lanes Pm := hPm ▸ lperm_lanes HL.out
    have L1 : ∀ v, EnvQ w l M b5 v → (loadCellsFrom ⟨w.heap.size, 0, none⟩ 0 n25 #[]).run Tryd.prog v = .ok (cellsOf64 l).toArray v := fun v h => by rw [hn25]; exact cells_st h.x HL.out
    have L2 : ∀ v, EnvQ w l M b5 v → (loadCellsFrom ⟨b5, 0, none⟩ 0 n25 #[]).run Tryd.prog v = .ok (cellsOf64 M).toArray v := fun v h => by rw [hn25]; exact cells_st h.y HML.out
    have CR : ∀ v, EnvQ w l M b5 v → Calls Tryd.prog 12 #[.agg (cellsOf64 l).toArray, .int .i64 r] v fun e w' => e = .returned (.agg (cellsOf64 M).toArray) ∧ Below v.heap.size v w' := fun v h => by
      have := round_c l r v HL.out h.g
      rw [← HM.out] at this
      exact this
    have CP : ∀ v, EnvQ w l M b5 v → Calls Tryd.prog 13 #[.agg (cellsOf64 l).toArray] v fun e w' => e = .returned (.agg (cellsOf64 Pm).toArray) ∧ Below v.heap.size v w' := fun v h => by
      have := permute_c l v HL.out h.g
      rw [← hPm] at this
      exact this
    have CQ : ∀ v, EnvQ w l M b5 v → Calls Tryd.prog 14 #[.agg (cellsOf64 l).toArray] v fun e w' => e = .returned (.agg (cellsOf64 Pm).toArray) ∧ Below v.heap.size v w' := fun v h => by
      have := permute6_c l v HL.out
      rw [← hPm] at this
      exact this
    have F1 : ∀ v, (Op.equalIn 10000 24 (.agg (cellsOf64 M).toArray) (.agg (cellsOf64 M).toArray)).run Tryd.prog v = .ok true v := fun v => same_st v HML.out
    have F2 : ∀ v, (Op.equalIn 10000 24 (.agg (cellsOf64 Pm).toArray) (.agg (cellsOf64 Pm).toArray)).run Tryd.prog v = .ok true v := fun v => same_st v HPL
    have G1 := agg_st
    have G2 : ∀ v, (sizeOf 24).run Tryd.prog v = .ok n25 v := by rw [hn25]; exact size_st
    have G3 := agg_w25
    have G4 : ∀ v, (sizeOf 23).run Tryd.prog v = .ok n25 v := by rw [hn25]; exact size_w25
    have G5 := Tryd.eqGuardType24
    have N1 := Tryd.call12
    have N2 := Tryd.call13
    have N3 := Tryd.call14
    clear hn25 hPm HPL HML HM HL
    have HM : Tryd.prog.follows .mixedOrders = true := by kernel_rfl
    generalize Tryd.prog = P at HM CR CP CQ L1 L2 F1 F2 G1 G2 G3 G4 G5 N1 N2 N3 ⊢
    refine wp_region_held_drew (S := fun v => EnvQ w l M b5 v) HM EX (fun hHeld => ?_)
    refine wpAnyH_take (i := 0) (v := ?_) rfl (by kernel_rfl) (by kernel_rfl) (by kernel_rfl) (fun _ _ _ h => h) (Or.inl ⟨by rfl, fun v hv => ?_⟩) (by with_reducible assumption) ?_
    rotate_left
    · go_simp
      try with_reducible rfl
    simp only [Act.put, List.setIfInBounds_toArray, List.set_cons_zero, List.set_cons_succ, List.getElem_toArray, List.getElem_cons_zero, List.getElem_cons_succ]
    refine wpAnyH_take (i := 1) (v := ?_) rfl (by kernel_rfl) (by kernel_rfl) (by kernel_rfl) (fun _ _ _ h => h) (Or.inl ⟨by rfl, fun v hv => ?_⟩) (by with_reducible assumption) ?_
    rotate_left
    · go_simp
      try with_reducible rfl
    simp only [Act.put, List.setIfInBounds_toArray, List.set_cons_zero, List.set_cons_succ, List.getElem_toArray, List.getElem_cons_zero, List.getElem_cons_succ]
    refine wpAnyH_take (i := 3) (v := ?_) rfl (by kernel_rfl) (by kernel_rfl) (by kernel_rfl) (fun _ _ _ h => h) (Or.inl ⟨by rfl, fun v hv => ?_⟩) (by with_reducible assumption) ?_
    rotate_left
    · go_simp
      try with_reducible rfl
    simp only [Act.put, List.setIfInBounds_toArray, List.set_cons_zero, List.set_cons_succ, List.getElem_toArray, List.getElem_cons_zero, List.getElem_cons_succ]
    refine wpAnyH_ready (rs := [2]) (by kernel_rfl) (by simp) ?_
    refine AllReadyH.cons rfl (fun K hK => ?_) AllReadyH.nil
    go_simp
    go_at_call 12
    with_reducible refine (CR _ (by with_reducible assumption)).mono ?_
    rintro e v1 ⟨rfl, hb1⟩
    have hE1 := EnvQ.up (by with_reducible assumption) hb1
    dsimp only
    refine hK.out _ _ hE1 (fun hHeld => ?_)
    clear hK K
    try simp only [Act.put, List.setIfInBounds_toArray, List.set_cons_zero, List.set_cons_succ, List.getElem_toArray, List.getElem_cons_zero, List.getElem_cons_succ]
    refine wpAnyH_take (i := 4) (v := ?_) rfl (by kernel_rfl) (by kernel_rfl) (by kernel_rfl) (fun _ _ _ h => h) (Or.inl ⟨by rfl, fun v hv => ?_⟩) (by with_reducible assumption) ?_
    rotate_left
    · go_simp
      try with_reducible rfl
    simp only [Act.put, List.setIfInBounds_toArray, List.set_cons_zero, List.set_cons_succ, List.getElem_toArray, List.getElem_cons_zero, List.getElem_cons_succ]
    refine wpAnyH_take (i := 5) (v := ?_) rfl (by kernel_rfl) (by kernel_rfl) (by kernel_rfl) (fun _ _ _ h => h) (Or.inl ⟨by rfl, fun v hv => ?_⟩) (by with_reducible assumption) ?_
    rotate_left
    · go_simp
      try with_reducible rfl
    simp only [Act.put, List.setIfInBounds_toArray, List.set_cons_zero, List.set_cons_succ, List.getElem_toArray, List.getElem_cons_zero, List.getElem_cons_succ]
    refine wpAnyH_take (i := 6) (v := ?_) rfl (by kernel_rfl) (by kernel_rfl) (by kernel_rfl) (fun _ _ _ h => h) (Or.inl ⟨by rfl, fun v hv => ?_⟩) (by with_reducible assumption) ?_
    rotate_left
    · go_simp
      try with_reducible rfl
    simp only [Act.put, List.setIfInBounds_toArray, List.set_cons_zero, List.set_cons_succ, List.getElem_toArray, List.getElem_cons_zero, List.getElem_cons_succ]
    refine wpAnyH_take (i := 8) (v := ?_) rfl (by kernel_rfl) (by kernel_rfl) (by kernel_rfl) (fun _ _ _ h => h) (Or.inl ⟨by rfl, fun v hv => ?_⟩) (by with_reducible assumption) ?_
    rotate_left
    · go_simp
      try with_reducible rfl
    simp only [Act.put, List.setIfInBounds_toArray, List.set_cons_zero, List.set_cons_succ, List.getElem_toArray, List.getElem_cons_zero, List.getElem_cons_succ]
    refine wpAnyH_ready (rs := [7]) (by kernel_rfl) (by simp) ?_
    refine AllReadyH.cons rfl (fun K hK => ?_) AllReadyH.nil
    go_simp
    go_at_call 13
    with_reducible refine (CP _ (by with_reducible assumption)).mono ?_
    rintro e v2 ⟨rfl, hb2⟩
    have hE2 := EnvQ.up (by with_reducible assumption) hb2
    dsimp only
    refine hK.out _ _ hE2 (fun hHeld => ?_)
    clear hK K
    try simp only [Act.put, List.setIfInBounds_toArray, List.set_cons_zero, List.set_cons_succ, List.getElem_toArray, List.getElem_cons_zero, List.getElem_cons_succ]
    refine wpAnyH_ready (rs := [9]) (by kernel_rfl) (by simp) ?_
    refine AllReadyH.cons rfl (fun K hK => ?_) AllReadyH.nil
    go_simp
    go_at_call 14
    with_reducible refine (CQ _ (by with_reducible assumption)).mono ?_
    rintro e v3 ⟨rfl, hb3⟩
    have hE3 := EnvQ.up (by with_reducible assumption) hb3
    dsimp only
    refine hK.out _ _ hE3 (fun hHeld => ?_)
    clear hK K
    try simp only [Act.put, List.setIfInBounds_toArray, List.set_cons_zero, List.set_cons_succ, List.getElem_toArray, List.getElem_cons_zero, List.getElem_cons_succ]
    refine wpAnyH_take (i := 10) (v := ?_) rfl (by kernel_rfl) (by kernel_rfl) (by kernel_rfl) (fun _ _ _ h => h) (Or.inl ⟨by rfl, fun v hv => ?_⟩) (by with_reducible assumption) ?_
    rotate_left
    · go_simp
      try with_reducible rfl
    simp only [Act.put, List.setIfInBounds_toArray, List.set_cons_zero, List.set_cons_succ, List.getElem_toArray, List.getElem_cons_zero, List.getElem_cons_succ]
    refine wpAnyH_take (i := 11) (v := ?_) rfl (by kernel_rfl) (by kernel_rfl) (by kernel_rfl) (fun _ _ _ h => h) (Or.inl ⟨by rfl, fun v hv => ?_⟩) (by with_reducible assumption) ?_
    rotate_left
    · go_simp
      try with_reducible rfl
    simp only [Act.put, List.setIfInBounds_toArray, List.set_cons_zero, List.set_cons_succ, List.getElem_toArray, List.getElem_cons_zero, List.getElem_cons_succ]
    refine wpAnyH_take (i := 12) (v := ?_) rfl (by kernel_rfl) (by kernel_rfl) (by kernel_rfl) (fun _ _ _ h => h) (Or.inl ⟨by rfl, fun v hv => ?_⟩) (by with_reducible assumption) ?_
    rotate_left
    · go_simp
      try with_reducible rfl
    simp only [Act.put, List.setIfInBounds_toArray, List.set_cons_zero, List.set_cons_succ, List.getElem_toArray, List.getElem_cons_zero, List.getElem_cons_succ]
    refine wpAnyH_done (by kernel_rfl) ?_ _
    go_wp2_with fail
    go_meet
    exact ⟨rfl, hE3⟩
  case rest =>
    obtain ⟨rfl, hE⟩ := hcut
    clear EX
    go_wp2
    go_ret
    exact ⟨rfl, hE.b⟩
end Go.Proofs.YtpilbpkblcmngaaDoor
