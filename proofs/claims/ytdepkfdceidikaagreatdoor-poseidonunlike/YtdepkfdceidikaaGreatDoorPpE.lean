import Derived.Test.YtdepkfdceidikaaGreatDoorPpB
/-
  poseidon: isPartial, Power, sums, powers, New, Constants: what each call does.
-/
namespace Go.Proofs.YtdepkfdceidikaaGreatDoor
open Go.RowKit
set_option linter.unusedVariables false
set_option linter.unusedSimpArgs false


/-- Is a round a partial one? A round's constants; is it full? By any integer. -/
def parI (r : Int) : Bool := decide (4 ≤ r) && decide (r < 61)
noncomputable def pcI (r : Int) (i : Nat) : Int := if 0 ≤ r ∧ r < 65 then pcZ r.toNat i else 0
def fulI (r : Int) : Bool := decide (r < 4) || decide (60 < r)
theorem fulI_par (r : Int) : fulI r = !parI r := by
  unfold fulI parI
  by_cases h1 : r < 4
  · rw [decide_eq_true h1, decide_eq_false (show ¬ 4 ≤ r by omega)]; rfl
  · by_cases h2 : 60 < r
    · rw [decide_eq_false h1, decide_eq_true h2, decide_eq_true (show 4 ≤ r by omega), decide_eq_false (show ¬ r < 61 by omega)]; rfl
    · rw [decide_eq_false h1, decide_eq_false h2, decide_eq_true (show 4 ≤ r by omega), decide_eq_true (show r < 61 by omega)]; rfl
theorem fulI_nat (k : Nat) : fulI (k : Int) = fullB k := by
  unfold fulI fullB
  rw [show decide ((k : Int) < 4) = decide (k < 4) from decide_eq_decide.mpr (by omega), show decide (60 < (k : Int)) = decide (60 < k) from decide_eq_decide.mpr (by omega)]
theorem pcI_nat {k : Nat} (h : k < 65) : pcI (k : Int) = pcZ k := by
  funext i
  unfold pcI
  rw [if_pos (by omega), Int.toNat_natCast]
theorem isPartial_c (r : Int) (w : World) : Calls Tryz.prog 36 #[.int .i64 r] w fun e w' => e = .returned (.bool (parI r)) ∧ w' = w := by
  unfold parI
  by_cases h1 : 4 ≤ r
  · by_cases h2 : r < 61
    · rw [decide_eq_true h1, decide_eq_true h2]
      go_enter Tryz.func36, Tryz.ntmps36
      go_wp2
      go_ret
      exact ⟨rfl, rfl⟩
    · have d2 : decide (r < 61) = false := decide_eq_false h2
      rw [decide_eq_true h1, d2]
      go_enter Tryz.func36, Tryz.ntmps36
      go_wp2
      go_ret
      exact ⟨rfl, rfl⟩
  · have d1 : decide (4 ≤ r) = false := decide_eq_false h1
    rw [d1]
    go_enter Tryz.func36, Tryz.ntmps36
    go_wp2
    go_ret
    exact ⟨rfl, rfl⟩
set_option maxRecDepth 20000 in
set_option maxHeartbeats 1000000 in
theorem power_c (u : Value) (X : Int) (w : World) (hu : Ez u X) (hG : Glob w) :
    Calls Tryz.prog 22 #[u] w fun e w' => ∃ r, e = .returned r ∧ Ez r (pw5 X) ∧ Below w.heap.size w w' := by
  obtain ⟨f, rfl⟩ := hu.fn
  have hz := zeroE
  have hlz := wds_len 4 z0
  have hlf := wds_len 4 f
  have HE := hid hu
  have HG := hid hG
  clear hu hG
  have e1 : (w.alloc (oF 37 4 f)).heap.size = w.heap.size + 1 := by simp
  have h0 := (oF_new w 37 4 f).alloc (oF 37 4 z0)
  have h1 := oF_new (w.alloc (oF 37 4 f)) 37 4 z0
  rw [e1] at h1
  have hb := ((Below.refl w.heap.size w).alloc (Nat.le_refl _) (oF 37 4 f)).alloc (by omega) (oF 37 4 z0)
  clear e1
  unfold oF at h0 h1 hb
  go_enter Tryz.func22, Tryz.ntmps22
  go_wp2_with fail
  generalize ((w.alloc _).alloc _) = w0 at *
  have x0 := h0.up (Below.refl _ _).drew
  have z0' := h1.up (Below.refl _ _).drew
  have b0 := bchain hb (Below.refl _ _).drew
  clear h0 h1 hb
  refine wp_region_held_drew (S := fun v => BlkV v w.heap.size 37 (wds 4 f)) (by kernel_rfl) x0 (fun hHeld => ?_)
  refine wpAnyH_take (i := 0) (v := .agg (wds 4 f).toArray) rfl (by kernel_rfl) (by kernel_rfl) (by kernel_rfl) (fun _ _ _ h => h) (yieldsIf_load_mid (by rfl) 37 (.tmp 1) rfl (w.heap.size) (0) rfl (wds 4 f) _ (fun v hv => hv.range) Tryz.underlying37 rfl (sizeE _)) (by with_reducible assumption) ?_
  simp only [Act.put, List.setIfInBounds_toArray, List.set_cons_zero, List.set_cons_succ, List.getElem_toArray, List.getElem_cons_zero, List.getElem_cons_succ]
  refine wpAnyH_take (i := 3) (v := .agg (wds 4 f).toArray) rfl (by kernel_rfl) (by kernel_rfl) (by kernel_rfl) (fun _ _ _ h => h) (yieldsIf_load_mid (by rfl) 37 (.tmp 1) rfl (w.heap.size) (0) rfl (wds 4 f) _ (fun v hv => hv.range) Tryz.underlying37 rfl (sizeE _)) (by with_reducible assumption) ?_
  simp only [Act.put, List.setIfInBounds_toArray, List.set_cons_zero, List.set_cons_succ, List.getElem_toArray, List.getElem_cons_zero, List.getElem_cons_succ]
  refine wpAnyH_ready (rs := [1]) (by kernel_rfl) (by simp) ?_
  refine (AllReadyH.cons rfl (fun K hK => ?_) AllReadyH.nil)
  go_simp
  go_at_call 44
  with_reducible refine (esquareZ_c _ _ w0.drew HE.out (HG.out.up b0)).mono ?_
  rintro e wq1 ⟨r1, rfl, he1, hbq1⟩
  have x_q1 := (x0).up hbq1
  have z_q1 := (z0').up hbq1
  have b_q1 := bchain b0 hbq1
  try dsimp only
  refine hK.out _ _ (x_q1) (fun hHeld => ?_)
  clear hK K
  try simp only [Act.put, List.setIfInBounds_toArray, List.set_cons_zero, List.set_cons_succ, List.getElem_toArray, List.getElem_cons_zero, List.getElem_cons_succ]
  refine wpAnyH_ready (rs := [2]) (by kernel_rfl) (by simp) ?_
  refine (AllReadyH.cons rfl (fun K hK => ?_) AllReadyH.nil)
  go_simp
  go_at_call 44
  with_reducible refine (esquareZ_c _ _ wq1 he1 (HG.out.up b_q1)).mono ?_
  rintro e wq2 ⟨r2, rfl, he2, hbq2⟩
  have x_q2 := (x_q1).up hbq2
  have z_q2 := (z_q1).up hbq2
  have b_q2 := bchain b_q1 hbq2
  try dsimp only
  refine hK.out _ _ (x_q2) (fun hHeld => ?_)
  clear hK K
  try simp only [Act.put, List.setIfInBounds_toArray, List.set_cons_zero, List.set_cons_succ, List.getElem_toArray, List.getElem_cons_zero, List.getElem_cons_succ]
  refine wpAnyH_ready (rs := [4]) (by kernel_rfl) (by simp) ?_
  refine (AllReadyH.cons rfl (fun K hK => ?_) AllReadyH.nil)
  go_simp
  go_at_call 45
  with_reducible refine (emulZ_c _ _ _ _ wq2 he2 HE.out (HG.out.up b_q2)).mono ?_
  rintro e wq3 ⟨r3, rfl, he3, hbq3⟩
  have x_q3 := (x_q2).up hbq3
  have z_q3 := (z_q2).up hbq3
  have b_q3 := bchain b_q2 hbq3
  obtain ⟨gr, rfl⟩ := he3.fn
  try dsimp only
  refine hK.out _ _ (x_q3) (fun hHeld => ?_)
  clear hK K
  try simp only [Act.put, List.setIfInBounds_toArray, List.set_cons_zero, List.set_cons_succ, List.getElem_toArray, List.getElem_cons_zero, List.getElem_cons_succ]
  refine wpAnyH_ready (rs := [5]) (by kernel_rfl) (by simp) ?_
  refine (AllReadyH.cons rfl (fun K hK => ?_) AllReadyH.nil)
  refine ready_go (by rfl) ?_
  refine wp_store_mid 37 (.tmp 2) (.tmp 7) rfl (w.heap.size + 1) (0) (wds 4 gr).toArray rfl rfl ((z_q3).thereW 0 4 gr (by decide)) (sizeEA _) (wds_all _ _) ?_
  have HR := hid ((z_q3).lay0 gr).range
  have xe := BlkV.put (show w.heap.size ≠ w.heap.size + 1 by omega) (wds 4 gr) 0 _ (x_q3)
  have be := hid (below_cells (show w.heap.size ≤ w.heap.size + 1 by omega) (wds 4 gr) 0 _ (b_q3))
  refine hK.out _ _ (xe) (fun hHeld => ?_)
  clear hK K
  try simp only [Act.put, List.setIfInBounds_toArray, List.set_cons_zero, List.set_cons_succ, List.getElem_toArray, List.getElem_cons_zero, List.getElem_cons_succ]
  refine wpAnyH_done (by kernel_rfl) ?_ _
  go_wp2_with fail
  refine bodyPost_ret (results_cell1 Tryz.results22 ⟨w.heap.size + 1, 0, none⟩ _ rfl (run_loadVar_mid _ (w.heap.size + 1) 0 37 (wds 4 gr) _ HR.out Tryz.underlying37 rfl (sizeE _))) rfl ?_
  exact ⟨_, rfl, he3, be.out⟩
set_option maxRecDepth 20000 in
set_option maxHeartbeats 1000000 in
theorem sums_c (f g : Nat → Int) (X Y : Nat → Int) (w : World) (hX : VecZ f X) (hY : VecZ g Y) (hG : Glob w) :
    Calls Tryz.prog 35 #[.agg (wds 12 f).toArray, .agg (wds 12 g).toArray] w fun e w' => ∃ r, e = .returned (.agg (wds 12 r).toArray) ∧ VecZ r (fun i => X i + Y i) ∧ Below w.heap.size w w' := by
  have hz := zeroV
  have hlz := wds_len 12 z0
  have hze := zeroE
  have hle := wds_len 4 z0
  have hlf := wds_len 12 f
  have hlg := wds_len 12 g
  have e1 : (w.alloc (oF 39 12 f)).heap.size = w.heap.size + 1 := by simp
  have e2 : ((w.alloc (oF 39 12 f)).alloc (oF 39 12 g)).heap.size = w.heap.size + 1 + 1 := by simp
  have e3 : (((w.alloc (oF 39 12 f)).alloc (oF 39 12 g)).alloc (oF 39 12 z0)).heap.size = w.heap.size + 1 + 1 + 1 := by simp
  have h0 := (((oF_new w 39 12 f).alloc (oF 39 12 g)).alloc (oF 39 12 z0)).alloc (oF 39 12 z0)
  have h1 := ((oF_new (w.alloc (oF 39 12 f)) 39 12 g).alloc (oF 39 12 z0)).alloc (oF 39 12 z0)
  rw [e1] at h1
  have h2 := (oF_new ((w.alloc (oF 39 12 f)).alloc (oF 39 12 g)) 39 12 z0).alloc (oF 39 12 z0)
  rw [e2] at h2
  have h3 := oF_new (((w.alloc (oF 39 12 f)).alloc (oF 39 12 g)).alloc (oF 39 12 z0)) 39 12 z0
  rw [e3] at h3
  have hb := ((((Below.refl w.heap.size w).alloc (Nat.le_refl _) (oF 39 12 f)).alloc (by omega) (oF 39 12 g)).alloc (by omega) (oF 39 12 z0)).alloc (by omega) (oF 39 12 z0)
  clear e1 e2 e3
  have HO := hid h0.range
  have R0 := hid (show FRel w (w.heap.size + 1 + 1 + 1) 39 12 (VP (fun i => X i + Y i) 0) (w.heap.size + 1 + 1) 39 12 (w.heap.size + 1) 39 (wds 12 g) _ from ⟨⟨z0, h3, VP.zero _ _⟩, h2, h1, hb⟩)
  have HX := hid hX
  have HY := hid hY
  have HG := hid hG
  clear h0 h1 h2 h3 hX hY hG hb
  unfold oF at HO R0
  go_enter Tryz.func35, Tryz.ntmps35
  go_wp2_with (first
    | with_reducible refine wpList_load_mid rfl 39 (.tmp 2) rfl (w.heap.size) (0) rfl (wds 12 f) _ (by with_reducible exact HO.out) Tryz.underlying39 rfl (sizeV _) ?_
    | fail)
  clear HO
  generalize ((((w.alloc _).alloc _).alloc _).alloc _) = w0 at *
  go_loopw [9] (fun i wr => ∃ k : Nat, k ≤ 3 ∧ i = .int .i64 k ∧ FRel w (w.heap.size + 1 + 1 + 1) 39 12 (VP (fun i => X i + Y i) k) (w.heap.size + 1 + 1) 39 12 (w.heap.size + 1) 39 (wds 12 g) wr) (fun i _ => 3 - (intOf i).toNat)
  case atStart => exact ⟨0, by omega, rfl, R0.out⟩
  case round =>
    clear R0
    obtain ⟨k, hk, rfl, hrel⟩ := hrel
    by_cases hlt : k < 3
    · have i0 : (0 : Int) ≤ (k : Int) := by omega
      have i2 : (k : Int) < 3 := by omega
      have hix := index_v wr f hlt
      obtain ⟨a, ha⟩ : ∃ a : Nat → Int, a = fun m => f (k * 4 + m) := ⟨_, rfl⟩
      rw [← ha] at hix
      have HA : Hid (Ez (.agg (wds 4 a).toArray) (X k)) := by rw [ha]; exact HX.out.el hlt
      clear ha
      obtain ⟨c, hc⟩ : ∃ c : Nat → Int, c = fun m => g (k * 4 + m) := ⟨_, rfl⟩
      have HC : Hid (Ez (.agg (wds 4 c).toArray) (Y k)) := by rw [hc]; exact HY.out.el hlt
      have HSb : Hid (∀ v, BlkV v (w.heap.size + 1) 39 (wds 12 g) → v.rangeAt (w.heap.size + 1) (k * 4) (wds 4 c)) := fun v hv => by rw [hc]; exact hv.sub (k * 4) 4 (by omega)
      clear hc
      obtain ⟨n1, n2, n3⟩ := newRow wr 37 4 a
      have hr1 := hrel.up n3
      have hla := wds_len 4 a
      have N1 := hid n1
      have HN2 := hid n2
      have HR1 := hid hr1
      have LT : Hid (w.heap.size + 1 + 1 + 1 < wr.heap.size) := by obtain ⟨_, h, _⟩ := hrel.o; exact h.size
      have HO2 := hid n2.range
      clear n1 n2 n3 hrel hr1
      unfold oF at N1 HN2 HR1 HO2
      go_wp2_with (first
    | with_reducible refine wpList_store_mid rfl 37 (.tmp 7) (.tmp 12) rfl (wr.heap.size) (0) (wds 4 a).toArray rfl rfl (by with_reducible exact N1.out) (sizeEA _) (wds_all _ _) ?_
    | fail)
      clear HO2
      obtain ⟨w1, hw1⟩ : ∃ v, v = (wr.alloc (.cells (wds 4 z0).toArray 37)).setCells wr.heap.size 0 (wds 4 a) := ⟨_, rfl⟩
      rw [← hw1] at HN2 HR1 ⊢
      obtain ⟨bt, hbt⟩ : ∃ b, b = wr.heap.size := ⟨_, rfl⟩
      rw [← hbt] at HN2 LT ⊢
      have hlt2 : w.heap.size + 1 + 1 + 1 < bt := LT.out
      clear hw1 hbt N1
      have r0 := FRel.up HR1.out (Below.refl _ _).drew
      have n0 := HN2.out.up (Below.refl _ _).drew
      clear HR1 HN2
      refine wp_region_held_drew (S := fun v => BlkV v (w.heap.size + 1) 39 (wds 12 g) ∧ BlkV v bt 37 (wds 4 a)) (by kernel_rfl) ⟨(r0).x, n0⟩ (fun hHeld => ?_)
      refine wpAnyH_take (i := 0) (v := ?_) rfl (by kernel_rfl) (by kernel_rfl) (by kernel_rfl) (fun _ _ _ h => h) (Or.inl ⟨by rfl, fun v hv => ?_⟩) (by with_reducible assumption) ?_
      rotate_left
      · go_simp
        try with_reducible rfl
      simp only [Act.put, List.setIfInBounds_toArray, List.set_cons_zero, List.set_cons_succ, List.getElem_toArray, List.getElem_cons_zero, List.getElem_cons_succ]
      refine wpAnyH_take (i := 1) (v := .agg (wds 4 a).toArray) rfl (by kernel_rfl) (by kernel_rfl) (by kernel_rfl) (fun _ _ _ h => h) (yieldsIf_load_mid (by rfl) 37 (.tmp 7) rfl (bt) (0) rfl (wds 4 a) _ (fun v hv => hv.2.range) Tryz.underlying37 rfl (sizeE _)) (by with_reducible assumption) ?_
      simp only [Act.put, List.setIfInBounds_toArray, List.set_cons_zero, List.set_cons_succ, List.getElem_toArray, List.getElem_cons_zero, List.getElem_cons_succ]
      refine wpAnyH_take (i := 2) (v := ?_) rfl (by kernel_rfl) (by kernel_rfl) (by kernel_rfl) (fun _ _ _ h => h) (Or.inl ⟨by rfl, fun v hv => ?_⟩) (by with_reducible assumption) ?_
      rotate_left
      · go_simp
        try with_reducible rfl
      simp only [Act.put, List.setIfInBounds_toArray, List.set_cons_zero, List.set_cons_succ, List.getElem_toArray, List.getElem_cons_zero, List.getElem_cons_succ]
      refine wpAnyH_take (i := 3) (v := ?_) rfl (by kernel_rfl) (by kernel_rfl) (by kernel_rfl) (fun _ _ _ h => h) (Or.inl ⟨by rfl, fun v hv => ?_⟩) (by with_reducible assumption) ?_
      rotate_left
      · go_simp
        try with_reducible rfl
      simp only [Act.put, List.setIfInBounds_toArray, List.set_cons_zero, List.set_cons_succ, List.getElem_toArray, List.getElem_cons_zero, List.getElem_cons_succ]
      refine wpAnyH_take (i := 4) (v := .agg (wds 4 c).toArray) rfl (by kernel_rfl) (by kernel_rfl) (by kernel_rfl) (fun _ _ _ h => h) (yieldsIf_load_mid (by rfl) 37 (.tmp 16) rfl (w.heap.size + 1) (k * 4) rfl (wds 4 c) _ (fun v hv => HSb.out v hv.1) Tryz.underlying37 rfl (sizeE _)) (by with_reducible assumption) ?_
      simp only [Act.put, List.setIfInBounds_toArray, List.set_cons_zero, List.set_cons_succ, List.getElem_toArray, List.getElem_cons_zero, List.getElem_cons_succ]
      refine wpAnyH_ready (rs := [5]) (by kernel_rfl) (by simp) ?_
      refine (AllReadyH.cons rfl (fun K hK => ?_) AllReadyH.nil)
      go_simp
      go_at_call 21
      with_reducible refine (eaddZ_c _ _ _ _ w1.drew HA.out HC.out (HG.out.up (r0).b)).mono ?_
      rintro e ws1 ⟨r3, rfl, he3, hbs1⟩
      have r_s1 := (r0).up hbs1
      have n_s1 := (n0).up hbs1
      obtain ⟨gr, rfl⟩ := he3.fn
      try dsimp only
      refine hK.out _ _ (⟨(r_s1).x, n_s1⟩) (fun hHeld => ?_)
      clear hK K
      try simp only [Act.put, List.setIfInBounds_toArray, List.set_cons_zero, List.set_cons_succ, List.getElem_toArray, List.getElem_cons_zero, List.getElem_cons_succ]
      refine wpAnyH_take (i := 6) (v := ?_) rfl (by kernel_rfl) (by kernel_rfl) (by kernel_rfl) (fun _ _ _ h => h) (Or.inl ⟨by rfl, fun v hv => ?_⟩) (by with_reducible assumption) ?_
      rotate_left
      · go_simp
        try with_reducible rfl
      simp only [Act.put, List.setIfInBounds_toArray, List.set_cons_zero, List.set_cons_succ, List.getElem_toArray, List.getElem_cons_zero, List.getElem_cons_succ]
      refine wpAnyH_ready (rs := [7]) (by kernel_rfl) (by simp) ?_
      refine (AllReadyH.cons rfl (fun K hK => ?_) AllReadyH.nil)
      refine ready_go (by rfl) ?_
      refine wp_store_mid 37 (.tmp 19) (.tmp 18) rfl (w.heap.size + 1 + 1 + 1) (k * 4) (wds 4 gr).toArray rfl rfl ((r_s1).there (k * 4) 4 gr (by omega)) (sizeEA _) (wds_all _ _) ?_
      have HST := hid (FRel.set (P' := VP (fun i => X i + Y i) (k + 1)) (r_s1) (k * 4) 4 gr (by omega) (by omega) (by omega) (by omega) (fun s hs => VP.put hs he3))
      have ne := BlkV.put (show bt ≠ w.heap.size + 1 + 1 + 1 by omega) (wds 4 gr) (k * 4) _ (n_s1)
      refine hK.out _ _ (⟨(HST.out).x, ne⟩) (fun hHeld => ?_)
      clear hK K
      try simp only [Act.put, List.setIfInBounds_toArray, List.set_cons_zero, List.set_cons_succ, List.getElem_toArray, List.getElem_cons_zero, List.getElem_cons_succ]
      refine wpAnyH_done (by kernel_rfl) ?_ _
      go_wp2_with fail
      go_roundw
      case rel => exact ⟨k + 1, by omega, by go_num, HST.out⟩
      case measure => simp [intOf]; omega
    · obtain rfl : k = 3 := by omega
      obtain ⟨⟨r, h1, h2⟩, h3, h4, h5⟩ := hrel
      have HO := hid h1.range
      have HV : Hid (VecZ r (fun i => X i + Y i)) := ⟨fun i hi => h2 i hi⟩
      have HT := hid (h3.thereW 0 12 r (by decide))
      have HR := hid (h3.lay0 r).range
      have HB := hid (below_cells (show w.heap.size ≤ w.heap.size + 1 + 1 by omega) (wds 12 r) 0 _ h5)
      clear h1 h2 h3 h4 h5
      go_wp2_with (first
    | with_reducible refine wpList_load_mid rfl 39 (.tmp 5) rfl (w.heap.size + 1 + 1 + 1) (0) rfl (wds 12 r) _ (by with_reducible exact HO.out) Tryz.underlying39 rfl (sizeV _) ?_
    | with_reducible refine wpList_store_mid rfl 39 (.tmp 4) (.tmp 21) rfl (w.heap.size + 1 + 1) (0) (wds 12 r).toArray rfl rfl (by with_reducible exact HT.out) (sizeVA _) (wds_all _ _) ?_
    | fail)
      refine bodyPost_ret (results_cell1 Tryz.results35 ⟨w.heap.size + 1 + 1, 0, none⟩ _ rfl (run_loadVar_mid _ (w.heap.size + 1 + 1) 0 39 (wds 12 r) _ HR.out Tryz.underlying39 rfl (sizeV _))) rfl ?_
      exact ⟨_, rfl, HV.out, HB.out⟩
set_option maxRecDepth 20000 in
set_option maxHeartbeats 1000000 in
theorem powers_c (f : Nat → Int) (X : Nat → Int) (w : World) (hX : VecZ f X) (hG : Glob w) :
    Calls Tryz.prog 37 #[.agg (wds 12 f).toArray] w fun e w' => ∃ r, e = .returned (.agg (wds 12 r).toArray) ∧ VecZ r (fun i => pw5 (X i)) ∧ Below w.heap.size w w' := by
  have hz := zeroV
  have hlz := wds_len 12 z0
  have hze := zeroE
  have hle := wds_len 4 z0
  have hlf := wds_len 12 f
  have e1 : (w.alloc (oF 39 12 f)).heap.size = w.heap.size + 1 := by simp
  have e2 : ((w.alloc (oF 39 12 f)).alloc (oF 39 12 z0)).heap.size = w.heap.size + 1 + 1 := by simp
  have h0 := ((oF_new w 39 12 f).alloc (oF 39 12 z0)).alloc (oF 39 12 z0)
  have h1 := (oF_new (w.alloc (oF 39 12 f)) 39 12 z0).alloc (oF 39 12 z0)
  rw [e1] at h1
  have h2 := oF_new ((w.alloc (oF 39 12 f)).alloc (oF 39 12 z0)) 39 12 z0
  rw [e2] at h2
  have hb := (((Below.refl w.heap.size w).alloc (Nat.le_refl _) (oF 39 12 f)).alloc (by omega) (oF 39 12 z0)).alloc (by omega) (oF 39 12 z0)
  clear e1 e2
  have HO := hid h0.range
  have R0 := hid (show FRel w (w.heap.size + 1 + 1) 39 12 (VP (fun i => pw5 (X i)) 0) (w.heap.size + 1) 39 12 (w.heap.size) 39 (wds 12 f) _ from ⟨⟨z0, h2, VP.zero _ _⟩, h1, h0, hb⟩)
  have HX := hid hX
  have HG := hid hG
  clear h0 h1 h2 hX hG hb
  unfold oF at HO R0
  go_enter Tryz.func37, Tryz.ntmps37
  go_wp2_with (first
    | with_reducible refine wpList_load_mid rfl 39 (.tmp 1) rfl (w.heap.size) (0) rfl (wds 12 f) _ (by with_reducible exact HO.out) Tryz.underlying39 rfl (sizeV _) ?_
    | fail)
  clear HO
  generalize (((w.alloc _).alloc _).alloc _) = w0 at *
  go_loopw [7] (fun i wr => ∃ k : Nat, k ≤ 3 ∧ i = .int .i64 k ∧ FRel w (w.heap.size + 1 + 1) 39 12 (VP (fun i => pw5 (X i)) k) (w.heap.size + 1) 39 12 (w.heap.size) 39 (wds 12 f) wr) (fun i _ => 3 - (intOf i).toNat)
  case atStart => exact ⟨0, by omega, rfl, R0.out⟩
  case round =>
    clear R0
    obtain ⟨k, hk, rfl, hrel⟩ := hrel
    by_cases hlt : k < 3
    · have i0 : (0 : Int) ≤ (k : Int) := by omega
      have i2 : (k : Int) < 3 := by omega
      have hix := index_v wr f hlt
      obtain ⟨a, ha⟩ : ∃ a : Nat → Int, a = fun m => f (k * 4 + m) := ⟨_, rfl⟩
      rw [← ha] at hix
      have HA : Hid (Ez (.agg (wds 4 a).toArray) (X k)) := by rw [ha]; exact HX.out.el hlt
      clear ha
      obtain ⟨n1, n2, n3⟩ := newRow wr 37 4 a
      have hr1 := hrel.up n3
      have hla := wds_len 4 a
      have N1 := hid n1
      have HN2 := hid n2
      have HR1 := hid hr1
      have LT : Hid (w.heap.size + 1 + 1 < wr.heap.size) := by obtain ⟨_, h, _⟩ := hrel.o; exact h.size
      have HO2 := hid n2.range
      clear n1 n2 n3 hrel hr1
      unfold oF at N1 HN2 HR1 HO2
      go_wp2_with (first
    | with_reducible refine wpList_store_mid rfl 37 (.tmp 5) (.tmp 10) rfl (wr.heap.size) (0) (wds 4 a).toArray rfl rfl (by with_reducible exact N1.out) (sizeEA _) (wds_all _ _) ?_
    | with_reducible refine wpList_load_mid rfl 37 (.tmp 5) rfl (wr.heap.size) (0) rfl (wds 4 a) _ (by with_reducible exact HO2.out) Tryz.underlying37 rfl (sizeE _) ?_
    | fail)
      clear HO2
      obtain ⟨w1, hw1⟩ : ∃ v, v = (wr.alloc (.cells (wds 4 z0).toArray 37)).setCells wr.heap.size 0 (wds 4 a) := ⟨_, rfl⟩
      rw [← hw1] at HN2 HR1 ⊢
      obtain ⟨bt, hbt⟩ : ∃ b, b = wr.heap.size := ⟨_, rfl⟩
      rw [← hbt] at HN2 LT ⊢
      have hlt2 : w.heap.size + 1 + 1 < bt := LT.out
      clear hw1 hbt N1
      refine (power_c _ _ w1 HA.out (HG.out.up HR1.out.b)).mono ?_
      rintro e w2 ⟨r3, rfl, he3, hb3⟩
      obtain ⟨gr, rfl⟩ := he3.fn
      have r2 := FRel.up HR1.out hb3
      have HT := hid (r2.there (k * 4) 4 gr (by omega))
      have HST := hid (FRel.set (P' := VP (fun i => pw5 (X i)) (k + 1)) r2 (k * 4) 4 gr (by omega) (by omega) (by omega) (by omega) (fun s hs => VP.put hs he3))
      clear r2 hb3 HR1 HN2
      go_wp2_with (first
    | with_reducible refine wpList_store_mid rfl 37 (.tmp 14) (.tmp 13) rfl (w.heap.size + 1 + 1) (k * 4) (wds 4 gr).toArray rfl rfl (by with_reducible exact HT.out) (sizeEA _) (wds_all _ _) ?_
    | fail)
      go_roundw
      case rel => exact ⟨k + 1, by omega, by go_num, HST.out⟩
      case measure => simp [intOf]; omega
    · obtain rfl : k = 3 := by omega
      obtain ⟨⟨r, h1, h2⟩, h3, h4, h5⟩ := hrel
      have HO := hid h1.range
      have HV : Hid (VecZ r (fun i => pw5 (X i))) := ⟨fun i hi => h2 i hi⟩
      have HT := hid (h3.thereW 0 12 r (by decide))
      have HR := hid (h3.lay0 r).range
      have HB := hid (below_cells (show w.heap.size ≤ w.heap.size + 1 by omega) (wds 12 r) 0 _ h5)
      clear h1 h2 h3 h4 h5
      go_wp2_with (first
    | with_reducible refine wpList_load_mid rfl 39 (.tmp 3) rfl (w.heap.size + 1 + 1) (0) rfl (wds 12 r) _ (by with_reducible exact HO.out) Tryz.underlying39 rfl (sizeV _) ?_
    | with_reducible refine wpList_store_mid rfl 39 (.tmp 2) (.tmp 16) rfl (w.heap.size + 1) (0) (wds 12 r).toArray rfl rfl (by with_reducible exact HT.out) (sizeVA _) (wds_all _ _) ?_
    | fail)
      refine bodyPost_ret (results_cell1 Tryz.results37 ⟨w.heap.size + 1, 0, none⟩ _ rfl (run_loadVar_mid _ (w.heap.size + 1) 0 39 (wds 12 r) _ HR.out Tryz.underlying39 rfl (sizeV _))) rfl ?_
      exact ⟨_, rfl, HV.out, HB.out⟩
end Go.Proofs.YtdepkfdceidikaaGreatDoor
/-
  poseidon: New, Constants, Round, Permute: what each call does.
-/
namespace Go.Proofs.YtdepkfdceidikaaGreatDoor
open Go.RowKit
set_option linter.unusedVariables false
set_option linter.unusedSimpArgs false


theorem pnew_c (w : World) : Calls Tryz.prog 9 #[] w fun e w' => ∃ p, e = .returned (.pointer (some ⟨p, 0, none⟩)) ∧ w.heap.size ≤ p ∧ PI w' p ∧ Below w.heap.size w w' := by
  have hz := zeroP
  have hlz := pcl_len 0 0 z0
  have HB := hid (PI.new w)
  have HW := hid ((Below.refl w.heap.size w).alloc (Nat.le_refl _) (.cells (pcl 0 0 z0).toArray 75))
  go_enter Tryz.func9, Tryz.ntmps9
  go_wp2
  go_ret
  exact ⟨_, rfl, Nat.le_refl _, HB.out, HW.out⟩
theorem pcI_out {r : Int} (h : ¬ (0 ≤ r ∧ r < 65)) (i : Nat) : pcI r i = 0 := by
  unfold pcI
  rw [if_neg h]
theorem VecZ.zeros : VecZ z0 (fun _ => 0) := ⟨fun i _ => Ef.zero _⟩
theorem Only.loF {b : Nat} {w w' : World} (h : Only b w w') (hG : Glob w) (hlo : 0 < b ∧ 1 < b) : Glob w' := h.globF hG hlo
set_option maxRecDepth 20000 in
set_option maxHeartbeats 1000000 in
theorem constants_c (b : Nat) (r : Int) (w : World) (hB : PI w b) (hG : Glob w) (hlo : 0 < b ∧ 1 < b) :
    Calls Tryz.prog 17 #[.pointer (some ⟨b, 0, none⟩), .int .i64 r] w fun e w' => ∃ c, e = .returned (.agg (wds 12 c).toArray) ∧ VecZ c (pcI r) ∧ PI w' b ∧ Only b w w' ∧ Kp b w w' := by
  have hz := zeroV
  have hlz := wds_len 12 z0
  have hmf : ∀ (fn : Fn) (first cap : Array Value) (w : World), (Instr.makeFunc fn first cap).run Tryz.prog w = .ok (.func fn first cap) w := fun _ _ _ _ => rfl
  have h0 := oF_new w 39 12 z0
  have hb := (Below.refl w.heap.size w).alloc (Nat.le_refl _) (oF 39 12 z0)
  have hbs := hB.size
  have HP := hid (hB.up ((Below.refl w.heap.size w).alloc (Nat.le_refl _) (oF 39 12 z0)))
  have HG := hid (hG.up ((Below.refl w.heap.size w).alloc (Nat.le_refl _) (oF 39 12 z0)))
  by_cases hin : 0 ≤ r ∧ r < 65
  · obtain ⟨k, rfl⟩ := Int.eq_ofNat_of_zero_le hin.1
    have hk : k < 65 := by omega
    have i0 : ¬ (k : Int) < 0 := by omega
    have d0 : decide ((k : Int) < 0) = false := decide_eq_false i0
    have i1 : ¬ 65 ≤ (k : Int) := by omega
    have d1 : decide (65 ≤ (k : Int)) = false := decide_eq_false i1
    have i2 : (0 : Int) ≤ (k : Int) := by omega
    have i3 : (k : Int) < 65 := by omega
    rw [pcI_nat hk]
    clear hin
    go_enter Tryz.func17, Tryz.ntmps17
    unfold oF at *
    go_wp2_with fail
    generalize (w.alloc _) = w0 at *
    refine (once_do b w0 HP.out HG.out hlo).mono ?_
    rintro e w1 ⟨rfl, g, hg1, hg2, hg3, ho, hk'⟩
    have h1 := ho.blk h0 (by omega)
    have HV := hid (hg2.at_ hk)
    have HLD : Hid (w1.rangeAt b (3 + k * 12) (wds 12 fun j => g (k * 12 + j))) := hid (PB.sub hg1 (k * 12) 12 (by omega))
    obtain ⟨c, hc⟩ : ∃ c : Nat → Int, c = fun j => g (k * 12 + j) := ⟨_, rfl⟩
    rw [← hc] at HV HLD
    have HT := hid (h1.thereW 0 12 c (by decide))
    have HR := hid (h1.lay0 c).range
    have HPI : Hid (PI (w1.setCells w.heap.size 0 (wds 12 c)) b) := hid ⟨1, g, BlkV.put (by omega) _ _ _ hg1, Or.inr ⟨rfl, hg2, hg3⟩⟩
    have HO : Hid (Only b w (w1.setCells w.heap.size 0 (wds 12 c))) := hid (((Only.of hb).trans ho).setsUp (Nat.le_refl _) _ _)
    have HK : Hid (Kp b w (w1.setCells w.heap.size 0 (wds 12 c))) := hid (((Kp.of hb).trans hk').put (by omega) _ _)
    clear hg1 hg2 hg3 ho h0 hb HP HG hk'
    have hlc := wds_len 12 c
    clear hc h1
    go_wp2_with (first
    | with_reducible refine wpList_load_mid rfl 39 (.tmp 22) rfl (b) (3 + k * 12) rfl (wds 12 c) _ (by with_reducible exact HLD.out) Tryz.underlying39 rfl (sizeV _) ?_
    | with_reducible refine wpList_store_mid rfl 39 (.tmp 4) (.tmp 23) rfl (w.heap.size) (0) (wds 12 c).toArray rfl rfl (by with_reducible exact HT.out) (sizeVA _) (wds_all _ _) ?_
    | fail)
    refine bodyPost_ret (results_cell1 Tryz.results17 ⟨w.heap.size, 0, none⟩ _ rfl (run_loadVar_mid _ (w.heap.size) 0 39 (wds 12 c) _ HR.out Tryz.underlying39 rfl (sizeV _))) rfl ?_
    exact ⟨_, rfl, HV.out, HPI.out, HO.out, HK.out⟩
  · have HV : Hid (VecZ z0 (pcI r)) := VecZ.zeros.eq fun i _ => (pcI_out hin i).symm
    have HT := hid (h0.thereW 0 12 z0 (by decide))
    have HR := hid (h0.lay0 z0).range
    have HO := hid (((Only.of (b := b) hb)).setsUp (Nat.le_refl _) (wds 12 z0) 0)
    have HPI : Hid (PI ((w.alloc (oF 39 12 z0)).setCells w.heap.size 0 (wds 12 z0)) b) := by
      obtain ⟨d, g, q1, q2⟩ := HP.out
      exact ⟨d, g, BlkV.put (by omega) _ _ _ q1, q2⟩
    have HK := hid (Kp.of (b := b) (below_cells (Nat.le_refl _) (wds 12 z0) 0 _ hb))
    clear h0 hb
    unfold oF at HT HR HO HPI HK
    by_cases hn : r < 0
    · go_enter Tryz.func17, Tryz.ntmps17
      go_wp2_with (first
    | with_reducible refine wpList_store_mid rfl 39 (.tmp 4) (.tmp 11) rfl (w.heap.size) (0) (wds 12 z0).toArray rfl rfl (by with_reducible exact HT.out) (sizeVA _) (wds_all _ _) ?_
    | fail)
      refine bodyPost_ret (results_cell1 Tryz.results17 ⟨w.heap.size, 0, none⟩ _ rfl (run_loadVar_mid _ (w.heap.size) 0 39 (wds 12 z0) _ HR.out Tryz.underlying39 rfl (sizeV _))) rfl ?_
      exact ⟨_, rfl, HV.out, HPI.out, HO.out, HK.out⟩
    · have d0 : decide (r < 0) = false := decide_eq_false hn
      have i1 : 65 ≤ r := by omega
      go_enter Tryz.func17, Tryz.ntmps17
      go_wp2_with (first
    | with_reducible refine wpList_store_mid rfl 39 (.tmp 4) (.tmp 11) rfl (w.heap.size) (0) (wds 12 z0).toArray rfl rfl (by with_reducible exact HT.out) (sizeVA _) (wds_all _ _) ?_
    | fail)
      refine bodyPost_ret (results_cell1 Tryz.results17 ⟨w.heap.size, 0, none⟩ _ rfl (run_loadVar_mid _ (w.heap.size) 0 39 (wds 12 z0) _ HR.out Tryz.underlying39 rfl (sizeV _))) rfl ?_
      exact ⟨_, rfl, HV.out, HPI.out, HO.out, HK.out⟩
set_option maxRecDepth 20000 in
set_option maxHeartbeats 1000000 in
theorem constantsD_c (b : Nat) (r : Int) (g : Nat → Int) (w : World) (hg1 : PB w b 1 0 g) (hg2 : CP 195 g) :
    Calls Tryz.prog 17 #[.pointer (some ⟨b, 0, none⟩), .int .i64 r] w fun e w' => ∃ c, e = .returned (.agg (wds 12 c).toArray) ∧ VecZ c (pcI r) ∧ Below w.heap.size w w' := by
  have hz := zeroV
  have hlz := wds_len 12 z0
  have hmf : ∀ (fn : Fn) (first cap : Array Value) (w : World), (Instr.makeFunc fn first cap).run Tryz.prog w = .ok (.func fn first cap) w := fun _ _ _ _ => rfl
  have h0 := oF_new w 39 12 z0
  have hb := (Below.refl w.heap.size w).alloc (Nat.le_refl _) (oF 39 12 z0)
  have hbs := BlkV.size hg1
  have hg1 : PB (w.alloc (oF 39 12 z0)) b 1 0 g := BlkV.alloc hg1 _
  by_cases hin : 0 ≤ r ∧ r < 65
  · obtain ⟨k, rfl⟩ := Int.eq_ofNat_of_zero_le hin.1
    have hk : k < 65 := by omega
    have i0 : ¬ (k : Int) < 0 := by omega
    have d0 : decide ((k : Int) < 0) = false := decide_eq_false i0
    have i1 : ¬ 65 ≤ (k : Int) := by omega
    have d1 : decide (65 ≤ (k : Int)) = false := decide_eq_false i1
    have i2 : (0 : Int) ≤ (k : Int) := by omega
    have i3 : (k : Int) < 65 := by omega
    rw [pcI_nat hk]
    clear hin
    go_enter Tryz.func17, Tryz.ntmps17
    unfold oF at *
    go_wp2_with fail
    generalize (w.alloc _) = w0 at *
    refine (once_again b g _ w0 hg1).mono ?_
    rintro e w1 ⟨rfl, rfl⟩
    have h1 := h0
    generalize hwq : w1 = w1 at *
    have HV := hid (hg2.at_ hk)
    have HLD : Hid (w1.rangeAt b (3 + k * 12) (wds 12 fun j => g (k * 12 + j))) := hid (PB.sub hg1 (k * 12) 12 (by omega))
    obtain ⟨c, hc⟩ : ∃ c : Nat → Int, c = fun j => g (k * 12 + j) := ⟨_, rfl⟩
    rw [← hc] at HV HLD
    have HT := hid (h1.thereW 0 12 c (by decide))
    have HR := hid (h1.lay0 c).range
    have HO : Hid (Below w.heap.size w (w1.setCells w.heap.size 0 (wds 12 c))) := hid (below_cells (Nat.le_refl _) _ _ _ hb)
    clear hg1 hg2 h0 hb hwq
    have hlc := wds_len 12 c
    clear hc h1
    go_wp2_with (first
    | with_reducible refine wpList_load_mid rfl 39 (.tmp 22) rfl (b) (3 + k * 12) rfl (wds 12 c) _ (by with_reducible exact HLD.out) Tryz.underlying39 rfl (sizeV _) ?_
    | with_reducible refine wpList_store_mid rfl 39 (.tmp 4) (.tmp 23) rfl (w.heap.size) (0) (wds 12 c).toArray rfl rfl (by with_reducible exact HT.out) (sizeVA _) (wds_all _ _) ?_
    | fail)
    refine bodyPost_ret (results_cell1 Tryz.results17 ⟨w.heap.size, 0, none⟩ _ rfl (run_loadVar_mid _ (w.heap.size) 0 39 (wds 12 c) _ HR.out Tryz.underlying39 rfl (sizeV _))) rfl ?_
    exact ⟨_, rfl, HV.out, HO.out⟩
  · have HV : Hid (VecZ z0 (pcI r)) := VecZ.zeros.eq fun i _ => (pcI_out hin i).symm
    have HT := hid (h0.thereW 0 12 z0 (by decide))
    have HR := hid (h0.lay0 z0).range
    have HO := hid (below_cells (Nat.le_refl _) (wds 12 z0) 0 _ hb)
    clear hg1
    clear h0 hb
    unfold oF at HT HR HO
    by_cases hn : r < 0
    · go_enter Tryz.func17, Tryz.ntmps17
      go_wp2_with (first
    | with_reducible refine wpList_store_mid rfl 39 (.tmp 4) (.tmp 11) rfl (w.heap.size) (0) (wds 12 z0).toArray rfl rfl (by with_reducible exact HT.out) (sizeVA _) (wds_all _ _) ?_
    | fail)
      refine bodyPost_ret (results_cell1 Tryz.results17 ⟨w.heap.size, 0, none⟩ _ rfl (run_loadVar_mid _ (w.heap.size) 0 39 (wds 12 z0) _ HR.out Tryz.underlying39 rfl (sizeV _))) rfl ?_
      exact ⟨_, rfl, HV.out, HO.out⟩
    · have d0 : decide (r < 0) = false := decide_eq_false hn
      have i1 : 65 ≤ r := by omega
      go_enter Tryz.func17, Tryz.ntmps17
      go_wp2_with (first
    | with_reducible refine wpList_store_mid rfl 39 (.tmp 4) (.tmp 11) rfl (w.heap.size) (0) (wds 12 z0).toArray rfl rfl (by with_reducible exact HT.out) (sizeVA _) (wds_all _ _) ?_
    | fail)
      refine bodyPost_ret (results_cell1 Tryz.results17 ⟨w.heap.size, 0, none⟩ _ rfl (run_loadVar_mid _ (w.heap.size) 0 39 (wds 12 z0) _ HR.out Tryz.underlying39 rfl (sizeV _))) rfl ?_
      exact ⟨_, rfl, HV.out, HO.out⟩
end Go.Proofs.YtdepkfdceidikaaGreatDoor
