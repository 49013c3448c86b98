import Derived.Test.YtdepkfdceidikaaDoorMxE
/-
  matrix.Matrix.Determinant: what the call does.
-/
namespace Go.Proofs.YtdepkfdceidikaaDoor
open Go.RowKit
set_option linter.unusedVariables false
set_option linter.unusedSimpArgs false


/-- The three products of the first row. -/
def mzP (M : MZ) (j : Nat) : Int := M 0 j * mzWo M 0 j
theorem mzDet_P (M : MZ) : mzP M 0 - mzP M 1 + mzP M 2 = mzDet M := rfl
theorem without0_c (f : Nat → Int) (M : MZ) (j : Nat) (hj : j < 3) (w : World) (hM : MatZ f M) (hG : Glob w) :
    Calls Tryd.prog 37 #[.agg (wds 36 f).toArray, .int .i64 0, .int .i64 (j : Int)] w fun e w' => ∃ r, e = .returned r ∧ Ez r (mzWo M 0 j) ∧ Below w.heap.size w w' :=
  without_c f M 0 j (by decide) hj w hM hG
set_option maxRecDepth 20000 in
set_option maxHeartbeats 1000000 in
theorem det_c (f : Nat → Int) (M : MZ) (w : World) (hM : MatZ f M) (hG : Glob w) :
    Calls Tryd.prog 16 #[.agg (wds 36 f).toArray] w fun e w' => ∃ r, e = .returned r ∧ Ez r (mzDet M) ∧ Below w.heap.size w w' := by
  have hz := zeroE
  have hzv := zeroV
  have hlz := wds_len 4 z0
  have hlv := wds_len 12 z0
  have hlm := wds_len 36 f
  have e1 : (w.alloc (oF 40 36 f)).heap.size = w.heap.size + 1 := by simp
  have e2 : ((w.alloc (oF 40 36 f)).alloc (oF 27 4 z0)).heap.size = w.heap.size + 1 + 1 := by simp
  have h1 := ((oF_new w 40 36 f).alloc (oF 27 4 z0)).alloc (oF 38 12 z0)
  have h2 := (oF_new (w.alloc (oF 40 36 f)) 27 4 z0).alloc (oF 38 12 z0)
  have h3 := oF_new ((w.alloc (oF 40 36 f)).alloc (oF 27 4 z0)) 38 12 z0
  rw [e1] at h2
  rw [e2] at h3
  have hb := (((Below.refl w.heap.size w).alloc (Nat.le_refl _) (oF 40 36 f)).alloc (by omega) (oF 27 4 z0)).alloc (by omega) (oF 38 12 z0)
  have HO := hid (h1.sub 0 12 (by decide))
  have R0 := hid (show FRel w (w.heap.size + 1 + 1) 38 12 (VP (mzP M) 0) (w.heap.size + 1) 27 4 w.heap.size 40 (wds 36 f) _ from ⟨⟨z0, h3, VP.zero _ _⟩, h2, h1, hb⟩)
  have HV : Hid (VecZ (fun k => f (0 + k)) (M 0)) := ⟨fun j hj => (hM.at_ 0 j (by decide) hj).shift.eq rfl rfl⟩
  obtain ⟨a, ha⟩ : ∃ a : Nat → Int, a = fun k => f (0 + k) := ⟨_, rfl⟩
  rw [← ha] at HO HV
  have HM := hid hM
  have HG := hid hG
  clear h1 h2 h3 hM hG e1 e2 hb ha
  unfold oF at HO R0
  go_enter Tryd.func16, Tryd.ntmps16
  go_wp2_with (first
    | with_reducible refine wpList_load_mid rfl 38 (.tmp 6) rfl (w.heap.size) (0) rfl (wds 12 a) _ (by with_reducible exact HO.out) Tryd.underlying38 rfl (sizeV _) ?_)
  clear HO
  generalize (((w.alloc _).alloc _).alloc _) = w0 at *
  go_loopw [8] (fun i wr => ∃ k : Nat, k ≤ 3 ∧ i = .int .i64 k ∧ FRel w (w.heap.size + 1 + 1) 38 12 (VP (mzP M) k) (w.heap.size + 1) 27 4 w.heap.size 40 (wds 36 f) wr) (fun i _ => 3 - (intOf i).toNat)
  case atStart => exact ⟨0, by omega, rfl, R0.out⟩
  case round =>
    clear R0
    obtain ⟨k, hk, rfl, hrel⟩ := hrel
    by_cases hlt : k < 3
    · have i0 : (0 : Int) ≤ (k : Int) := by omega
      have i2 : (k : Int) < 3 := by omega
      have hix := index_v wr a hlt
      obtain ⟨c, hc⟩ : ∃ c : Nat → Int, c = fun m => a (k * 4 + m) := ⟨_, rfl⟩
      rw [← hc] at hix
      have HA : Hid (Ez (.agg (wds 4 c).toArray) (M 0 k)) := by rw [hc]; exact HV.out.el hlt
      obtain ⟨n1, n2, n3⟩ := newRow wr 27 4 c
      have hr1 := hrel.up n3
      have hlt1 := hrel.b.size
      have N1 := hid n1
      have hla := wds_len 4 c
      have HN2 := hid n2
      have HR1 := hid hr1
      have LT : Hid (w.heap.size + 1 + 1 < wr.heap.size) := by obtain ⟨_, h, _⟩ := hrel.o; exact h.size
      clear n1 n2 n3 hrel hr1 hc
      unfold oF at N1 HN2 HR1
      go_wp2_with (first
    | with_reducible refine wpList_store_mid rfl 27 (.tmp 5) (.tmp 11) rfl (wr.heap.size) (0) (wds 4 c).toArray rfl rfl (by with_reducible exact N1.out) (sizeEA _) (wds_all _ _) ?_)
      obtain ⟨w1, hw1⟩ : ∃ v, v = (wr.alloc (.cells (wds 4 z0).toArray 27)).setCells wr.heap.size 0 (wds 4 c) := ⟨_, rfl⟩
      rw [← hw1] at HN2 HR1 ⊢
      obtain ⟨bt, hbt⟩ : ∃ b, b = wr.heap.size := ⟨_, rfl⟩
      rw [← hbt] at HN2 LT ⊢
      have hlt2 : w.heap.size + 1 + 1 < bt := LT.out
      clear hw1 hbt N1
      have hr0 := FRel.up HR1.out (Below.refl _ _).drew
      have hn0 := HN2.out.up (Below.refl _ _).drew
      refine wp_region_held_drew (S := fun v => BlkV v w.heap.size 40 (wds 36 f) ∧ BlkV v bt 27 (wds 4 c)) (by kernel_rfl) ⟨(hr0).x, hn0⟩ (fun hHeld => ?_)
      refine wpAnyH_take (i := 0) (v := ?_) rfl (by kernel_rfl) (by kernel_rfl) (by kernel_rfl) (fun _ _ _ h => h) (Or.inl ⟨by rfl, fun v hv => ?_⟩) (by with_reducible assumption) ?_
      rotate_left
      · go_simp
        try with_reducible rfl
      simp only [Act.put, List.setIfInBounds_toArray, List.set_cons_zero, List.set_cons_succ, List.getElem_toArray, List.getElem_cons_zero, List.getElem_cons_succ]
      refine wpAnyH_take (i := 1) (v := .agg (wds 4 c).toArray) rfl (by kernel_rfl) (by kernel_rfl) (by kernel_rfl) (fun _ _ _ h => h) (yieldsIf_load_mid (by rfl) 27 (.tmp 5) rfl (bt) (0) rfl (wds 4 c) _ (fun v hv => hv.2.range) Tryd.underlying27 rfl (sizeE _)) (by with_reducible assumption) ?_
      simp only [Act.put, List.setIfInBounds_toArray, List.set_cons_zero, List.set_cons_succ, List.getElem_toArray, List.getElem_cons_zero, List.getElem_cons_succ]
      refine wpAnyH_take (i := 2) (v := .agg (wds 36 f).toArray) rfl (by kernel_rfl) (by kernel_rfl) (by kernel_rfl) (fun _ _ _ h => h) (yieldsIf_load_mid (by rfl) 40 (.tmp 1) rfl (w.heap.size) (0) rfl (wds 36 f) _ (fun v hv => hv.1.range) Tryd.underlying40 rfl (sizeM _)) (by with_reducible assumption) ?_
      simp only [Act.put, List.setIfInBounds_toArray, List.set_cons_zero, List.set_cons_succ, List.getElem_toArray, List.getElem_cons_zero, List.getElem_cons_succ]
      refine wpAnyH_take (i := 3) (v := ?_) rfl (by kernel_rfl) (by kernel_rfl) (by kernel_rfl) (fun _ _ _ h => h) (Or.inl ⟨by rfl, fun v hv => ?_⟩) (by with_reducible assumption) ?_
      rotate_left
      · go_simp
        try with_reducible rfl
      simp only [Act.put, List.setIfInBounds_toArray, List.set_cons_zero, List.set_cons_succ, List.getElem_toArray, List.getElem_cons_zero, List.getElem_cons_succ]
      refine wpAnyH_ready (rs := [4]) (by kernel_rfl) (by simp) ?_
      refine (AllReadyH.cons rfl (fun K hK => ?_) AllReadyH.nil)
      go_simp
      go_at_call 37
      with_reducible refine (without0_c f M k hlt w1.drew HM.out (HG.out.up (hr0).b)).mono ?_
      rintro e wq1 ⟨_, rfl, he1, hbq1⟩
      have hr_q1 := (hr0).up hbq1
      have hn_q1 := (hn0).up hbq1
      try dsimp only
      refine hK.out _ _ (⟨(hr_q1).x, hn_q1⟩) (fun hHeld => ?_)
      clear hK K
      try simp only [Act.put, List.setIfInBounds_toArray, List.set_cons_zero, List.set_cons_succ, List.getElem_toArray, List.getElem_cons_zero, List.getElem_cons_succ]
      refine wpAnyH_ready (rs := [5]) (by kernel_rfl) (by simp) ?_
      refine (AllReadyH.cons rfl (fun K hK => ?_) AllReadyH.nil)
      go_simp
      go_at_call 17
      with_reducible refine (emulZ_c _ _ _ _ wq1 HA.out he1 (HG.out.up (hr_q1).b)).mono ?_
      rintro e wq2 ⟨_, rfl, he2, hbq2⟩
      have hr_q2 := (hr_q1).up hbq2
      have hn_q2 := (hn_q1).up hbq2
      obtain ⟨gr, rfl⟩ := he2.fn
      try dsimp only
      refine hK.out _ _ (⟨(hr_q2).x, hn_q2⟩) (fun hHeld => ?_)
      clear hK K
      try simp only [Act.put, List.setIfInBounds_toArray, List.set_cons_zero, List.set_cons_succ, List.getElem_toArray, List.getElem_cons_zero, List.getElem_cons_succ]
      refine wpAnyH_take (i := 6) (v := ?_) rfl (by kernel_rfl) (by kernel_rfl) (by kernel_rfl) (fun _ _ _ h => h) (Or.inl ⟨by rfl, fun v hv => ?_⟩) (by with_reducible assumption) ?_
      rotate_left
      · go_simp
        try with_reducible rfl
      simp only [Act.put, List.setIfInBounds_toArray, List.set_cons_zero, List.set_cons_succ, List.getElem_toArray, List.getElem_cons_zero, List.getElem_cons_succ]
      refine wpAnyH_ready (rs := [7]) (by kernel_rfl) (by simp) ?_
      refine (AllReadyH.cons rfl (fun K hK => ?_) AllReadyH.nil)
      refine ready_go (by rfl) ?_
      refine wp_store_mid 27 (.tmp 18) (.tmp 17) rfl (w.heap.size + 1 + 1) (k * 4) (wds 4 gr).toArray rfl rfl ((hr_q2).there (k * 4) 4 gr (by omega)) (sizeEA _) (wds_all _ _) ?_
      have hstq3 := (hr_q2).set (P' := VP (mzP M) (k + 1)) (k * 4) 4 gr (by omega) (by omega) (by omega) (by omega) (fun _ hs => VP.put hs he2)
      have hnstq3 := BlkV.put (show bt ≠ w.heap.size + 1 + 1 by omega) (wds 4 gr) (k * 4) _ hn_q2
      refine hK.out _ _ (⟨(hstq3).x, hnstq3⟩) (fun hHeld => ?_)
      clear hK K
      try simp only [Act.put, List.setIfInBounds_toArray, List.set_cons_zero, List.set_cons_succ, List.getElem_toArray, List.getElem_cons_zero, List.getElem_cons_succ]
      refine wpAnyH_done (by kernel_rfl) ?_ _
      go_wp2_with fail
      go_roundw
      case rel => exact ⟨k + 1, by omega, by go_num, hstq3⟩
      case measure => simp [intOf]; omega
    · obtain rfl : k = 3 := by omega
      obtain ⟨⟨g, h1, h2⟩, h3, h4, h5⟩ := hrel
      have EA : Hid (Ez (.agg (wds 4 fun k => g (0 + k)).toArray) (mzP M 0)) := (h2 0 (by decide)).out
      have EB : Hid (Ez (.agg (wds 4 fun k => g (4 + k)).toArray) (mzP M 1)) := (h2 1 (by decide)).out
      have EC : Hid (Ez (.agg (wds 4 fun k => g (8 + k)).toArray) (mzP M 2)) := (h2 2 (by decide)).out
      have OA : Hid (∀ v, BlkV v (w.heap.size + 1 + 1) 38 (wds 12 g) → v.rangeAt (w.heap.size + 1 + 1) 0 (wds 4 fun k => g (0 + k))) := fun v hv => hv.sub 0 4 (by decide)
      have OB : Hid (∀ v, BlkV v (w.heap.size + 1 + 1) 38 (wds 12 g) → v.rangeAt (w.heap.size + 1 + 1) 4 (wds 4 fun k => g (4 + k))) := fun v hv => hv.sub 4 4 (by decide)
      have OC : Hid (∀ v, BlkV v (w.heap.size + 1 + 1) 38 (wds 12 g) → v.rangeAt (w.heap.size + 1 + 1) 8 (wds 4 fun k => g (8 + k))) := fun v hv => hv.sub 8 4 (by decide)
      obtain ⟨ga, hga⟩ : ∃ ga : Nat → Int, ga = fun k => g (0 + k) := ⟨_, rfl⟩
      obtain ⟨gb, hgb⟩ : ∃ ga : Nat → Int, ga = fun k => g (4 + k) := ⟨_, rfl⟩
      obtain ⟨gc, hgc⟩ : ∃ ga : Nat → Int, ga = fun k => g (8 + k) := ⟨_, rfl⟩
      rw [← hga] at EA OA
      rw [← hgb] at EB OB
      rw [← hgc] at EC OC
      clear hga hgb hgc
      have hd := mzDet_P M
      have H1 := hid h1
      have H3 := hid h3
      have H5 := hid h5
      have HD := hid hd
      clear h1 h2 h3 h4 h5 hd hk hlt
      go_wp2_with fail
      have hp0 := H1.out.up (Below.refl _ _).drew
      have hz0 := H3.out.up (Below.refl _ _).drew
      have b0 := bchain H5.out (Below.refl _ _).drew
      refine wp_region_held_drew (S := fun v => BlkV v (w.heap.size + 1 + 1) 38 (wds 12 g)) (by kernel_rfl) hp0 (fun hHeld => ?_)
      refine wpAnyH_take (i := 0) (v := ?_) rfl (by kernel_rfl) (by kernel_rfl) (by kernel_rfl) (fun _ _ _ h => h) (Or.inl ⟨by rfl, fun v hv => ?_⟩) (by with_reducible assumption) ?_
      rotate_left
      · go_simp
        try with_reducible rfl
      simp only [Act.put, List.setIfInBounds_toArray, List.set_cons_zero, List.set_cons_succ, List.getElem_toArray, List.getElem_cons_zero, List.getElem_cons_succ]
      refine wpAnyH_take (i := 1) (v := .agg (wds 4 ga).toArray) rfl (by kernel_rfl) (by kernel_rfl) (by kernel_rfl) (fun _ _ _ h => h) (yieldsIf_load_mid (by rfl) 27 (.tmp 20) rfl (w.heap.size + 1 + 1) (0) rfl (wds 4 ga) _ (fun v hv => OA.out v hv) Tryd.underlying27 rfl (sizeE _)) (by with_reducible assumption) ?_
      simp only [Act.put, List.setIfInBounds_toArray, List.set_cons_zero, List.set_cons_succ, List.getElem_toArray, List.getElem_cons_zero, List.getElem_cons_succ]
      refine wpAnyH_take (i := 2) (v := ?_) rfl (by kernel_rfl) (by kernel_rfl) (by kernel_rfl) (fun _ _ _ h => h) (Or.inl ⟨by rfl, fun v hv => ?_⟩) (by with_reducible assumption) ?_
      rotate_left
      · go_simp
        try with_reducible rfl
      simp only [Act.put, List.setIfInBounds_toArray, List.set_cons_zero, List.set_cons_succ, List.getElem_toArray, List.getElem_cons_zero, List.getElem_cons_succ]
      refine wpAnyH_take (i := 3) (v := .agg (wds 4 gb).toArray) rfl (by kernel_rfl) (by kernel_rfl) (by kernel_rfl) (fun _ _ _ h => h) (yieldsIf_load_mid (by rfl) 27 (.tmp 22) rfl (w.heap.size + 1 + 1) (4) rfl (wds 4 gb) _ (fun v hv => OB.out v hv) Tryd.underlying27 rfl (sizeE _)) (by with_reducible assumption) ?_
      simp only [Act.put, List.setIfInBounds_toArray, List.set_cons_zero, List.set_cons_succ, List.getElem_toArray, List.getElem_cons_zero, List.getElem_cons_succ]
      refine wpAnyH_take (i := 5) (v := ?_) rfl (by kernel_rfl) (by kernel_rfl) (by kernel_rfl) (fun _ _ _ h => h) (Or.inl ⟨by rfl, fun v hv => ?_⟩) (by with_reducible assumption) ?_
      rotate_left
      · go_simp
        try with_reducible rfl
      simp only [Act.put, List.setIfInBounds_toArray, List.set_cons_zero, List.set_cons_succ, List.getElem_toArray, List.getElem_cons_zero, List.getElem_cons_succ]
      refine wpAnyH_take (i := 6) (v := .agg (wds 4 gc).toArray) rfl (by kernel_rfl) (by kernel_rfl) (by kernel_rfl) (fun _ _ _ h => h) (yieldsIf_load_mid (by rfl) 27 (.tmp 25) rfl (w.heap.size + 1 + 1) (8) rfl (wds 4 gc) _ (fun v hv => OC.out v hv) Tryd.underlying27 rfl (sizeE _)) (by with_reducible assumption) ?_
      simp only [Act.put, List.setIfInBounds_toArray, List.set_cons_zero, List.set_cons_succ, List.getElem_toArray, List.getElem_cons_zero, List.getElem_cons_succ]
      refine wpAnyH_ready (rs := [4]) (by kernel_rfl) (by simp) ?_
      refine (AllReadyH.cons rfl (fun K hK => ?_) AllReadyH.nil)
      go_simp
      go_at_call 38
      with_reducible refine (esubZ_c _ _ _ _ wr.drew EA.out EB.out (HG.out.up b0)).mono ?_
      rintro e wr1 ⟨_, rfl, he1, hbr1⟩
      have hp_r1 := (hp0).up hbr1
      have hz_r1 := (hz0).up hbr1
      have b_r1 := bchain b0 hbr1
      try dsimp only
      refine hK.out _ _ (hp_r1) (fun hHeld => ?_)
      clear hK K
      try simp only [Act.put, List.setIfInBounds_toArray, List.set_cons_zero, List.set_cons_succ, List.getElem_toArray, List.getElem_cons_zero, List.getElem_cons_succ]
      refine wpAnyH_ready (rs := [7]) (by kernel_rfl) (by simp) ?_
      refine (AllReadyH.cons rfl (fun K hK => ?_) AllReadyH.nil)
      go_simp
      go_at_call 39
      with_reducible refine (eaddZ_c _ _ _ _ wr1 he1 EC.out (HG.out.up b_r1)).mono ?_
      rintro e wr2 ⟨_, rfl, he2, hbr2⟩
      have hp_r2 := (hp_r1).up hbr2
      have hz_r2 := (hz_r1).up hbr2
      have b_r2 := bchain b_r1 hbr2
      obtain ⟨gr, rfl⟩ := he2.fn
      try dsimp only
      refine hK.out _ _ (hp_r2) (fun hHeld => ?_)
      clear hK K
      try simp only [Act.put, List.setIfInBounds_toArray, List.set_cons_zero, List.set_cons_succ, List.getElem_toArray, List.getElem_cons_zero, List.getElem_cons_succ]
      refine wpAnyH_ready (rs := [8]) (by kernel_rfl) (by simp) ?_
      refine (AllReadyH.cons rfl (fun K hK => ?_) AllReadyH.nil)
      refine ready_go (by rfl) ?_
      refine wp_store_mid 27 (.tmp 2) (.tmp 27) rfl (w.heap.size + 1) (0) (wds 4 gr).toArray rfl rfl ((hz_r2).thereW 0 4 gr (by decide)) (sizeEA _) (wds_all _ _) ?_
      have HR := hid ((hz_r2).lay0 gr).range
      have hxr3 := BlkV.put (show w.heap.size + 1 + 1 ≠ w.heap.size + 1 by omega) (wds 4 gr) 0 _ (hp_r2)
      have hyr3 := below_cells (show w.heap.size ≤ w.heap.size + 1 by omega) (wds 4 gr) 0 _ (b_r2)
      refine hK.out _ _ (hxr3) (fun hHeld => ?_)
      clear hK K
      try simp only [Act.put, List.setIfInBounds_toArray, List.set_cons_zero, List.set_cons_succ, List.getElem_toArray, List.getElem_cons_zero, List.getElem_cons_succ]
      refine wpAnyH_done (by kernel_rfl) ?_ _
      go_wp2_with fail
      refine bodyPost_ret (results_cell1 Tryd.results16 ⟨w.heap.size + 1, 0, none⟩ _ rfl (run_loadVar_mid _ (w.heap.size + 1) 0 27 (wds 4 gr) _ HR.out Tryd.underlying27 rfl (sizeE _))) rfl ?_
      exact ⟨_, rfl, HD.out ▸ he2, hyr3⟩
end Go.Proofs.YtdepkfdceidikaaDoor
/-
  matrix.filled: what the call does, whatever the function that tells the elements.
-/
namespace Go.Proofs.YtdepkfdceidikaaDoor
open Go.RowKit
set_option linter.unusedVariables false
set_option linter.unusedSimpArgs false


/-- The elements ahead of row i and column j stand. -/
def MP (X : MZ) (i j : Nat) (s : Nat → Int) : Prop := ∀ i' j', i' < 3 → j' < 3 → i' * 3 + j' < i * 3 + j → Ef s (i' * 12 + j' * 4) (X i' j')
theorem MP.zero (X : MZ) (s : Nat → Int) : MP X 0 0 s := fun i j _ _ h => absurd h (by omega)
theorem MP.put {X : MZ} {i j : Nat} {s g : Nat → Int} (h : MP X i j s) (hi : i < 3) (hj : j < 3) (hg : Ez (.agg (wds 4 g).toArray) (X i j)) : MP X i (j + 1) (fput s (i * 12 + j * 4) 4 g) := by
  intro i' j' hi' hj' hl
  by_cases e : i' * 3 + j' < i * 3 + j
  · exact (h i' j' hi' hj' e).putO (by omega)
  · obtain rfl : i' = i := by omega
    obtain rfl : j' = j := by omega
    exact Ef.put _ hg
theorem MP.turn {X : MZ} {i : Nat} {s : Nat → Int} (h : MP X i 3 s) : MP X (i + 1) 0 s := fun i' j' hi' hj' hl => h i' j' hi' hj' (by omega)
theorem MP.end_ {X : MZ} {s : Nat → Int} (h : MP X 3 0 s) : MatZ s X := ⟨fun i j hi hj => h i j hi hj (by omega)⟩
/-- A call of a function's value. -/
theorem wp_call_func {op : Oper} {a : Act} {w : World} {K : Act → World → Prop} {Q : Exit → Act → World → Prop} (x : Operand) {args : Array Operand} {ats : Array TypeId} (ho : op.op = .call { callee := .value x, args := args, argTypes := ats })
    (n : Nat) (first cap : Array Value) (hx : a.eval x = .func (.func n) first cap) (hf : ∀ A v, (callFunc n A).run Tryd.prog v = .ok (.enter n A) v) (xs : Array Value) (has : args.map a.eval = xs)
    (h : Calls Tryd.prog n (first ++ xs ++ cap) w fun e w' => ∃ r, e = .returned r ∧ K (a.put op.dst r) w') : op.wp Tryd.prog a w K Q := by
  unfold Oper.wp execOp
  simp only [ho, resolve, Deferred.ofValue, hx, has, invoke, Sem.run_bind, Sem.run_pure, Result.andThen_ok, hf]
  refine Calls.mono h ?_
  rintro e w' ⟨r, rfl, hr⟩
  exact hr
set_option maxRecDepth 20000 in
set_option maxHeartbeats 1000000 in
theorem filled_c (n : Nat) (first cap : Array Value) (X : MZ) (w : World) (hf : ∀ A v, (callFunc n A).run Tryd.prog v = .ok (.enter n A) v)
    (HC : ∀ v i j, i < 3 → j < 3 → Below w.heap.size w v → Calls Tryd.prog n (first ++ #[.int .i64 ((i : Nat) : Int), .int .i64 ((j : Nat) : Int)] ++ cap) v fun e v' => ∃ r, e = .returned r ∧ Ez r (X i j) ∧ Below v.heap.size v v') :
    Calls Tryd.prog 32 #[.func (.func n) first cap] w fun e w' => ∃ g, e = .returned (.agg (wds 36 g).toArray) ∧ MatZ g X ∧ Below w.heap.size w w' := by
  have hz := zeroM
  have hlz := wds_len 36 z0
  have e1 : (w.alloc (oF 40 36 z0)).heap.size = w.heap.size + 1 := by simp
  have h1 := (oF_new w 40 36 z0).alloc (oF 40 36 z0)
  have h2 := oF_new (w.alloc (oF 40 36 z0)) 40 36 z0
  rw [e1] at h2
  have hb := ((Below.refl w.heap.size w).alloc (Nat.le_refl _) (oF 40 36 z0)).alloc (by omega) (oF 40 36 z0)
  have R0 := hid (show FRel w (w.heap.size + 1) 40 36 (MP X 0 0) w.heap.size 40 36 w.heap.size 40 (wds 36 z0) _ from ⟨⟨z0, h2, MP.zero _ _⟩, h1, h1, hb⟩)
  have HF := hid hf
  have HCC := hid HC
  clear h1 h2 e1 hb hf HC
  unfold oF at R0
  go_enter Tryd.func32, Tryd.ntmps32
  go_wp2_with fail
  generalize ((w.alloc _).alloc _) = w0 at *
  go_loopw [6] (fun i wr => ∃ k : Nat, k ≤ 3 ∧ i = .int .i64 k ∧ FRel w (w.heap.size + 1) 40 36 (MP X k 0) w.heap.size 40 36 w.heap.size 40 (wds 36 z0) wr) (fun i _ => 3 - (intOf i).toNat)
  case atStart => exact ⟨0, by omega, rfl, R0.out⟩
  case round =>
    clear R0
    obtain ⟨k, hk, rfl, hrel⟩ := hrel
    by_cases hlt : k < 3
    · have i0 : (0 : Int) ≤ (k : Int) := by omega
      have i2 : (k : Int) < 3 := by omega
      have HR := hid hrel
      clear hrel
      go_wp2_with fail
      obtain ⟨w1, rfl⟩ : ∃ x, x = wr := ⟨wr, rfl⟩
      go_loopw [9] (fun i wr => ∃ m : Nat, m ≤ 3 ∧ i = .int .i64 m ∧ FRel w (w.heap.size + 1) 40 36 (MP X k m) w.heap.size 40 36 w.heap.size 40 (wds 36 z0) wr) (fun i _ => 3 - (intOf i).toNat)
      case atStart => exact ⟨0, by omega, rfl, HR.out⟩
      case round =>
        clear HR
        obtain ⟨m, hm, rfl, hrel⟩ := hrel
        by_cases hltm : m < 3
        · have j0 : (0 : Int) ≤ (m : Int) := by omega
          have j2 : (m : Int) < 3 := by omega
          have HR := hid hrel
          clear hrel
          go_wp2_with fail
          have hr0 := FRel.up HR.out (Below.refl _ _).drew
          refine wp_region_held_drew (S := fun v => True) (by kernel_rfl) trivial (fun hHeld => ?_)
          refine wpAnyH_take (i := 0) (v := ?_) rfl (by kernel_rfl) (by kernel_rfl) (by kernel_rfl) (fun _ _ _ h => h) (Or.inl ⟨by rfl, fun v hv => ?_⟩) (by with_reducible assumption) ?_
          rotate_left
          · go_simp
            try with_reducible rfl
          simp only [Act.put, List.setIfInBounds_toArray, List.set_cons_zero, List.set_cons_succ, List.getElem_toArray, List.getElem_cons_zero, List.getElem_cons_succ]
          refine wpAnyH_take (i := 1) (v := ?_) rfl (by kernel_rfl) (by kernel_rfl) (by kernel_rfl) (fun _ _ _ h => h) (Or.inl ⟨by rfl, fun v hv => ?_⟩) (by with_reducible assumption) ?_
          rotate_left
          · go_simp
            try with_reducible rfl
          simp only [Act.put, List.setIfInBounds_toArray, List.set_cons_zero, List.set_cons_succ, List.getElem_toArray, List.getElem_cons_zero, List.getElem_cons_succ]
          refine wpAnyH_take (i := 2) (v := ?_) rfl (by kernel_rfl) (by kernel_rfl) (by kernel_rfl) (fun _ _ _ h => h) (Or.inl ⟨by rfl, fun v hv => ?_⟩) (by with_reducible assumption) ?_
          rotate_left
          · go_simp
            try with_reducible rfl
          simp only [Act.put, List.setIfInBounds_toArray, List.set_cons_zero, List.set_cons_succ, List.getElem_toArray, List.getElem_cons_zero, List.getElem_cons_succ]
          refine wpAnyH_take (i := 3) (v := ?_) rfl (by kernel_rfl) (by kernel_rfl) (by kernel_rfl) (fun _ _ _ h => h) (Or.inl ⟨by rfl, fun v hv => ?_⟩) (by with_reducible assumption) ?_
          rotate_left
          · go_simp
            try with_reducible rfl
          simp only [Act.put, List.setIfInBounds_toArray, List.set_cons_zero, List.set_cons_succ, List.getElem_toArray, List.getElem_cons_zero, List.getElem_cons_succ]
          refine wpAnyH_take (i := 4) (v := ?_) rfl (by kernel_rfl) (by kernel_rfl) (by kernel_rfl) (fun _ _ _ h => h) (Or.inl ⟨by rfl, fun v hv => ?_⟩) (by with_reducible assumption) ?_
          rotate_left
          · go_simp
            try with_reducible rfl
          simp only [Act.put, List.setIfInBounds_toArray, List.set_cons_zero, List.set_cons_succ, List.getElem_toArray, List.getElem_cons_zero, List.getElem_cons_succ]
          refine wpAnyH_take (i := 6) (v := ?_) rfl (by kernel_rfl) (by kernel_rfl) (by kernel_rfl) (fun _ _ _ h => h) (Or.inl ⟨by rfl, fun v hv => ?_⟩) (by with_reducible assumption) ?_
          rotate_left
          · go_simp
            try with_reducible rfl
          simp only [Act.put, List.setIfInBounds_toArray, List.set_cons_zero, List.set_cons_succ, List.getElem_toArray, List.getElem_cons_zero, List.getElem_cons_succ]
          refine wpAnyH_ready (rs := [5]) (by kernel_rfl) (by simp) ?_
          refine (AllReadyH.cons rfl (fun K hK => ?_) AllReadyH.nil)
          refine ready_go (by rfl) ?_
          refine wp_call_func (.tmp 14) rfl _ _ _ rfl (HF.out) (#[.int .i64 (k : Int), .int .i64 (m : Int)]) (by simp [Act.eval]) ((HCC.out wr.drew k m hlt hltm (hr0).b).mono ?_)
          rintro e wq1 ⟨_, rfl, he1, hbq1⟩
          refine ⟨_, rfl, ?_⟩
          have hr_q1 := (hr0).up hbq1
          obtain ⟨gr, rfl⟩ := he1.fn
          refine hK.out _ _ (trivial) (fun hHeld => ?_)
          clear hK K
          try simp only [Act.put, List.setIfInBounds_toArray, List.set_cons_zero, List.set_cons_succ, List.getElem_toArray, List.getElem_cons_zero, List.getElem_cons_succ]
          refine wpAnyH_take (i := 7) (v := ?_) rfl (by kernel_rfl) (by kernel_rfl) (by kernel_rfl) (fun _ _ _ h => h) (Or.inl ⟨by rfl, fun v hv => ?_⟩) (by with_reducible assumption) ?_
          rotate_left
          · go_simp
            try with_reducible rfl
          simp only [Act.put, List.setIfInBounds_toArray, List.set_cons_zero, List.set_cons_succ, List.getElem_toArray, List.getElem_cons_zero, List.getElem_cons_succ]
          refine wpAnyH_ready (rs := [8]) (by kernel_rfl) (by simp) ?_
          refine (AllReadyH.cons rfl (fun K hK => ?_) AllReadyH.nil)
          refine ready_go (by rfl) ?_
          refine wp_store_mid 27 (.tmp 19) (.tmp 17) rfl (w.heap.size + 1) (k * 12 + m * 4) (wds 4 gr).toArray rfl rfl ((hr_q1).there (k * 12 + m * 4) 4 gr (by omega)) (sizeEA _) (wds_all _ _) ?_
          have hstq2 := (hr_q1).set (P' := MP X k (m + 1)) (k * 12 + m * 4) 4 gr (by omega) (by omega) (by omega) (by omega) (fun _ hs => MP.put hs hlt hltm he1)
          refine hK.out _ _ (trivial) (fun hHeld => ?_)
          clear hK K
          try simp only [Act.put, List.setIfInBounds_toArray, List.set_cons_zero, List.set_cons_succ, List.getElem_toArray, List.getElem_cons_zero, List.getElem_cons_succ]
          refine wpAnyH_done (by kernel_rfl) ?_ _
          go_wp2_with fail
          go_roundw
          case rel => exact ⟨m + 1, by omega, by go_num, hstq2⟩
          case measure => simp [intOf]; omega
        · obtain rfl : m = 3 := by omega
          have HR := hid (hrel.weak (P' := MP X (k + 1) 0) (fun _ hs => hs.turn))
          clear hrel
          go_wp2_with fail
          go_roundw
          case rel => exact ⟨k + 1, by omega, by go_num, HR.out⟩
          case measure => simp [intOf]; omega
    · obtain rfl : k = 3 := by omega
      obtain ⟨⟨g, h1, h2⟩, h3, h4, h5⟩ := hrel
      have HO := hid h1.range
      have HV := hid (MP.end_ h2)
      have HT := hid (h3.thereW 0 36 g (by decide))
      have HR := hid (h3.lay0 g).range
      have HB := hid (below_cells (show w.heap.size ≤ w.heap.size by omega) (wds 36 g) 0 _ h5)
      clear h1 h2 h3 h4 h5
      go_wp2_with (first
    | with_reducible refine wpList_load_mid rfl 40 (.tmp 3) rfl (w.heap.size + 1) (0) rfl (wds 36 g) _ (by with_reducible exact HO.out) Tryd.underlying40 rfl (sizeM _) ?_
    | with_reducible refine wpList_store_mid rfl 40 (.tmp 2) (.tmp 22) rfl (w.heap.size) (0) (wds 36 g).toArray rfl rfl (by with_reducible exact HT.out) (sizeMA _) (wds_all _ _) ?_)
      refine bodyPost_ret (results_cell1 Tryd.results32 ⟨w.heap.size, 0, none⟩ _ rfl (run_loadVar_mid _ w.heap.size 0 40 (wds 36 g) _ HR.out Tryd.underlying40 rfl (sizeM _))) rfl ?_
      exact ⟨_, rfl, HV.out, HB.out⟩
end Go.Proofs.YtdepkfdceidikaaDoor
