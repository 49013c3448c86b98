import Derived.Test.YtdepkfdceidikaaDoorMxC
/-
  matrix.Vector.times, Matrix.Apply: what each call does.
-/
namespace Go.Proofs.YtdepkfdceidikaaDoor
open Go.RowKit
set_option linter.unusedVariables false
set_option linter.unusedSimpArgs false


/-- The sum of the first k products. -/
def dotZ (X Y : Nat → Int) : Nat → Int
  | 0 => 0
  | k + 1 => dotZ X Y k + X k * Y k
def EP (X : Int) (s : Nat → Int) : Prop := Ez (.agg (wds 4 s).toArray) X
theorem EP.put {X : Int} {s g : Nat → Int} (hg : Ez (.agg (wds 4 g).toArray) X) : EP X (fput s 0 4 g) := by
  unfold EP
  rw [wds_ext (g := g) fun k hk => by have := @fput_in s g 0 4 k hk; rwa [Nat.zero_add] at this]
  exact hg
theorem EP.zero : EP 0 z0 := (Ef.zero 0).one'
set_option maxRecDepth 20000 in
set_option maxHeartbeats 1000000 in
theorem times_c (f g : Nat → Int) (X Y : Nat → Int) (w : World) (hX : VecZ f X) (hY : VecZ g Y) (hG : Glob w) :
    Calls Tryd.prog 34 #[.agg (wds 12 f).toArray, .agg (wds 12 g).toArray] w fun e w' => ∃ r, e = .returned r ∧ Ez r (dotZ X Y 3) ∧ Below w.heap.size w w' := by
  have hz := zeroE
  have hlz := wds_len 4 z0
  have hlf := wds_len 12 f
  have hlg := wds_len 12 g
  have e1 : (w.alloc (oF 38 12 f)).heap.size = w.heap.size + 1 := by simp
  have e2 : ((w.alloc (oF 38 12 f)).alloc (oF 38 12 g)).heap.size = w.heap.size + 1 + 1 := by simp
  have e3 : (((w.alloc (oF 38 12 f)).alloc (oF 38 12 g)).alloc (oF 27 4 z0)).heap.size = w.heap.size + 1 + 1 + 1 := by simp
  have h1 := (((oF_new w 38 12 f).alloc (oF 38 12 g)).alloc (oF 27 4 z0)).alloc (oF 27 4 z0)
  have h2 := ((oF_new (w.alloc (oF 38 12 f)) 38 12 g).alloc (oF 27 4 z0)).alloc (oF 27 4 z0)
  have h3 := (oF_new ((w.alloc (oF 38 12 f)).alloc (oF 38 12 g)) 27 4 z0).alloc (oF 27 4 z0)
  have h4 := oF_new (((w.alloc (oF 38 12 f)).alloc (oF 38 12 g)).alloc (oF 27 4 z0)) 27 4 z0
  rw [e1] at h2
  rw [e2] at h3
  rw [e3] at h4
  have hb := ((((Below.refl w.heap.size w).alloc (Nat.le_refl _) (oF 38 12 f)).alloc (by omega) (oF 38 12 g)).alloc (by omega) (oF 27 4 z0)).alloc (by omega) (oF 27 4 z0)
  have HO := hid h1.range
  have R0 := hid (show FRel w (w.heap.size + 1 + 1 + 1) 27 4 (EP (dotZ X Y 0)) (w.heap.size + 1 + 1) 27 4 (w.heap.size + 1) 38 (wds 12 g) _ from ⟨⟨z0, h4, EP.zero⟩, h3, h2, hb⟩)
  have HX := hid hX
  have HY := hid hY
  have HG := hid hG
  clear h1 h2 h3 h4 hX hY hG e1 e2 e3 hb
  unfold oF at HO R0
  go_enter Tryd.func34, Tryd.ntmps34
  go_wp2_with (first
    | with_reducible refine wpList_load_mid rfl 38 (.tmp 2) rfl (w.heap.size) (0) rfl (wds 12 f) _ (by with_reducible exact HO.out) Tryd.underlying38 rfl (sizeV _) ?_)
  clear HO
  generalize ((((w.alloc _).alloc _).alloc _).alloc _) = w0 at *
  go_loopw [9] (fun i wr => ∃ k : Nat, k ≤ 3 ∧ i = .int .i64 k ∧ FRel w (w.heap.size + 1 + 1 + 1) 27 4 (EP (dotZ X Y k)) (w.heap.size + 1 + 1) 27 4 (w.heap.size + 1) 38 (wds 12 g) wr) (fun i _ => 3 - (intOf i).toNat)
  case atStart => exact ⟨0, by omega, rfl, R0.out⟩
  case round =>
    clear R0
    obtain ⟨k, hk, rfl, hrel⟩ := hrel
    by_cases hlt : k < 3
    · have i0 : (0 : Int) ≤ (k : Int) := by omega
      have i2 : (k : Int) < 3 := by omega
      have hix := index_v wr f hlt
      obtain ⟨a, ha⟩ : ∃ a : Nat → Int, a = fun m => f (k * 4 + m) := ⟨_, rfl⟩
      obtain ⟨c, hc⟩ : ∃ c : Nat → Int, c = fun m => g (k * 4 + m) := ⟨_, rfl⟩
      rw [← ha] at hix
      have HA : Hid (Ez (.agg (wds 4 a).toArray) (X k)) := by rw [ha]; exact HX.out.el hlt
      have HC : Hid (Ez (.agg (wds 4 c).toArray) (Y k)) := by rw [hc]; exact HY.out.el hlt
      obtain ⟨n1, n2, n3⟩ := newRow wr 27 4 a
      have hr1 := hrel.up n3
      have hlt1 := hrel.b.size
      have N1 := hid n1
      have hla := wds_len 4 a
      have hco := hr1.x.sub (k * 4) 4 (by omega)
      rw [← hc] at hco
      have HSb : Hid (∀ v, BlkV v (w.heap.size + 1) 38 (wds 12 g) → v.rangeAt (w.heap.size + 1) (k * 4) (wds 4 c)) := fun v hv => by rw [hc]; exact hv.sub (k * 4) 4 (by omega)
      obtain ⟨s, hs1, hs2⟩ := hr1.o
      have HS2 : Hid (Ez (.agg (wds 4 s).toArray) (dotZ X Y k)) := hid hs2
      have HN2 := hid n2
      have HR1 := hid hr1
      have HS1 := hid hs1
      have LT : Hid (w.heap.size + 1 + 1 + 1 < wr.heap.size) := by obtain ⟨_, h, _⟩ := hrel.o; exact h.size
      clear n1 n2 n3 hrel hr1 ha hc hco hs1 hs2
      unfold oF at N1 HN2 HR1 HS1
      go_wp2_with (first
    | with_reducible refine wpList_store_mid rfl 27 (.tmp 7) (.tmp 12) rfl (wr.heap.size) (0) (wds 4 a).toArray rfl rfl (by with_reducible exact N1.out) (sizeEA _) (wds_all _ _) ?_)

      obtain ⟨w1, hw1⟩ : ∃ v, v = (wr.alloc (.cells (wds 4 z0).toArray 27)).setCells wr.heap.size 0 (wds 4 a) := ⟨_, rfl⟩
      rw [← hw1] at HN2 HR1 HS1 ⊢
      obtain ⟨bt, hbt⟩ : ∃ b, b = wr.heap.size := ⟨_, rfl⟩
      rw [← hbt] at HN2 LT ⊢
      have hlt2 : w.heap.size + 1 + 1 + 1 < bt := LT.out
      clear hw1 hbt N1
      have hr0 := FRel.up HR1.out (Below.refl _ _).drew
      have hn0 := HN2.out.up (Below.refl _ _).drew
      have hs0 := HS1.out.up (Below.refl _ _).drew
      refine wp_region_held_drew (S := fun v => BlkV v (w.heap.size + 1) 38 (wds 12 g) ∧ BlkV v bt 27 (wds 4 a)) (by kernel_rfl) ⟨(hr0).x, hn0⟩ (fun hHeld => ?_)
      refine wpAnyH_take (i := 1) (v := .agg (wds 4 a).toArray) rfl (by kernel_rfl) (by kernel_rfl) (by kernel_rfl) (fun _ _ _ h => h) (yieldsIf_load_mid (by rfl) 27 (.tmp 7) rfl (bt) (0) rfl (wds 4 a) _ (fun v hv => hv.2.range) Tryd.underlying27 rfl (sizeE _)) (by with_reducible assumption) ?_
      simp only [Act.put, List.setIfInBounds_toArray, List.set_cons_zero, List.set_cons_succ, List.getElem_toArray, List.getElem_cons_zero, List.getElem_cons_succ]
      refine wpAnyH_take (i := 2) (v := ?_) rfl (by kernel_rfl) (by kernel_rfl) (by kernel_rfl) (fun _ _ _ h => h) (Or.inl ⟨by rfl, fun v hv => ?_⟩) (by with_reducible assumption) ?_
      rotate_left
      · go_simp
        try with_reducible rfl
      simp only [Act.put, List.setIfInBounds_toArray, List.set_cons_zero, List.set_cons_succ, List.getElem_toArray, List.getElem_cons_zero, List.getElem_cons_succ]
      refine wpAnyH_take (i := 3) (v := ?_) rfl (by kernel_rfl) (by kernel_rfl) (by kernel_rfl) (fun _ _ _ h => h) (Or.inl ⟨by rfl, fun v hv => ?_⟩) (by with_reducible assumption) ?_
      rotate_left
      · go_simp
        try with_reducible rfl
      simp only [Act.put, List.setIfInBounds_toArray, List.set_cons_zero, List.set_cons_succ, List.getElem_toArray, List.getElem_cons_zero, List.getElem_cons_succ]
      refine wpAnyH_take (i := 4) (v := .agg (wds 4 c).toArray) rfl (by kernel_rfl) (by kernel_rfl) (by kernel_rfl) (fun _ _ _ h => h) (yieldsIf_load_mid (by rfl) 27 (.tmp 16) rfl (w.heap.size + 1) (k * 4) rfl (wds 4 c) _ (fun v hv => HSb.out v hv.1) Tryd.underlying27 rfl (sizeE _)) (by with_reducible assumption) ?_
      simp only [Act.put, List.setIfInBounds_toArray, List.set_cons_zero, List.set_cons_succ, List.getElem_toArray, List.getElem_cons_zero, List.getElem_cons_succ]
      refine wpAnyH_ready (rs := [0, 5]) (by kernel_rfl) (by simp) ?_
      refine (AllReadyH.cons rfl (fun K hK => ?_) (AllReadyH.cons rfl (fun K hK => ?_) AllReadyH.nil))
      · refine ready_go (by rfl) ?_
        refine wp_load_mid 27 (.tmp 5) rfl (w.heap.size + 1 + 1 + 1) (0) rfl (wds 4 s) _ ((hs0).range) Tryd.underlying27 rfl (sizeE _) ?_
        refine hK.out _ _ (⟨(hr0).x, hn0⟩) (fun hHeld => ?_)
        clear hK K
        try simp only [Act.put, List.setIfInBounds_toArray, List.set_cons_zero, List.set_cons_succ, List.getElem_toArray, List.getElem_cons_zero, List.getElem_cons_succ]
        refine wpAnyH_ready (rs := [5]) (by kernel_rfl) (by simp) ?_
        refine (AllReadyH.cons rfl (fun K hK => ?_) AllReadyH.nil)
        go_simp
        go_at_call 17
        with_reducible refine (emulZ_c _ _ _ _ w1.drew HA.out HC.out (HG.out.up (hr0).b)).mono ?_
        rintro e wq2 ⟨_, rfl, he1, hbq2⟩
        have hr_q2 := (hr0).up hbq2
        have hn_q2 := (hn0).up hbq2
        have hs_q2 := (hs0).up hbq2
        try dsimp only
        refine hK.out _ _ (⟨(hr_q2).x, hn_q2⟩) (fun hHeld => ?_)
        clear hK K
        try simp only [Act.put, List.setIfInBounds_toArray, List.set_cons_zero, List.set_cons_succ, List.getElem_toArray, List.getElem_cons_zero, List.getElem_cons_succ]
        refine wpAnyH_ready (rs := [6]) (by kernel_rfl) (by simp) ?_
        refine (AllReadyH.cons rfl (fun K hK => ?_) AllReadyH.nil)
        go_simp
        go_at_call 39
        with_reducible refine (eaddZ_c _ _ _ _ wq2 HS2.out he1 (HG.out.up (hr_q2).b)).mono ?_
        rintro e wq3 ⟨_, rfl, he2, hbq3⟩
        have hr_q3 := (hr_q2).up hbq3
        have hn_q3 := (hn_q2).up hbq3
        have hs_q3 := (hs_q2).up hbq3
        obtain ⟨gr, rfl⟩ := he2.fn
        try dsimp only
        refine hK.out _ _ (⟨(hr_q3).x, hn_q3⟩) (fun hHeld => ?_)
        clear hK K
        try simp only [Act.put, List.setIfInBounds_toArray, List.set_cons_zero, List.set_cons_succ, List.getElem_toArray, List.getElem_cons_zero, List.getElem_cons_succ]
        refine wpAnyH_ready (rs := [7]) (by kernel_rfl) (by simp) ?_
        refine (AllReadyH.cons rfl (fun K hK => ?_) AllReadyH.nil)
        refine ready_go (by rfl) ?_
        refine wp_store_mid 27 (.tmp 5) (.tmp 19) rfl (w.heap.size + 1 + 1 + 1) (0) (wds 4 gr).toArray rfl rfl ((hr_q3).there 0 4 gr (by decide)) (sizeEA _) (wds_all _ _) ?_
        have hstq4 := (hr_q3).set (P' := EP (dotZ X Y (k + 1))) 0 4 gr (by decide) (by omega) (by omega) (by omega) (fun _ _ => EP.put he2)
        have hnstq4 := BlkV.put (show bt ≠ w.heap.size + 1 + 1 + 1 by omega) (wds 4 gr) 0 _ hn_q3
        refine hK.out _ _ (⟨(hstq4).x, hnstq4⟩) (fun hHeld => ?_)
        clear hK K
        try simp only [Act.put, List.setIfInBounds_toArray, List.set_cons_zero, List.set_cons_succ, List.getElem_toArray, List.getElem_cons_zero, List.getElem_cons_succ]
        refine wpAnyH_done (by kernel_rfl) ?_ _
        go_wp2_with fail
        go_roundw
        case rel => exact ⟨k + 1, by omega, by go_num, hstq4⟩
        case measure => simp [intOf]; omega
      · go_simp
        go_at_call 17
        with_reducible refine (emulZ_c _ _ _ _ w1.drew HA.out HC.out (HG.out.up (hr0).b)).mono ?_
        rintro e wq5 ⟨_, rfl, he1, hbq5⟩
        have hr_q5 := (hr0).up hbq5
        have hn_q5 := (hn0).up hbq5
        have hs_q5 := (hs0).up hbq5
        try dsimp only
        refine hK.out _ _ (⟨(hr_q5).x, hn_q5⟩) (fun hHeld => ?_)
        clear hK K
        try simp only [Act.put, List.setIfInBounds_toArray, List.set_cons_zero, List.set_cons_succ, List.getElem_toArray, List.getElem_cons_zero, List.getElem_cons_succ]
        refine wpAnyH_ready (rs := [0]) (by kernel_rfl) (by simp) ?_
        refine (AllReadyH.cons rfl (fun K hK => ?_) AllReadyH.nil)
        refine ready_go (by rfl) ?_
        refine wp_load_mid 27 (.tmp 5) rfl (w.heap.size + 1 + 1 + 1) (0) rfl (wds 4 s) _ ((hs_q5).range) Tryd.underlying27 rfl (sizeE _) ?_
        refine hK.out _ _ (⟨(hr_q5).x, hn_q5⟩) (fun hHeld => ?_)
        clear hK K
        try simp only [Act.put, List.setIfInBounds_toArray, List.set_cons_zero, List.set_cons_succ, List.getElem_toArray, List.getElem_cons_zero, List.getElem_cons_succ]
        refine wpAnyH_ready (rs := [6]) (by kernel_rfl) (by simp) ?_
        refine (AllReadyH.cons rfl (fun K hK => ?_) AllReadyH.nil)
        go_simp
        go_at_call 39
        with_reducible refine (eaddZ_c _ _ _ _ wq5 HS2.out he1 (HG.out.up (hr_q5).b)).mono ?_
        rintro e wq7 ⟨_, rfl, he2, hbq7⟩
        have hr_q7 := (hr_q5).up hbq7
        have hn_q7 := (hn_q5).up hbq7
        have hs_q7 := (hs_q5).up hbq7
        obtain ⟨gr, rfl⟩ := he2.fn
        try dsimp only
        refine hK.out _ _ (⟨(hr_q7).x, hn_q7⟩) (fun hHeld => ?_)
        clear hK K
        try simp only [Act.put, List.setIfInBounds_toArray, List.set_cons_zero, List.set_cons_succ, List.getElem_toArray, List.getElem_cons_zero, List.getElem_cons_succ]
        refine wpAnyH_ready (rs := [7]) (by kernel_rfl) (by simp) ?_
        refine (AllReadyH.cons rfl (fun K hK => ?_) AllReadyH.nil)
        refine ready_go (by rfl) ?_
        refine wp_store_mid 27 (.tmp 5) (.tmp 19) rfl (w.heap.size + 1 + 1 + 1) (0) (wds 4 gr).toArray rfl rfl ((hr_q7).there 0 4 gr (by decide)) (sizeEA _) (wds_all _ _) ?_
        have hstq8 := (hr_q7).set (P' := EP (dotZ X Y (k + 1))) 0 4 gr (by decide) (by omega) (by omega) (by omega) (fun _ _ => EP.put he2)
        have hnstq8 := BlkV.put (show bt ≠ w.heap.size + 1 + 1 + 1 by omega) (wds 4 gr) 0 _ hn_q7
        refine hK.out _ _ (⟨(hstq8).x, hnstq8⟩) (fun hHeld => ?_)
        clear hK K
        try simp only [Act.put, List.setIfInBounds_toArray, List.set_cons_zero, List.set_cons_succ, List.getElem_toArray, List.getElem_cons_zero, List.getElem_cons_succ]
        refine wpAnyH_done (by kernel_rfl) ?_ _
        go_wp2_with fail
        go_roundw
        case rel => exact ⟨k + 1, by omega, by go_num, hstq8⟩
        case measure => simp [intOf]; omega
    · obtain rfl : k = 3 := by omega
      obtain ⟨⟨r, h1, h2⟩, h3, h4, h5⟩ := hrel
      have HO := hid h1.range
      have HV := hid h2
      have HT := hid (h3.thereW 0 4 r (by decide))
      have HR := hid (h3.lay0 r).range
      have HB := hid (below_cells (show w.heap.size ≤ w.heap.size + 1 + 1 by omega) (wds 4 r) 0 _ h5)
      clear h1 h2 h3 h4 h5 HX HY HG
      go_wp2_with (first
    | with_reducible refine wpList_load_mid rfl 27 (.tmp 5) rfl (w.heap.size + 1 + 1 + 1) (0) rfl (wds 4 r) _ (by with_reducible exact HO.out) Tryd.underlying27 rfl (sizeE _) ?_
    | with_reducible refine wpList_store_mid rfl 27 (.tmp 4) (.tmp 21) rfl (w.heap.size + 1 + 1) (0) (wds 4 r).toArray rfl rfl (by with_reducible exact HT.out) (sizeEA _) (wds_all _ _) ?_)
      refine bodyPost_ret (results_cell1 Tryd.results34 ⟨w.heap.size + 1 + 1, 0, none⟩ _ rfl (run_loadVar_mid _ (w.heap.size + 1 + 1) 0 27 (wds 4 r) _ HR.out Tryd.underlying27 rfl (sizeE _))) rfl ?_
      exact ⟨_, rfl, HV.out, HB.out⟩
end Go.Proofs.YtdepkfdceidikaaDoor
/-
  matrix.Matrix.without: what the call does.
-/
namespace Go.Proofs.YtdepkfdceidikaaDoor
open Go.RowKit
set_option linter.unusedVariables false
set_option linter.unusedSimpArgs false


theorem otL_lt {i : Nat} (h : i < 3) : otL i < 3 := by unfold otL; split <;> omega
theorem otR_lt {i : Nat} (h : i < 3) : otR i < 3 := by unfold otR; split <;> omega
/-- The determinant of what is left without a row and a column. -/
def mzWo (M : MZ) (i j : Nat) : Int := M (otL i) (otL j) * M (otR i) (otR j) - M (otL i) (otR j) * M (otR i) (otL j)
set_option maxRecDepth 20000 in
set_option maxHeartbeats 1000000 in
theorem without_c (f : Nat → Int) (M : MZ) (i j : Nat) (hi : i < 3) (hj : j < 3) (w : World) (hM : MatZ f M) (hG : Glob w) :
    Calls Tryd.prog 37 #[.agg (wds 36 f).toArray, .int .i64 (i : Int), .int .i64 (j : Int)] w fun e w' => ∃ r, e = .returned r ∧ Ez r (mzWo M i j) ∧ Below w.heap.size w w' := by
  have hz := zeroE
  have hlz := wds_len 4 z0
  have hlm := wds_len 36 f
  have e1 : (w.alloc (oF 40 36 f)).heap.size = w.heap.size + 1 := by simp
  have h1 := (oF_new w 40 36 f).alloc (oF 27 4 z0)
  have h2 := oF_new (w.alloc (oF 40 36 f)) 27 4 z0
  rw [e1] at h2
  have hb := ((Below.refl w.heap.size w).alloc (Nat.le_refl _) (oF 40 36 f)).alloc (by omega) (oF 27 4 z0)
  have H1 := hid h1
  have H2 := hid h2
  have HB := hid hb
  have HG := hid hG
  have CI := fun (v : World) => others_c i hi v
  have CJ := fun (v : World) => others_c j hj v
  obtain ⟨p, hp⟩ : ∃ p, p = otL i := ⟨_, rfl⟩
  obtain ⟨q, hq⟩ : ∃ q, q = otR i := ⟨_, rfl⟩
  obtain ⟨r, hr⟩ : ∃ r, r = otL j := ⟨_, rfl⟩
  obtain ⟨s, hs⟩ : ∃ s, s = otR j := ⟨_, rfl⟩
  have hp3 : p < 3 := hp ▸ otL_lt hi
  have hq3 : q < 3 := hq ▸ otR_lt hi
  have hr3 : r < 3 := hr ▸ otL_lt hj
  have hs3 : s < 3 := hs ▸ otR_lt hj
  have HX : Hid (mzWo M i j = M p r * M q s - M p s * M q r) := by rw [hp, hq, hr, hs]; exact rfl
  rw [HX.out]
  rw [← hp, ← hq] at CI
  rw [← hr, ← hs] at CJ
  have EA := hid (hM.el hp3 hr3)
  have EB := hid (hM.el hq3 hs3)
  have EC := hid (hM.el hp3 hs3)
  have ED := hid (hM.el hq3 hr3)
  have a0 : (0 : Int) ≤ (p : Int) := by omega
  have a1 : (p : Int) < 3 := by omega
  have b0 : (0 : Int) ≤ (q : Int) := by omega
  have b1 : (q : Int) < 3 := by omega
  have c0 : (0 : Int) ≤ (r : Int) := by omega
  have c1 : (r : Int) < 3 := by omega
  have d0 : (0 : Int) ≤ (s : Int) := by omega
  have d1 : (s : Int) < 3 := by omega
  have OA : Hid (∀ v, BlkV v w.heap.size 40 (wds 36 f) → v.rangeAt w.heap.size (p * 12 + r * 4) (wds 4 fun k => f (p * 12 + r * 4 + k))) := fun v hv => hv.sub _ 4 (by omega)
  have OB : Hid (∀ v, BlkV v w.heap.size 40 (wds 36 f) → v.rangeAt w.heap.size (q * 12 + s * 4) (wds 4 fun k => f (q * 12 + s * 4 + k))) := fun v hv => hv.sub _ 4 (by omega)
  have OC : Hid (∀ v, BlkV v w.heap.size 40 (wds 36 f) → v.rangeAt w.heap.size (p * 12 + s * 4) (wds 4 fun k => f (p * 12 + s * 4 + k))) := fun v hv => hv.sub _ 4 (by omega)
  have OD : Hid (∀ v, BlkV v w.heap.size 40 (wds 36 f) → v.rangeAt w.heap.size (q * 12 + r * 4) (wds 4 fun k => f (q * 12 + r * 4 + k))) := fun v hv => hv.sub _ 4 (by omega)
  clear h1 h2 hb hM hG e1 hp hq hr hs HX hp3 hq3 hr3 hs3
  unfold oF at H1 H2 HB
  go_enter Tryd.func37, Tryd.ntmps37
  go_wp2_with fail
  generalize ((w.alloc _).alloc _) = w0 at *
  refine (CI w0).mono ?_
  rintro e w1 ⟨rfl, rfl⟩
  go_wp2_with fail
  refine (CJ w1).mono ?_
  rintro e w2 ⟨rfl, rfl⟩
  go_wp2_with fail
  clear CI CJ
  have h1 := H1.out.up (Below.refl _ _).drew
  have h2 := H2.out.up (Below.refl _ _).drew
  have hb := bchain HB.out (Below.refl _ _).drew
  refine wp_region_held_drew (S := fun v => BlkV v w.heap.size 40 (wds 36 f)) (by kernel_rfl) h1 (fun hHeld => ?_)
  refine wpAnyH_take (i := 0) (v := ?_) rfl (by kernel_rfl) (by kernel_rfl) (by kernel_rfl) (fun _ _ _ h => h) (Or.inl ⟨by rfl, fun v hv => ?_⟩) (by with_reducible assumption) ?_
  rotate_left
  · go_simp
    try with_reducible rfl
  simp only [Act.put, List.setIfInBounds_toArray, List.set_cons_zero, List.set_cons_succ, List.getElem_toArray, List.getElem_cons_zero, List.getElem_cons_succ]
  refine wpAnyH_take (i := 1) (v := ?_) rfl (by kernel_rfl) (by kernel_rfl) (by kernel_rfl) (fun _ _ _ h => h) (Or.inl ⟨by rfl, fun v hv => ?_⟩) (by with_reducible assumption) ?_
  rotate_left
  · go_simp
    try with_reducible rfl
  simp only [Act.put, List.setIfInBounds_toArray, List.set_cons_zero, List.set_cons_succ, List.getElem_toArray, List.getElem_cons_zero, List.getElem_cons_succ]
  refine wpAnyH_take (i := 2) (v := ?_) rfl (by kernel_rfl) (by kernel_rfl) (by kernel_rfl) (fun _ _ _ h => h) (Or.inl ⟨by rfl, fun v hv => ?_⟩) (by with_reducible assumption) ?_
  rotate_left
  · go_simp
    try with_reducible rfl
  simp only [Act.put, List.setIfInBounds_toArray, List.set_cons_zero, List.set_cons_succ, List.getElem_toArray, List.getElem_cons_zero, List.getElem_cons_succ]
  refine wpAnyH_take (i := 3) (v := ?_) rfl (by kernel_rfl) (by kernel_rfl) (by kernel_rfl) (fun _ _ _ h => h) (Or.inl ⟨by rfl, fun v hv => ?_⟩) (by with_reducible assumption) ?_
  rotate_left
  · go_simp
    try with_reducible rfl
  simp only [Act.put, List.setIfInBounds_toArray, List.set_cons_zero, List.set_cons_succ, List.getElem_toArray, List.getElem_cons_zero, List.getElem_cons_succ]
  refine wpAnyH_take (i := 4) (v := .agg (wds 4 fun k => f (p * 12 + r * 4 + k)).toArray) rfl (by kernel_rfl) (by kernel_rfl) (by kernel_rfl) (fun _ _ _ h => h) (yieldsIf_load_mid (by rfl) 27 (.tmp 24) rfl (w.heap.size) (p * 12 + r * 4) rfl (wds 4 fun k => f (p * 12 + r * 4 + k)) _ (fun v hv => OA.out v hv) Tryd.underlying27 rfl (sizeE _)) (by with_reducible assumption) ?_
  simp only [Act.put, List.setIfInBounds_toArray, List.set_cons_zero, List.set_cons_succ, List.getElem_toArray, List.getElem_cons_zero, List.getElem_cons_succ]
  refine wpAnyH_take (i := 5) (v := ?_) rfl (by kernel_rfl) (by kernel_rfl) (by kernel_rfl) (fun _ _ _ h => h) (Or.inl ⟨by rfl, fun v hv => ?_⟩) (by with_reducible assumption) ?_
  rotate_left
  · go_simp
    try with_reducible rfl
  simp only [Act.put, List.setIfInBounds_toArray, List.set_cons_zero, List.set_cons_succ, List.getElem_toArray, List.getElem_cons_zero, List.getElem_cons_succ]
  refine wpAnyH_take (i := 6) (v := ?_) rfl (by kernel_rfl) (by kernel_rfl) (by kernel_rfl) (fun _ _ _ h => h) (Or.inl ⟨by rfl, fun v hv => ?_⟩) (by with_reducible assumption) ?_
  rotate_left
  · go_simp
    try with_reducible rfl
  simp only [Act.put, List.setIfInBounds_toArray, List.set_cons_zero, List.set_cons_succ, List.getElem_toArray, List.getElem_cons_zero, List.getElem_cons_succ]
  refine wpAnyH_take (i := 7) (v := ?_) rfl (by kernel_rfl) (by kernel_rfl) (by kernel_rfl) (fun _ _ _ h => h) (Or.inl ⟨by rfl, fun v hv => ?_⟩) (by with_reducible assumption) ?_
  rotate_left
  · go_simp
    try with_reducible rfl
  simp only [Act.put, List.setIfInBounds_toArray, List.set_cons_zero, List.set_cons_succ, List.getElem_toArray, List.getElem_cons_zero, List.getElem_cons_succ]
  refine wpAnyH_take (i := 8) (v := ?_) rfl (by kernel_rfl) (by kernel_rfl) (by kernel_rfl) (fun _ _ _ h => h) (Or.inl ⟨by rfl, fun v hv => ?_⟩) (by with_reducible assumption) ?_
  rotate_left
  · go_simp
    try with_reducible rfl
  simp only [Act.put, List.setIfInBounds_toArray, List.set_cons_zero, List.set_cons_succ, List.getElem_toArray, List.getElem_cons_zero, List.getElem_cons_succ]
  refine wpAnyH_take (i := 9) (v := .agg (wds 4 fun k => f (q * 12 + s * 4 + k)).toArray) rfl (by kernel_rfl) (by kernel_rfl) (by kernel_rfl) (fun _ _ _ h => h) (yieldsIf_load_mid (by rfl) 27 (.tmp 29) rfl (w.heap.size) (q * 12 + s * 4) rfl (wds 4 fun k => f (q * 12 + s * 4 + k)) _ (fun v hv => OB.out v hv) Tryd.underlying27 rfl (sizeE _)) (by with_reducible assumption) ?_
  simp only [Act.put, List.setIfInBounds_toArray, List.set_cons_zero, List.set_cons_succ, List.getElem_toArray, List.getElem_cons_zero, List.getElem_cons_succ]
  refine wpAnyH_take (i := 11) (v := ?_) rfl (by kernel_rfl) (by kernel_rfl) (by kernel_rfl) (fun _ _ _ h => h) (Or.inl ⟨by rfl, fun v hv => ?_⟩) (by with_reducible assumption) ?_
  rotate_left
  · go_simp
    try with_reducible rfl
  simp only [Act.put, List.setIfInBounds_toArray, List.set_cons_zero, List.set_cons_succ, List.getElem_toArray, List.getElem_cons_zero, List.getElem_cons_succ]
  refine wpAnyH_take (i := 12) (v := ?_) rfl (by kernel_rfl) (by kernel_rfl) (by kernel_rfl) (fun _ _ _ h => h) (Or.inl ⟨by rfl, fun v hv => ?_⟩) (by with_reducible assumption) ?_
  rotate_left
  · go_simp
    try with_reducible rfl
  simp only [Act.put, List.setIfInBounds_toArray, List.set_cons_zero, List.set_cons_succ, List.getElem_toArray, List.getElem_cons_zero, List.getElem_cons_succ]
  refine wpAnyH_take (i := 13) (v := ?_) rfl (by kernel_rfl) (by kernel_rfl) (by kernel_rfl) (fun _ _ _ h => h) (Or.inl ⟨by rfl, fun v hv => ?_⟩) (by with_reducible assumption) ?_
  rotate_left
  · go_simp
    try with_reducible rfl
  simp only [Act.put, List.setIfInBounds_toArray, List.set_cons_zero, List.set_cons_succ, List.getElem_toArray, List.getElem_cons_zero, List.getElem_cons_succ]
  refine wpAnyH_take (i := 14) (v := ?_) rfl (by kernel_rfl) (by kernel_rfl) (by kernel_rfl) (fun _ _ _ h => h) (Or.inl ⟨by rfl, fun v hv => ?_⟩) (by with_reducible assumption) ?_
  rotate_left
  · go_simp
    try with_reducible rfl
  simp only [Act.put, List.setIfInBounds_toArray, List.set_cons_zero, List.set_cons_succ, List.getElem_toArray, List.getElem_cons_zero, List.getElem_cons_succ]
  refine wpAnyH_take (i := 15) (v := .agg (wds 4 fun k => f (p * 12 + s * 4 + k)).toArray) rfl (by kernel_rfl) (by kernel_rfl) (by kernel_rfl) (fun _ _ _ h => h) (yieldsIf_load_mid (by rfl) 27 (.tmp 35) rfl (w.heap.size) (p * 12 + s * 4) rfl (wds 4 fun k => f (p * 12 + s * 4 + k)) _ (fun v hv => OC.out v hv) Tryd.underlying27 rfl (sizeE _)) (by with_reducible assumption) ?_
  simp only [Act.put, List.setIfInBounds_toArray, List.set_cons_zero, List.set_cons_succ, List.getElem_toArray, List.getElem_cons_zero, List.getElem_cons_succ]
  refine wpAnyH_take (i := 16) (v := ?_) rfl (by kernel_rfl) (by kernel_rfl) (by kernel_rfl) (fun _ _ _ h => h) (Or.inl ⟨by rfl, fun v hv => ?_⟩) (by with_reducible assumption) ?_
  rotate_left
  · go_simp
    try with_reducible rfl
  simp only [Act.put, List.setIfInBounds_toArray, List.set_cons_zero, List.set_cons_succ, List.getElem_toArray, List.getElem_cons_zero, List.getElem_cons_succ]
  refine wpAnyH_take (i := 17) (v := ?_) rfl (by kernel_rfl) (by kernel_rfl) (by kernel_rfl) (fun _ _ _ h => h) (Or.inl ⟨by rfl, fun v hv => ?_⟩) (by with_reducible assumption) ?_
  rotate_left
  · go_simp
    try with_reducible rfl
  simp only [Act.put, List.setIfInBounds_toArray, List.set_cons_zero, List.set_cons_succ, List.getElem_toArray, List.getElem_cons_zero, List.getElem_cons_succ]
  refine wpAnyH_take (i := 18) (v := ?_) rfl (by kernel_rfl) (by kernel_rfl) (by kernel_rfl) (fun _ _ _ h => h) (Or.inl ⟨by rfl, fun v hv => ?_⟩) (by with_reducible assumption) ?_
  rotate_left
  · go_simp
    try with_reducible rfl
  simp only [Act.put, List.setIfInBounds_toArray, List.set_cons_zero, List.set_cons_succ, List.getElem_toArray, List.getElem_cons_zero, List.getElem_cons_succ]
  refine wpAnyH_take (i := 19) (v := ?_) rfl (by kernel_rfl) (by kernel_rfl) (by kernel_rfl) (fun _ _ _ h => h) (Or.inl ⟨by rfl, fun v hv => ?_⟩) (by with_reducible assumption) ?_
  rotate_left
  · go_simp
    try with_reducible rfl
  simp only [Act.put, List.setIfInBounds_toArray, List.set_cons_zero, List.set_cons_succ, List.getElem_toArray, List.getElem_cons_zero, List.getElem_cons_succ]
  refine wpAnyH_take (i := 20) (v := .agg (wds 4 fun k => f (q * 12 + r * 4 + k)).toArray) rfl (by kernel_rfl) (by kernel_rfl) (by kernel_rfl) (fun _ _ _ h => h) (yieldsIf_load_mid (by rfl) 27 (.tmp 40) rfl (w.heap.size) (q * 12 + r * 4) rfl (wds 4 fun k => f (q * 12 + r * 4 + k)) _ (fun v hv => OD.out v hv) Tryd.underlying27 rfl (sizeE _)) (by with_reducible assumption) ?_
  simp only [Act.put, List.setIfInBounds_toArray, List.set_cons_zero, List.set_cons_succ, List.getElem_toArray, List.getElem_cons_zero, List.getElem_cons_succ]
  refine wpAnyH_ready (rs := [10]) (by kernel_rfl) (by simp) ?_
  refine (AllReadyH.cons rfl (fun K hK => ?_) AllReadyH.nil)
  go_simp
  go_at_call 17
  with_reducible refine (emulZ_c _ _ _ _ w2.drew EA.out EB.out (HG.out.up hb)).mono ?_
  rintro e wq1 ⟨_, rfl, he1, hbq1⟩
  have h1_q1 := (h1).up hbq1
  have h2_q1 := (h2).up hbq1
  have b_q1 := bchain hb hbq1
  try dsimp only
  refine hK.out _ _ (h1_q1) (fun hHeld => ?_)
  clear hK K
  try simp only [Act.put, List.setIfInBounds_toArray, List.set_cons_zero, List.set_cons_succ, List.getElem_toArray, List.getElem_cons_zero, List.getElem_cons_succ]
  refine wpAnyH_ready (rs := [21]) (by kernel_rfl) (by simp) ?_
  refine (AllReadyH.cons rfl (fun K hK => ?_) AllReadyH.nil)
  go_simp
  go_at_call 17
  with_reducible refine (emulZ_c _ _ _ _ wq1 EC.out ED.out (HG.out.up b_q1)).mono ?_
  rintro e wq2 ⟨_, rfl, he2, hbq2⟩
  have h1_q2 := (h1_q1).up hbq2
  have h2_q2 := (h2_q1).up hbq2
  have b_q2 := bchain b_q1 hbq2
  try dsimp only
  refine hK.out _ _ (h1_q2) (fun hHeld => ?_)
  clear hK K
  try simp only [Act.put, List.setIfInBounds_toArray, List.set_cons_zero, List.set_cons_succ, List.getElem_toArray, List.getElem_cons_zero, List.getElem_cons_succ]
  refine wpAnyH_ready (rs := [22]) (by kernel_rfl) (by simp) ?_
  refine (AllReadyH.cons rfl (fun K hK => ?_) AllReadyH.nil)
  go_simp
  go_at_call 38
  with_reducible refine (esubZ_c _ _ _ _ wq2 he1 he2 (HG.out.up b_q2)).mono ?_
  rintro e wq3 ⟨_, rfl, he3, hbq3⟩
  have h1_q3 := (h1_q2).up hbq3
  have h2_q3 := (h2_q2).up hbq3
  have b_q3 := bchain b_q2 hbq3
  obtain ⟨gr, rfl⟩ := he3.fn
  try dsimp only
  refine hK.out _ _ (h1_q3) (fun hHeld => ?_)
  clear hK K
  try simp only [Act.put, List.setIfInBounds_toArray, List.set_cons_zero, List.set_cons_succ, List.getElem_toArray, List.getElem_cons_zero, List.getElem_cons_succ]
  refine wpAnyH_ready (rs := [23]) (by kernel_rfl) (by simp) ?_
  refine (AllReadyH.cons rfl (fun K hK => ?_) AllReadyH.nil)
  refine ready_go (by rfl) ?_
  refine wp_store_mid 27 (.tmp 6) (.tmp 43) rfl (w.heap.size + 1) (0) (wds 4 gr).toArray rfl rfl ((h2_q3).thereW 0 4 gr (by decide)) (sizeEA _) (wds_all _ _) ?_
  have HR := hid ((h2_q3).lay0 gr).range
  have hxq4 := BlkV.put (show w.heap.size ≠ w.heap.size + 1 by omega) (wds 4 gr) 0 _ (h1_q3)
  have hyq4 := below_cells (show w.heap.size ≤ w.heap.size + 1 by omega) (wds 4 gr) 0 _ (b_q3)
  refine hK.out _ _ (hxq4) (fun hHeld => ?_)
  clear hK K
  try simp only [Act.put, List.setIfInBounds_toArray, List.set_cons_zero, List.set_cons_succ, List.getElem_toArray, List.getElem_cons_zero, List.getElem_cons_succ]
  refine wpAnyH_done (by kernel_rfl) ?_ _
  go_wp2_with fail
  refine bodyPost_ret (results_cell1 Tryd.results37 ⟨w.heap.size + 1, 0, none⟩ _ rfl (run_loadVar_mid _ (w.heap.size + 1) 0 27 (wds 4 gr) _ HR.out Tryd.underlying27 rfl (sizeE _))) rfl ?_
  exact ⟨_, rfl, he3, hyq4⟩
end Go.Proofs.YtdepkfdceidikaaDoor
