/-
  matrix.Vector.times, Matrix.Apply: what each call does.
-/
import Derived.Test.YtdepkfdceidikaaDoorMxC
namespace Go.Proofs.YtdepkfdceidikaaDoor
open Go.RowKit
set_option linter.unusedVariables false
set_option linter.unusedSimpArgs false


/-- The sum of the first k products. -/
def dotZ (X Y : Nat → Int) : Nat → Int
  | 0 => 0
  | k + 1 => dotZ X Y k + X k * Y k
def EP (X : Int) (s : Nat → Int) : Prop := Ez (.agg (wds 4 s).toArray) X
theorem EP.put {X : Int} {s g : Nat → Int} (hg : Ez (.agg (wds 4 g).toArray) X) : EP X (fput s 0 4 g) := by
  unfold EP
  rw [wds_ext (g := g) fun k hk => by have := @fput_in s g 0 4 k hk; rwa [Nat.zero_add] at this]
  exact hg
theorem EP.zero : EP 0 z0 := (Ef.zero 0).one'
set_option maxRecDepth 20000 in
set_option maxHeartbeats 1000000 in
theorem times_c (f g : Nat → Int) (X Y : Nat → Int) (w : World) (hX : VecZ f X) (hY : VecZ g Y) (hG : Glob w) :
    Calls Tryd.prog 34 #[.agg (wds 12 f).toArray, .agg (wds 12 g).toArray] w fun e w' => ∃ r, e = .returned r ∧ Ez r (dotZ X Y 3) ∧ Below w.heap.size w w' := by
  have hz := zeroE
  have hlz := wds_len 4 z0
  have hlf := wds_len 12 f
  have hlg := wds_len 12 g
  have e1 : (w.alloc (oF 38 12 f)).heap.size = w.heap.size + 1 := by simp
  have e2 : ((w.alloc (oF 38 12 f)).alloc (oF 38 12 g)).heap.size = w.heap.size + 1 + 1 := by simp
  have e3 : (((w.alloc (oF 38 12 f)).alloc (oF 38 12 g)).alloc (oF 27 4 z0)).heap.size = w.heap.size + 1 + 1 + 1 := by simp
  have h1 := (((oF_new w 38 12 f).alloc (oF 38 12 g)).alloc (oF 27 4 z0)).alloc (oF 27 4 z0)
  have h2 := ((oF_new (w.alloc (oF 38 12 f)) 38 12 g).alloc (oF 27 4 z0)).alloc (oF 27 4 z0)
  have h3 := (oF_new ((w.alloc (oF 38 12 f)).alloc (oF 38 12 g)) 27 4 z0).alloc (oF 27 4 z0)
  have h4 := oF_new (((w.alloc (oF 38 12 f)).alloc (oF 38 12 g)).alloc (oF 27 4 z0)) 27 4 z0
  rw [e1] at h2
  rw [e2] at h3
  rw [e3] at h4
  have hb := ((((Below.refl w.heap.size w).alloc (Nat.le_refl _) (oF 38 12 f)).alloc (by omega) (oF 38 12 g)).alloc (by omega) (oF 27 4 z0)).alloc (by omega) (oF 27 4 z0)
  have HO := hid h1.range
  have R0 := hid (show FRel w (w.heap.size + 1 + 1 + 1) 27 4 (EP (dotZ X Y 0)) (w.heap.size + 1 + 1) 27 4 (w.heap.size + 1) 38 (wds 12 g) _ from ⟨⟨z0, h4, EP.zero⟩, h3, h2, hb⟩)
  have HX := hid hX
  have HY := hid hY
  have HG := hid hG
  clear h1 h2 h3 h4 hX hY hG e1 e2 e3 hb
  unfold oF at HO R0
  go_enter Tryd.func34, Tryd.ntmps34
  go_wp2_with (first
    | with_reducible refine wpList_load_mid rfl 38 (.tmp 2) rfl (w.heap.size) (0) rfl (wds 12 f) _ (by with_reducible exact HO.out) Tryd.underlying38 rfl (sizeV _) ?_)
  clear HO
  generalize ((((w.alloc _).alloc _).alloc _).alloc _) = w0 at *
  go_loopw [9] (fun i wr => ∃ k : Nat, k ≤ 3 ∧ i = .int .i64 k ∧ FRel w (w.heap.size + 1 + 1 + 1) 27 4 (EP (dotZ X Y k)) (w.heap.size + 1 + 1) 27 4 (w.heap.size + 1) 38 (wds 12 g) wr) (fun i _ => 3 - (intOf i).toNat)
  case atStart => exact ⟨0, by omega, rfl, R0.out⟩
  case round =>
    clear R0
    obtain ⟨k, hk, rfl, hrel⟩ := hrel
    by_cases hlt : k < 3
    · have i0 : (0 : Int) ≤ (k : Int) := by omega
      have i2 : (k : Int) < 3 := by omega
      have hix := index_v wr f hlt
      obtain ⟨a, ha⟩ : ∃ a : Nat → Int, a = fun m => f (k * 4 + m) := ⟨_, rfl⟩
      obtain ⟨c, hc⟩ : ∃ c : Nat → Int, c = fun m => g (k * 4 + m) := ⟨_, rfl⟩
      rw [← ha] at hix
      have HA : Hid (Ez (.agg (wds 4 a).toArray) (X k)) := by rw [ha]; exact HX.out.el hlt
      have HC : Hid (Ez (.agg (wds 4 c).toArray) (Y k)) := by rw [hc]; exact HY.out.el hlt
      obtain ⟨n1, n2, n3⟩ := newRow wr 27 4 a
      have hr1 := hrel.up n3
      have hlt1 := hrel.b.size
      have N1 := hid n1
      have hla := wds_len 4 a
      have hco := hr1.x.sub (k * 4) 4 (by omega)
      rw [← hc] at hco
      have HSb : Hid (∀ v, BlkV v (w.heap.size + 1) 38 (wds 12 g) → v.rangeAt (w.heap.size + 1) (k * 4) (wds 4 c)) := fun v hv => by rw [hc]; exact hv.sub (k * 4) 4 (by omega)
      obtain ⟨s, hs1, hs2⟩ := hr1.o
      have HS2 : Hid (Ez (.agg (wds 4 s).toArray) (dotZ X Y k)) := hid hs2
      have HN2 := hid n2
      have HR1 := hid hr1
      have HS1 := hid hs1
      have LT : Hid (w.heap.size + 1 + 1 + 1 < wr.heap.size) := by obtain ⟨_, h, _⟩ := hrel.o; exact h.size
      clear n1 n2 n3 hrel hr1 ha hc hco hs1 hs2
      unfold oF at N1 HN2 HR1 HS1
      go_wp2_with (first
    | with_reducible refine wpList_store_mid rfl 27 (.tmp 7) (.tmp 12) rfl (wr.heap.size) (0) (wds 4 a).toArray rfl rfl (by with_reducible exact N1.out) (sizeEA _) (wds_all _ _) ?_)

      obtain ⟨w1, hw1⟩ : ∃ v, v = (wr.alloc (.cells (wds 4 z0).toArray 27)).setCells wr.heap.size 0 (wds 4 a) := ⟨_, rfl⟩
      rw [← hw1] at HN2 HR1 HS1 ⊢
      obtain ⟨bt, hbt⟩ : ∃ b, b = wr.heap.size := ⟨_, rfl⟩
      rw [← hbt] at HN2 LT ⊢
      have hlt2 : w.heap.size + 1 + 1 + 1 < bt := LT.out
      clear hw1 hbt N1
      have hr0 := FRel.up HR1.out (Below.refl _ _).drew
      have hn0 := HN2.out.up (Below.refl _ _).drew
      have hs0 := HS1.out.up (Below.refl _ _).drew
      refine wp_region_held_drew (S := fun v => BlkV v (w.heap.size + 1) 38 (wds 12 g) ∧ BlkV v bt 27 (wds 4 a)) (by kernel_rfl) ⟨(hr0).x, hn0⟩ (fun hHeld => ?_)
      refine wpAnyH_take (i := 1) (v := .agg (wds 4 a).toArray) rfl (by kernel_rfl) (by kernel_rfl) (by kernel_rfl) (fun _ _ _ h => h) (yieldsIf_load_mid (by rfl) 27 (.tmp 7) rfl (bt) (0) rfl (wds 4 a) _ (fun v hv => hv.2.range) Tryd.underlying27 rfl (sizeE _)) (by with_reducible assumption) ?_
      simp only [Act.put, List.setIfInBounds_toArray, List.set_cons_zero, List.set_cons_succ, List.getElem_toArray, List.getElem_cons_zero, List.getElem_cons_succ]
      refine wpAnyH_take (i := 2) (v := ?_) rfl (by kernel_rfl) (by kernel_rfl) (by kernel_rfl) (fun _ _ _ h => h) (Or.inl ⟨by rfl, fun v hv => ?_⟩) (by with_reducible assumption) ?_
      rotate_left
      · go_simp
        try with_reducible rfl
      simp only [Act.put, List.setIfInBounds_toArray, List.set_cons_zero, List.set_cons_succ, List.getElem_toArray, List.getElem_cons_zero, List.getElem_cons_succ]
      refine wpAnyH_take (i := 3) (v := ?_) rfl (by kernel_rfl) (by kernel_rfl) (by kernel_rfl) (fun _ _ _ h => h) (Or.inl ⟨by rfl, fun v hv => ?_⟩) (by with_reducible assumption) ?_
      rotate_left
      · go_simp
        try with_reducible rfl
      simp only [Act.put, List.setIfInBounds_toArray, List.set_cons_zero, List.set_cons_succ, List.getElem_toArray, List.getElem_cons_zero, List.getElem_cons_succ]
      refine wpAnyH_take (i := 4) (v := .agg (wds 4 c).toArray) rfl (by kernel_rfl) (by kernel_rfl) (by kernel_rfl) (fun _ _ _ h => h) (yieldsIf_load_mid (by rfl) 27 (.tmp 16) rfl (w.heap.size + 1) (k * 4) rfl (wds 4 c) _ (fun v hv => HSb.out v hv.1) Tryd.underlying27 rfl (sizeE _)) (by with_reducible assumption) ?_
      simp only [Act.put, List.setIfInBounds_toArray, List.set_cons_zero, List.set_cons_succ, List.getElem_toArray, List.getElem_cons_zero, List.getElem_cons_succ]
      refine wpAnyH_ready (rs := [0, 5]) (by kernel_rfl) (by simp) ?_
      refine (AllReadyH.cons rfl (fun K hK => ?_) (AllReadyH.cons rfl (fun K hK => ?_) AllReadyH.nil))
      · refine ready_go (by rfl) ?_
        refine wp_load_mid 27 (.tmp 5) rfl (w.heap.size + 1 + 1 + 1) (0) rfl (wds 4 s) _ ((hs0).range) Tryd.underlying27 rfl (sizeE _) ?_
        refine hK.out _ _ (⟨(hr0).x, hn0⟩) (fun hHeld => ?_)
        clear hK K
        try simp only [Act.put, List.setIfInBounds_toArray, List.set_cons_zero, List.set_cons_succ, List.getElem_toArray, List.getElem_cons_zero, List.getElem_cons_succ]
        refine wpAnyH_ready (rs := [5]) (by kernel_rfl) (by simp) ?_
        refine (AllReadyH.cons rfl (fun K hK => ?_) AllReadyH.nil)
        go_simp
        go_at_call 17
        with_reducible refine (emulZ_c _ _ _ _ w1.drew HA.out HC.out (HG.out.up (hr0).b)).mono ?_
        rintro e wq2 ⟨_, rfl, he1, hbq2⟩
        have hr_q2 := (hr0).up hbq2
        have hn_q2 := (hn0).up hbq2
        have hs_q2 := (hs0).up hbq2
        try dsimp only
        refine hK.out _ _ (⟨(hr_q2).x, hn_q2⟩) (fun hHeld => ?_)
        clear hK K
        try simp only [Act.put, List.setIfInBounds_toArray, List.set_cons_zero, List.set_cons_succ, List.getElem_toArray, List.getElem_cons_zero, List.getElem_cons_succ]
        refine wpAnyH_ready (rs := [6]) (by kernel_rfl) (by simp) ?_
        refine (AllReadyH.cons rfl (fun K hK => ?_) AllReadyH.nil)
        go_simp
        go_at_call 39
        with_reducible refine (eaddZ_c _ _ _ _ wq2 HS2.out he1 (HG.out.up (hr_q2).b)).mono ?_
        rintro e wq3 ⟨_, rfl, he2, hbq3⟩
        have hr_q3 := (hr_q2).up hbq3
        have hn_q3 := (hn_q2).up hbq3
        have hs_q3 := (hs_q2).up hbq3
        obtain ⟨gr, rfl⟩ := he2.fn
        try dsimp only
        refine hK.out _ _ (⟨(hr_q3).x, hn_q3⟩) (fun hHeld => ?_)
        clear hK K
        try simp only [Act.put, List.setIfInBounds_toArray, List.set_cons_zero, List.set_cons_succ, List.getElem_toArray, List.getElem_cons_zero, List.getElem_cons_succ]
        refine wpAnyH_ready (rs := [7]) (by kernel_rfl) (by simp) ?_
        refine (AllReadyH.cons rfl (fun K hK => ?_) AllReadyH.nil)
        refine ready_go (by rfl) ?_
        refine wp_store_mid 27 (.tmp 5) (.tmp 19) rfl (w.heap.size + 1 + 1 + 1) (0) (wds 4 gr).toArray rfl rfl ((hr_q3).there 0 4 gr (by decide)) (sizeEA _) (wds_all _ _) ?_
        have hstq4 := (hr_q3).set (P' := EP (dotZ X Y (k + 1))) 0 4 gr (by decide) (by omega) (by omega) (by omega) (fun _ _ => EP.put he2)
        have hnstq4 := BlkV.put (show bt ≠ w.heap.size + 1 + 1 + 1 by omega) (wds 4 gr) 0 _ hn_q3
        refine hK.out _ _ (⟨(hstq4).x, hnstq4⟩) (fun hHeld => ?_)
        clear hK K
        try simp only [Act.put, List.setIfInBounds_toArray, List.set_cons_zero, List.set_cons_succ, List.getElem_toArray, List.getElem_cons_zero, List.getElem_cons_succ]
        refine wpAnyH_done (by kernel_rfl) ?_ _
        go_wp2_with fail
        go_roundw
        case rel => exact ⟨k + 1, by omega, by go_num, hstq4⟩
        case measure => simp [intOf]; omega
      · go_simp
        go_at_call 17
        with_reducible refine (emulZ_c _ _ _ _ w1.drew HA.out HC.out (HG.out.up (hr0).b)).mono ?_
        rintro e wq5 ⟨_, rfl, he1, hbq5⟩
        have hr_q5 := (hr0).up hbq5
        have hn_q5 := (hn0).up hbq5
        have hs_q5 := (hs0).up hbq5
        try dsimp only
        refine hK.out _ _ (⟨(hr_q5).x, hn_q5⟩) (fun hHeld => ?_)
        clear hK K
        try simp only [Act.put, List.setIfInBounds_toArray, List.set_cons_zero, List.set_cons_succ, List.getElem_toArray, List.getElem_cons_zero, List.getElem_cons_succ]
        refine wpAnyH_ready (rs := [0]) (by kernel_rfl) (by simp) ?_
        refine (AllReadyH.cons rfl (fun K hK => ?_) AllReadyH.nil)
        refine ready_go (by rfl) ?_
        refine wp_load_mid 27 (.tmp 5) rfl (w.heap.size + 1 + 1 + 1) (0) rfl (wds 4 s) _ ((hs_q5).range) Tryd.underlying27 rfl (sizeE _) ?_
        refine hK.out _ _ (⟨(hr_q5).x, hn_q5⟩) (fun hHeld => ?_)
        clear hK K
        try simp only [Act.put, List.setIfInBounds_toArray, List.set_cons_zero, List.set_cons_succ, List.getElem_toArray, List.getElem_cons_zero, List.getElem_cons_succ]
        refine wpAnyH_ready (rs := [6]) (by kernel_rfl) (by simp) ?_
        refine (AllReadyH.cons rfl (fun K hK => ?_) AllReadyH.nil)
        go_simp
        go_at_call 39
        with_reducible refine (eaddZ_c _ _ _ _ wq5 HS2.out he1 (HG.out.up (hr_q5).b)).mono ?_
        rintro e wq7 ⟨_, rfl, he2, hbq7⟩
        have hr_q7 := (hr_q5).up hbq7
        have hn_q7 := (hn_q5).up hbq7
        have hs_q7 := (hs_q5).up hbq7
        obtain ⟨gr, rfl⟩ := he2.fn
        try dsimp only
        refine hK.out _ _ (⟨(hr_q7).x, hn_q7⟩) (fun hHeld => ?_)
        clear hK K
        try simp only [Act.put, List.setIfInBounds_toArray, List.set_cons_zero, List.set_cons_succ, List.getElem_toArray, List.getElem_cons_zero, List.getElem_cons_succ]
        refine wpAnyH_ready (rs := [7]) (by kernel_rfl) (by simp) ?_
        refine (AllReadyH.cons rfl (fun K hK => ?_) AllReadyH.nil)
        refine ready_go (by rfl) ?_
        refine wp_store_mid 27 (.tmp 5) (.tmp 19) rfl (w.heap.size + 1 + 1 + 1) (0) (wds 4 gr).toArray rfl rfl ((hr_q7).there 0 4 gr (by decide)) (sizeEA _) (wds_all _ _) ?_
        have hstq8 := (hr_q7).set (P' := EP (dotZ X Y (k + 1))) 0 4 gr (by decide) (by omega) (by omega) (by omega) (fun _ _ => EP.put he2)
        have hnstq8 := BlkV.put (show bt ≠ w.heap.size + 1 + 1 + 1 by omega) (wds 4 gr) 0 _ hn_q7
        refine hK.out _ _ (⟨(hstq8).x, hnstq8⟩) (fun hHeld => ?_)
        clear hK K
        try simp only [Act.put, List.setIfInBounds_toArray, List.set_cons_zero, List.set_cons_succ, List.getElem_toArray, List.getElem_cons_zero, List.getElem_cons_succ]
        refine wpAnyH_done (by kernel_rfl) ?_ _
        go_wp2_with fail
        go_roundw
        case rel => exact ⟨k + 1, by omega, by go_num, hstq8⟩
        case measure => simp [intOf]; omega
    · obtain rfl : k = 3 := by omega
      obtain ⟨⟨r, h1, h2⟩, h3, h4, h5⟩ := hrel
      have HO := hid h1.range
      have HV := hid h2
      have HT := hid (h3.thereW 0 4 r (by decide))
      have HR := hid (h3.lay0 r).range
      have HB := hid (below_cells (show w.heap.size ≤ w.heap.size + 1 + 1 by omega) (wds 4 r) 0 _ h5)
      clear h1 h2 h3 h4 h5 HX HY HG
      go_wp2_with (first
    | with_reducible refine wpList_load_mid rfl 27 (.tmp 5) rfl (w.heap.size + 1 + 1 + 1) (0) rfl (wds 4 r) _ (by with_reducible exact HO.out) Tryd.underlying27 rfl (sizeE _) ?_
    | with_reducible refine wpList_store_mid rfl 27 (.tmp 4) (.tmp 21) rfl (w.heap.size + 1 + 1) (0) (wds 4 r).toArray rfl rfl (by with_reducible exact HT.out) (sizeEA _) (wds_all _ _) ?_)
      refine bodyPost_ret (results_cell1 Tryd.results34 ⟨w.heap.size + 1 + 1, 0, none⟩ _ rfl (run_loadVar_mid _ (w.heap.size + 1 + 1) 0 27 (wds 4 r) _ HR.out Tryd.underlying27 rfl (sizeE _))) rfl ?_
      exact ⟨_, rfl, HV.out, HB.out⟩
end Go.Proofs.YtdepkfdceidikaaDoor
