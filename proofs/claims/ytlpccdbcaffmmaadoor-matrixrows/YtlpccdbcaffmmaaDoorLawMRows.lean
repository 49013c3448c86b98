/-
  avouchlaw09.MatrixRows: the walk.
-/
import Derived.Test.YtlpccdbcaffmmaaDoorLawMReck
namespace Go.Proofs.YtlpccdbcaffmmaaDoor
open Go.RowKit
set_option linter.unusedVariables false
set_option linter.unusedSimpArgs false


theorem MatZ.putRow {f g : Nat → Int} {M : MZ} {V : Nat → Int} {x : Nat} (h : MatZ f M) (hg : VecZ g V) (hx : x < 3) : MatZ (fput f (x * 12) 12 g) (fun i => if i = x then V else M i) := by
  refine ⟨fun i j hi hj => ?_⟩
  by_cases e : i = x
  · subst e
    rw [if_pos rfl]
    exact (hg.at_ j hj).unshift (by omega)
  · rw [if_neg e]
    exact (h.at_ i j hi hj).putO (by omega)
theorem turn_eq (M : MZ) (x y : Nat) (h : x ≠ y) : (fun i => if i = y then M x else (if i = x then M y else M i)) = mzTurn M x y := by
  funext i
  unfold mzTurn
  by_cases h1 : i = x
  · rw [if_pos h1, if_neg (by omega), if_pos h1]
  · by_cases h2 : i = y
    · rw [if_pos h2, if_neg h1, if_pos h2]
    · rw [if_neg h2, if_neg h1, if_neg h1, if_neg h2]
/-- The first k elements of row x are multiplied. -/
def tmK (M : MZ) (x : Nat) (e : Int) (k : Nat) : MZ := fun i j => if i = x ∧ j < k then M x j * e else M i j
theorem tmK_end (M : MZ) (x : Nat) (e : Int) : ∀ i j, i < 3 → j < 3 → tmK M x e 3 i j = mzTimes M x e i j := fun i j hi hj => by
  unfold tmK mzTimes
  by_cases h : i = x
  · rw [if_pos ⟨h, hj⟩, if_pos h]
  · rw [if_neg (fun q => h q.1), if_neg h]
theorem tmK_put {M : MZ} {x k : Nat} {e : Int} {s g : Nat → Int} (h : MatZ s (tmK M x e k)) (hx : x < 3) (hk : k < 3) (hg : Ez (.agg (wds 4 g).toArray) (M x k * e)) : MatZ (fput s (x * 12 + k * 4) 4 g) (tmK M x e (k + 1)) := by
  refine ⟨fun i j hi hj => ?_⟩
  by_cases c : i = x ∧ j = k
  · obtain ⟨rfl, rfl⟩ := c
    have e1 : tmK M i e (j + 1) i j = M i j * e := if_pos ⟨rfl, Nat.lt_succ_self j⟩
    rw [e1]
    exact Ef.put _ hg
  · have e1 : tmK M x e (k + 1) i j = tmK M x e k i j := by
      unfold tmK
      by_cases c2 : i = x ∧ j < k
      · rw [if_pos c2, if_pos ⟨c2.1, by omega⟩]
      · rw [if_neg c2, if_neg (fun q => by
          rcases Nat.lt_or_ge j k with q2 | q2
          · exact c2 ⟨q.1, q2⟩
          · exact c ⟨q.1, by omega⟩)]
    rw [e1]
    exact (h.at_ i j hi hj).putO (by omega)
theorem tmK_zero (M : MZ) (x : Nat) (e : Int) : ∀ i j, i < 3 → j < 3 → M i j = tmK M x e 0 i j := fun i j _ _ => by
  unfold tmK
  rw [if_neg (fun q => absurd q.2 (Nat.not_lt_zero j))]
theorem tmK_at (M : MZ) (x : Nat) (e : Int) (k : Nat) : tmK M x e k x k = M x k := if_neg (fun q => Nat.lt_irrefl k q.2)
theorem good_zero {M : MZ} (h : mzDet M = 0) : anyZ (minorsL M) 19 = true := by
  show (anyZ (minorsL M) 18 || decide ((minorsL M).getD 18 0 % pZ = 0)) = true
  rw [minors_e, h]
  simp
theorem goodF_c (f : Nat → Int) (M : MZ) (w : World) (hM : MatZ f M) (hG : Glob w) (h : mzDet M = 0) : Calls Tryd.prog 22 #[.agg (wds 36 f).toArray] w fun e w' => e = .returned (.bool false) ∧ Below w.heap.size w w' := by
  have k := good_c f M w hM hG
  rw [good_zero h] at k
  exact k
/-- A length of a row that is returned. -/
theorem len19 : ((19 : Int) == 19) = true := rfl
set_option maxRecDepth 40000 in
set_option maxHeartbeats 4000000 in
theorem matrixRows_w (A0 : Nat → Option Addr) (n0 c0 : Nat → Nat) (l0 : Nat → List Nat) (i j : Nat) (B : Option Addr) (nb cb : Nat) (lb : List Nat) (w : World) (hN0 : N9 w w.heap.size A0 n0 l0) (hi : i < 256) (hj : j < 256) (hB : Rd8 w w.heap.size B nb lb) (hG : Glob w) :
    Calls Tryd.prog 6 #[.agg (sls A0 n0 c0).toArray, .int .u8 (i : Int), .int .u8 (j : Int), .slice B nb cb] w fun e w' => e = .returned (.bool true) ∧ Below w.heap.size w w' := by
  have x0 := BlkV.new w 24 (sls A0 n0 c0)
  have hls0 := sls_len A0 n0 c0
  have HB := hid ((Below.refl w.heap.size w).alloc (Nat.le_refl _) (.cells (sls A0 n0 c0).toArray 24))
  have HX0 := hid x0
  have HN0 := hid hN0
  have HG := hid hG
  clear x0 hN0 hG
  have HBy := hid hB
  clear hB
  by_cases hF0 : Few n0
  · go_enter Tryd.func6, Tryd.ntmps6
    go_wp2_with fail
    generalize (w.alloc _) = w0 at *
    refine (speaks9_c w0 (HG.out.up HB.out)).mono ?_
    rintro e w1 ⟨rfl, b1⟩
    have HX0' := hid (HX0.out.up b1)
    clear HX0
    have HX0 := HX0'
    clear HX0'
    have HB' := hid (bchain HB.out b1)
    clear HB
    have HB := HB'
    clear HB' b1
    go_wp2_with (first
    | refine wpList_load_midG (by rfl) 24 (.tmp 4) rfl (w.heap.size) 0 rfl (sls A0 n0 c0) _ (by with_reducible exact HX0.out.range) Tryd.underlying24 rfl (sizeNA _ _ _) ?_
    | fail)
    refine (few_t A0 n0 c0 w1 hF0).mono ?_
    rintro e w1f0 ⟨rfl, bf0⟩
    have HX0' := hid (HX0.out.up bf0)
    clear HX0
    have HX0 := HX0'
    clear HX0'
    have HB' := hid (bchain HB.out bf0)
    clear HB
    have HB := HB'
    clear HB' bf0
    by_cases hb40 : nb ≤ 40
    · have hd : decide ((nb : Int) > 40) = false := by simp; omega
      have hd2 : decide ((40 : Int) < (nb : Int)) = false := by simp; omega
      have hd3 : decide (40 < nb) = false := by simp; omega
      have hz := zeroM
      have hlz := wds_len 36 z0
      have hze := zeroE
      have hle := wds_len 4 z0
      go_wp2_with (first
    | with_reducible refine wpList_load_mid rfl 24 (.tmp 4) rfl (w.heap.size) 0 rfl (sls A0 n0 c0) _ (by with_reducible exact HX0.out.range) Tryd.underlying24 rfl (sizeNA _ _ _) ?_
    | fail)
      refine (of9_c A0 n0 c0 l0 w1f0 ((HN0.out.below HB.out (Nat.le_refl _)).more HB.out.size) hF0 (HG.out.up HB.out)).mono ?_
      rintro e wo0 ⟨f0, r0, rfl, hM0, hR0, bo0⟩
      obtain ⟨nn1, nn2, nn3⟩ := newRow wo0 34 36 f0
      have N1 := hid nn1
      have HM0 := hid hM0
      have HY0 := hid nn2
      have HR0 := hid (hR0.up nn3)
      have bb0 := bchain bo0 nn3
      have hlf0 := wds_len 36 f0
      clear nn1 nn2 nn3 hM0 hR0 bo0
      have HX0' := hid (HX0.out.up bb0)
      clear HX0
      have HX0 := HX0'
      clear HX0'
      have HB' := hid (bchain HB.out bb0)
      clear HB
      have HB := HB'
      clear HB' bb0
      clear HX0
      unfold oF at N1 HY0 HR0 HB
      go_wp2_with (first
    | with_reducible refine wpList_store_mid rfl 34 (.tmp 9) (.tmp 35) rfl (wo0.heap.size) (0) (wds 36 f0).toArray rfl rfl (by with_reducible exact N1.out) (sizeMA _) (wds_all _ _) ?_
    | with_reducible refine wpList_load_mid rfl 34 (.tmp 9) rfl (wo0.heap.size) (0) rfl (wds 36 f0) _ (by with_reducible exact HY0.out.range) Tryd.underlying34 rfl (sizeM _) ?_
    | fail)
      clear N1 HR0 hd hd2 hd3
      obtain ⟨bm, hbm⟩ : ∃ b, b = wo0.heap.size := ⟨_, rfl⟩
      rw [← hbm] at HY0 HB ⊢
      generalize ((wo0.alloc _).setCells _ _ _) = wm at *
      clear hbm
      refine (det_c f0 (nums l0) wm HM0.out (HG.out.up HB.out)).mono ?_
      rintro e wd ⟨u, rfl, hu, bd⟩
      obtain ⟨gd, rfl⟩ := hu.fn
      obtain ⟨nn1, nn2, nn3⟩ := newRow wd 30 4 gd
      have N1 := hid nn1
      have HD := hid hu
      have HZ := hid nn2
      have bdd := bchain bd nn3
      have hlgd := wds_len 4 gd
      clear nn1 nn2 nn3 hu bd
      have HY0' := hid (HY0.out.up bdd)
      clear HY0
      have HY0 := HY0'
      clear HY0'
      have HB' := hid (bchain HB.out bdd)
      clear HB
      have HB := HB'
      clear HB' bdd
      unfold oF at N1 HZ HY0 HB
      obtain ⟨x, hx⟩ : ∃ x, x = i % 3 := ⟨_, rfl⟩
      obtain ⟨y, hy⟩ : ∃ y, y = j % 3 := ⟨_, rfl⟩
      have ex1 : (i : Int) % 3 = (x : Int) := by omega
      have ex2 : (i : Int).tmod 3 = (x : Int) := by rw [Int.tmod_eq_emod_of_nonneg (by omega)]; exact ex1
      have ey1 : (j : Int) % 3 = (y : Int) := by omega
      have ey2 : (j : Int).tmod 3 = (y : Int) := by rw [Int.tmod_eq_emod_of_nonneg (by omega)]; exact ey1
      have x3 : x < 3 := by omega
      have y3 : y < 3 := by omega
      have i64 : IntKind.i64.wrap (i : Int) = (i : Int) := by rw [IntKind.wrap_i64]; omega
      have j64 : IntKind.i64.wrap (j : Int) = (j : Int) := by rw [IntKind.wrap_i64]; omega
      clear hx hy
      by_cases hxy : x = y
      · have hq1 : ((x : Int) == (y : Int)) = true := by simp; omega
        have hq2 : decide ((x : Int) = (y : Int)) = true := by simp; omega
        go_wp2_with (first
    | with_reducible refine wpList_store_mid rfl 30 (.tmp 11) (.tmp 38) rfl (wd.heap.size) (0) (wds 4 gd).toArray rfl rfl (by with_reducible exact N1.out) (sizeEA _) (wds_all _ _) ?_
    | with_reducible refine wpList_load_mid rfl 34 (.tmp 9) rfl (bm) (0) rfl (wds 36 f0) _ (by with_reducible exact HY0.out.range) Tryd.underlying34 rfl (sizeM _) ?_
    | fail)
        generalize ((wd.alloc _).setCells _ _ _) = we at *
        refine (minors_c f0 (nums l0) we HM0.out (HG.out.up HB.out)).mono ?_
        rintro e wf ⟨v, rfl, hP, bf⟩
        have hrd := hP.rd (by rw [minors_len]; decide)
        rw [minors_len] at hrd
        obtain ⟨Av, cv, rfl, _⟩ := hrd
        have HBF := hid (bchain HB.out bf)
        clear bf hP
        go_wp2
        go_ret
        exact ⟨rfl, HBF.out⟩
      · have hq1 : ((x : Int) == (y : Int)) = false := by simp; omega
        have hq2 : decide ((x : Int) = (y : Int)) = false := by simp; omega
        have hq3 : decide (x = y) = false := by simp; omega
        have x0 : (0 : Int) ≤ (x : Int) := by omega
        have xx3 : (x : Int) < 3 := by omega
        have y0 : (0 : Int) ≤ (y : Int) := by omega
        have yy3 : (y : Int) < 3 := by omega
        go_wp2_with (first
    | with_reducible refine wpList_store_mid rfl 30 (.tmp 11) (.tmp 38) rfl (wd.heap.size) (0) (wds 4 gd).toArray rfl rfl (by with_reducible exact N1.out) (sizeEA _) (wds_all _ _) ?_
    | fail)
        clear N1 ex1 ex2 ey1 ey2 i64 j64 hq1 hq2 hq3
        obtain ⟨be, hbe⟩ : ∃ b, b = wd.heap.size := ⟨_, rfl⟩
        rw [← hbe] at HZ HY0 HB ⊢
        generalize ((wd.alloc _).setCells _ _ _) = we at *
        clear hbe
        have lm := HY0.out.size
        have le' := HZ.out.size
        go_cut [14, 15, 16] (fun s t u wx => ∃ p q r, s = .pointer (some ⟨p, 0, none⟩) ∧ t = .pointer (some ⟨q, 0, none⟩) ∧ u = .pointer (some ⟨r, 0, none⟩) ∧ BlkV wx p 34 (wds 36 f0) ∧ BlkV wx q 34 (wds 36 f0) ∧ BlkV wx r 34 (wds 36 f0) ∧ we.heap.size ≤ p ∧ we.heap.size ≤ q ∧ we.heap.size ≤ r ∧ p ≠ q ∧ p ≠ r ∧ q ≠ r ∧ Below we.heap.size we wx)
        case first =>
          have hlf := wds_len 36 f0
          have hm0 := HY0.out.up (Below.refl _ _).drew
          have b0 : Below we.heap.size we we.drew := (Below.refl _ _).drew
          clear HB HG HN0 HM0 HD HZ HBy
          generalize hvd : we.drew = wd0 at *
          refine wp_region_held_drew (S := fun v => BlkV v bm 34 (wds 36 f0)) (by kernel_rfl) (by rw [hvd]; exact hm0) (fun hHeld => ?_)
          rw [hvd] at hHeld ⊢
          refine wpAnyH_take (i := 0) (v := .agg (wds 36 f0).toArray) rfl (by kernel_rfl) (by kernel_rfl) (by kernel_rfl) (fun _ _ _ h => h) (yieldsIf_load_mid (by rfl) 34 (.tmp 9) rfl (bm) (0) rfl (wds 36 f0) _ (fun v hv => hv.range) Tryd.underlying34 rfl (sizeM _)) (by with_reducible assumption) ?_
          simp only [Act.put, List.setIfInBounds_toArray, List.set_cons_zero, List.set_cons_succ, List.getElem_toArray, List.getElem_cons_zero, List.getElem_cons_succ]
          refine wpAnyH_take (i := 1) (v := .agg (wds 36 f0).toArray) rfl (by kernel_rfl) (by kernel_rfl) (by kernel_rfl) (fun _ _ _ h => h) (yieldsIf_load_mid (by rfl) 34 (.tmp 9) rfl (bm) (0) rfl (wds 36 f0) _ (fun v hv => hv.range) Tryd.underlying34 rfl (sizeM _)) (by with_reducible assumption) ?_
          simp only [Act.put, List.setIfInBounds_toArray, List.set_cons_zero, List.set_cons_succ, List.getElem_toArray, List.getElem_cons_zero, List.getElem_cons_succ]
          refine wpAnyH_take (i := 2) (v := .agg (wds 36 f0).toArray) rfl (by kernel_rfl) (by kernel_rfl) (by kernel_rfl) (fun _ _ _ h => h) (yieldsIf_load_mid (by rfl) 34 (.tmp 9) rfl (bm) (0) rfl (wds 36 f0) _ (fun v hv => hv.range) Tryd.underlying34 rfl (sizeM _)) (by with_reducible assumption) ?_
          simp only [Act.put, List.setIfInBounds_toArray, List.set_cons_zero, List.set_cons_succ, List.getElem_toArray, List.getElem_cons_zero, List.getElem_cons_succ]
          refine wpAnyH_ready (rs := [3, 4, 5]) (by kernel_rfl) (by simp) ?_
          refine (AllReadyH.cons rfl (fun K hK => ?_) (AllReadyH.cons rfl (fun K hK => ?_) (AllReadyH.cons rfl (fun K hK => ?_) AllReadyH.nil)))
          · have hbq1 := (Below.refl (wd0).heap.size (wd0)).alloc (Nat.le_refl _) (.cells (wds 36 z0).toArray 34)
            have ltmq1 := (hm0).size
            have m_q1 := (hm0).up hbq1
            have b_q1 := bchain b0 hbq1
            have lepq1 := (b0).size
            have zp_q1 : BlkV ((wd0).alloc (.cells (wds 36 z0).toArray 34)) (wd0).heap.size 34 (wds 36 z0) := BlkV.new (wd0) 34 (wds 36 z0)
            go_simp
            refine hK.out _ _ (m_q1) (fun hHeld => ?_)
            clear hK K hbq1
            try simp only [Act.put, List.setIfInBounds_toArray, List.set_cons_zero, List.set_cons_succ, List.getElem_toArray, List.getElem_cons_zero, List.getElem_cons_succ]
            generalize (wd0).alloc (.cells (wds 36 z0).toArray 34) = wq1 at *
            generalize (wd0).heap.size = ppq1 at *
            refine wpAnyH_ready (rs := [4, 5]) (by kernel_rfl) (by simp) ?_
            refine (AllReadyH.cons rfl (fun K hK => ?_) (AllReadyH.cons rfl (fun K hK => ?_) AllReadyH.nil))
            · have hbq2 := (Below.refl (wq1).heap.size (wq1)).alloc (Nat.le_refl _) (.cells (wds 36 z0).toArray 34)
              have ltmq2 := (m_q1).size
              have ltzpq2 := (zp_q1).size
              have m_q2 := (m_q1).up hbq2
              have b_q2 := bchain b_q1 hbq2
              have leqq2 := (b_q1).size
              have zp_q2 := (zp_q1).up hbq2
              have zq_q2 : BlkV ((wq1).alloc (.cells (wds 36 z0).toArray 34)) (wq1).heap.size 34 (wds 36 z0) := BlkV.new (wq1) 34 (wds 36 z0)
              go_simp
              refine hK.out _ _ (m_q2) (fun hHeld => ?_)
              clear hK K hbq2
              try simp only [Act.put, List.setIfInBounds_toArray, List.set_cons_zero, List.set_cons_succ, List.getElem_toArray, List.getElem_cons_zero, List.getElem_cons_succ]
              generalize (wq1).alloc (.cells (wds 36 z0).toArray 34) = wq2 at *
              generalize (wq1).heap.size = pqq2 at *
              refine wpAnyH_ready (rs := [5]) (by kernel_rfl) (by simp) ?_
              refine (AllReadyH.cons rfl (fun K hK => ?_) AllReadyH.nil)
              have hbq3 := (Below.refl (wq2).heap.size (wq2)).alloc (Nat.le_refl _) (.cells (wds 36 z0).toArray 34)
              have ltmq3 := (m_q2).size
              have ltzpq3 := (zp_q2).size
              have ltzqq3 := (zq_q2).size
              have m_q3 := (m_q2).up hbq3
              have b_q3 := bchain b_q2 hbq3
              have lerq3 := (b_q2).size
              have zp_q3 := (zp_q2).up hbq3
              have zq_q3 := (zq_q2).up hbq3
              have zr_q3 : BlkV ((wq2).alloc (.cells (wds 36 z0).toArray 34)) (wq2).heap.size 34 (wds 36 z0) := BlkV.new (wq2) 34 (wds 36 z0)
              go_simp
              refine hK.out _ _ (m_q3) (fun hHeld => ?_)
              clear hK K hbq3
              try simp only [Act.put, List.setIfInBounds_toArray, List.set_cons_zero, List.set_cons_succ, List.getElem_toArray, List.getElem_cons_zero, List.getElem_cons_succ]
              generalize (wq2).alloc (.cells (wds 36 z0).toArray 34) = wq3 at *
              generalize (wq2).heap.size = prq3 at *
              refine wpAnyH_ready (rs := [6]) (by kernel_rfl) (by simp) ?_
              refine (AllReadyH.cons rfl (fun K hK => ?_) AllReadyH.nil)
              refine ready_go (by rfl) ?_
              refine wp_store_mid 34 (.tmp 14) (.tmp 52) rfl ppq1 0 (wds 36 f0).toArray rfl rfl ((zp_q3).thereW 0 36 _ (by decide)) (sizeMA _) (wds_all _ _) ?_
              have m_q4 := BlkV.put (show bm ≠ ppq1 by omega) (wds 36 f0) 0 _ (m_q3)
              have b_q4 := below_cells lepq1 (wds 36 f0) 0 _ (b_q3)
              have zq_q4 := BlkV.put (show pqq2 ≠ ppq1 by omega) (wds 36 f0) 0 _ (zq_q3)
              have zr_q4 := BlkV.put (show prq3 ≠ ppq1 by omega) (wds 36 f0) 0 _ (zr_q3)
              have yp_q4 := (zp_q3).lay0 f0
              refine hK.out _ _ (m_q4) (fun hHeld => ?_)
              clear hK K
              try simp only [Act.put, List.setIfInBounds_toArray, List.set_cons_zero, List.set_cons_succ, List.getElem_toArray, List.getElem_cons_zero, List.getElem_cons_succ]
              try change wpAnyH _ _ _ _ _ _ _ (World.setCells (wq3) ppq1 0 (wds 36 f0))
              generalize World.setCells (wq3) ppq1 0 (wds 36 f0) = wq4 at *
              refine wpAnyH_ready (rs := [7]) (by kernel_rfl) (by simp) ?_
              refine (AllReadyH.cons rfl (fun K hK => ?_) AllReadyH.nil)
              refine ready_go (by rfl) ?_
              refine wp_store_mid 34 (.tmp 15) (.tmp 53) rfl pqq2 0 (wds 36 f0).toArray rfl rfl ((zq_q4).thereW 0 36 _ (by decide)) (sizeMA _) (wds_all _ _) ?_
              have m_q5 := BlkV.put (show bm ≠ pqq2 by omega) (wds 36 f0) 0 _ (m_q4)
              have b_q5 := below_cells leqq2 (wds 36 f0) 0 _ (b_q4)
              have zp_q5 := BlkV.put (show ppq1 ≠ pqq2 by omega) (wds 36 f0) 0 _ (yp_q4)
              have zr_q5 := BlkV.put (show prq3 ≠ pqq2 by omega) (wds 36 f0) 0 _ (zr_q4)
              have yq_q5 := (zq_q4).lay0 f0
              refine hK.out _ _ (m_q5) (fun hHeld => ?_)
              clear hK K
              try simp only [Act.put, List.setIfInBounds_toArray, List.set_cons_zero, List.set_cons_succ, List.getElem_toArray, List.getElem_cons_zero, List.getElem_cons_succ]
              try change wpAnyH _ _ _ _ _ _ _ (World.setCells (wq4) pqq2 0 (wds 36 f0))
              generalize World.setCells (wq4) pqq2 0 (wds 36 f0) = wq5 at *
              refine wpAnyH_ready (rs := [8]) (by kernel_rfl) (by simp) ?_
              refine (AllReadyH.cons rfl (fun K hK => ?_) AllReadyH.nil)
              refine ready_go (by rfl) ?_
              refine wp_store_mid 34 (.tmp 16) (.tmp 54) rfl prq3 0 (wds 36 f0).toArray rfl rfl ((zr_q5).thereW 0 36 _ (by decide)) (sizeMA _) (wds_all _ _) ?_
              have m_q6 := BlkV.put (show bm ≠ prq3 by omega) (wds 36 f0) 0 _ (m_q5)
              have b_q6 := below_cells lerq3 (wds 36 f0) 0 _ (b_q5)
              have zp_q6 := BlkV.put (show ppq1 ≠ prq3 by omega) (wds 36 f0) 0 _ (zp_q5)
              have zq_q6 := BlkV.put (show pqq2 ≠ prq3 by omega) (wds 36 f0) 0 _ (yq_q5)
              have yr_q6 := (zr_q5).lay0 f0
              refine hK.out _ _ (m_q6) (fun hHeld => ?_)
              clear hK K
              try simp only [Act.put, List.setIfInBounds_toArray, List.set_cons_zero, List.set_cons_succ, List.getElem_toArray, List.getElem_cons_zero, List.getElem_cons_succ]
              try change wpAnyH _ _ _ _ _ _ _ (World.setCells (wq5) prq3 0 (wds 36 f0))
              generalize World.setCells (wq5) prq3 0 (wds 36 f0) = wq6 at *
              refine wpAnyH_done (by kernel_rfl) ?_ _
              go_wp2_with fail
              go_meet
              exact ⟨_, _, _, rfl, rfl, rfl, zp_q6, zq_q6, yr_q6, by omega, by omega, by omega, by omega, by omega, by omega, b_q6⟩
            · have hbq7 := (Below.refl (wq1).heap.size (wq1)).alloc (Nat.le_refl _) (.cells (wds 36 z0).toArray 34)
              have ltmq7 := (m_q1).size
              have ltzpq7 := (zp_q1).size
              have m_q7 := (m_q1).up hbq7
              have b_q7 := bchain b_q1 hbq7
              have lerq7 := (b_q1).size
              have zp_q7 := (zp_q1).up hbq7
              have zr_q7 : BlkV ((wq1).alloc (.cells (wds 36 z0).toArray 34)) (wq1).heap.size 34 (wds 36 z0) := BlkV.new (wq1) 34 (wds 36 z0)
              go_simp
              refine hK.out _ _ (m_q7) (fun hHeld => ?_)
              clear hK K hbq7
              try simp only [Act.put, List.setIfInBounds_toArray, List.set_cons_zero, List.set_cons_succ, List.getElem_toArray, List.getElem_cons_zero, List.getElem_cons_succ]
              generalize (wq1).alloc (.cells (wds 36 z0).toArray 34) = wq7 at *
              generalize (wq1).heap.size = prq7 at *
              refine wpAnyH_ready (rs := [4]) (by kernel_rfl) (by simp) ?_
              refine (AllReadyH.cons rfl (fun K hK => ?_) AllReadyH.nil)
              have hbq8 := (Below.refl (wq7).heap.size (wq7)).alloc (Nat.le_refl _) (.cells (wds 36 z0).toArray 34)
              have ltmq8 := (m_q7).size
              have ltzpq8 := (zp_q7).size
              have ltzrq8 := (zr_q7).size
              have m_q8 := (m_q7).up hbq8
              have b_q8 := bchain b_q7 hbq8
              have leqq8 := (b_q7).size
              have zp_q8 := (zp_q7).up hbq8
              have zr_q8 := (zr_q7).up hbq8
              have zq_q8 : BlkV ((wq7).alloc (.cells (wds 36 z0).toArray 34)) (wq7).heap.size 34 (wds 36 z0) := BlkV.new (wq7) 34 (wds 36 z0)
              go_simp
              refine hK.out _ _ (m_q8) (fun hHeld => ?_)
              clear hK K hbq8
              try simp only [Act.put, List.setIfInBounds_toArray, List.set_cons_zero, List.set_cons_succ, List.getElem_toArray, List.getElem_cons_zero, List.getElem_cons_succ]
              generalize (wq7).alloc (.cells (wds 36 z0).toArray 34) = wq8 at *
              generalize (wq7).heap.size = pqq8 at *
              refine wpAnyH_ready (rs := [6]) (by kernel_rfl) (by simp) ?_
              refine (AllReadyH.cons rfl (fun K hK => ?_) AllReadyH.nil)
              refine ready_go (by rfl) ?_
              refine wp_store_mid 34 (.tmp 14) (.tmp 52) rfl ppq1 0 (wds 36 f0).toArray rfl rfl ((zp_q8).thereW 0 36 _ (by decide)) (sizeMA _) (wds_all _ _) ?_
              have m_q9 := BlkV.put (show bm ≠ ppq1 by omega) (wds 36 f0) 0 _ (m_q8)
              have b_q9 := below_cells lepq1 (wds 36 f0) 0 _ (b_q8)
              have zr_q9 := BlkV.put (show prq7 ≠ ppq1 by omega) (wds 36 f0) 0 _ (zr_q8)
              have zq_q9 := BlkV.put (show pqq8 ≠ ppq1 by omega) (wds 36 f0) 0 _ (zq_q8)
              have yp_q9 := (zp_q8).lay0 f0
              refine hK.out _ _ (m_q9) (fun hHeld => ?_)
              clear hK K
              try simp only [Act.put, List.setIfInBounds_toArray, List.set_cons_zero, List.set_cons_succ, List.getElem_toArray, List.getElem_cons_zero, List.getElem_cons_succ]
              try change wpAnyH _ _ _ _ _ _ _ (World.setCells (wq8) ppq1 0 (wds 36 f0))
              generalize World.setCells (wq8) ppq1 0 (wds 36 f0) = wq9 at *
              refine wpAnyH_ready (rs := [7]) (by kernel_rfl) (by simp) ?_
              refine (AllReadyH.cons rfl (fun K hK => ?_) AllReadyH.nil)
              refine ready_go (by rfl) ?_
              refine wp_store_mid 34 (.tmp 15) (.tmp 53) rfl pqq8 0 (wds 36 f0).toArray rfl rfl ((zq_q9).thereW 0 36 _ (by decide)) (sizeMA _) (wds_all _ _) ?_
              have m_q10 := BlkV.put (show bm ≠ pqq8 by omega) (wds 36 f0) 0 _ (m_q9)
              have b_q10 := below_cells leqq8 (wds 36 f0) 0 _ (b_q9)
              have zp_q10 := BlkV.put (show ppq1 ≠ pqq8 by omega) (wds 36 f0) 0 _ (yp_q9)
              have zr_q10 := BlkV.put (show prq7 ≠ pqq8 by omega) (wds 36 f0) 0 _ (zr_q9)
              have yq_q10 := (zq_q9).lay0 f0
              refine hK.out _ _ (m_q10) (fun hHeld => ?_)
              clear hK K
              try simp only [Act.put, List.setIfInBounds_toArray, List.set_cons_zero, List.set_cons_succ, List.getElem_toArray, List.getElem_cons_zero, List.getElem_cons_succ]
              try change wpAnyH _ _ _ _ _ _ _ (World.setCells (wq9) pqq8 0 (wds 36 f0))
              generalize World.setCells (wq9) pqq8 0 (wds 36 f0) = wq10 at *
              refine wpAnyH_ready (rs := [8]) (by kernel_rfl) (by simp) ?_
              refine (AllReadyH.cons rfl (fun K hK => ?_) AllReadyH.nil)
              refine ready_go (by rfl) ?_
              refine wp_store_mid 34 (.tmp 16) (.tmp 54) rfl prq7 0 (wds 36 f0).toArray rfl rfl ((zr_q10).thereW 0 36 _ (by decide)) (sizeMA _) (wds_all _ _) ?_
              have m_q11 := BlkV.put (show bm ≠ prq7 by omega) (wds 36 f0) 0 _ (m_q10)
              have b_q11 := below_cells lerq7 (wds 36 f0) 0 _ (b_q10)
              have zp_q11 := BlkV.put (show ppq1 ≠ prq7 by omega) (wds 36 f0) 0 _ (zp_q10)
              have zq_q11 := BlkV.put (show pqq8 ≠ prq7 by omega) (wds 36 f0) 0 _ (yq_q10)
              have yr_q11 := (zr_q10).lay0 f0
              refine hK.out _ _ (m_q11) (fun hHeld => ?_)
              clear hK K
              try simp only [Act.put, List.setIfInBounds_toArray, List.set_cons_zero, List.set_cons_succ, List.getElem_toArray, List.getElem_cons_zero, List.getElem_cons_succ]
              try change wpAnyH _ _ _ _ _ _ _ (World.setCells (wq10) prq7 0 (wds 36 f0))
              generalize World.setCells (wq10) prq7 0 (wds 36 f0) = wq11 at *
              refine wpAnyH_done (by kernel_rfl) ?_ _
              go_wp2_with fail
              go_meet
              exact ⟨_, _, _, rfl, rfl, rfl, zp_q11, zq_q11, yr_q11, by omega, by omega, by omega, by omega, by omega, by omega, b_q11⟩
          · have hbq12 := (Below.refl (wd0).heap.size (wd0)).alloc (Nat.le_refl _) (.cells (wds 36 z0).toArray 34)
            have ltmq12 := (hm0).size
            have m_q12 := (hm0).up hbq12
            have b_q12 := bchain b0 hbq12
            have leqq12 := (b0).size
            have zq_q12 : BlkV ((wd0).alloc (.cells (wds 36 z0).toArray 34)) (wd0).heap.size 34 (wds 36 z0) := BlkV.new (wd0) 34 (wds 36 z0)
            go_simp
            refine hK.out _ _ (m_q12) (fun hHeld => ?_)
            clear hK K hbq12
            try simp only [Act.put, List.setIfInBounds_toArray, List.set_cons_zero, List.set_cons_succ, List.getElem_toArray, List.getElem_cons_zero, List.getElem_cons_succ]
            generalize (wd0).alloc (.cells (wds 36 z0).toArray 34) = wq12 at *
            generalize (wd0).heap.size = pqq12 at *
            refine wpAnyH_ready (rs := [3, 5]) (by kernel_rfl) (by simp) ?_
            refine (AllReadyH.cons rfl (fun K hK => ?_) (AllReadyH.cons rfl (fun K hK => ?_) AllReadyH.nil))
            · have hbq13 := (Below.refl (wq12).heap.size (wq12)).alloc (Nat.le_refl _) (.cells (wds 36 z0).toArray 34)
              have ltmq13 := (m_q12).size
              have ltzqq13 := (zq_q12).size
              have m_q13 := (m_q12).up hbq13
              have b_q13 := bchain b_q12 hbq13
              have lepq13 := (b_q12).size
              have zq_q13 := (zq_q12).up hbq13
              have zp_q13 : BlkV ((wq12).alloc (.cells (wds 36 z0).toArray 34)) (wq12).heap.size 34 (wds 36 z0) := BlkV.new (wq12) 34 (wds 36 z0)
              go_simp
              refine hK.out _ _ (m_q13) (fun hHeld => ?_)
              clear hK K hbq13
              try simp only [Act.put, List.setIfInBounds_toArray, List.set_cons_zero, List.set_cons_succ, List.getElem_toArray, List.getElem_cons_zero, List.getElem_cons_succ]
              generalize (wq12).alloc (.cells (wds 36 z0).toArray 34) = wq13 at *
              generalize (wq12).heap.size = ppq13 at *
              refine wpAnyH_ready (rs := [5]) (by kernel_rfl) (by simp) ?_
              refine (AllReadyH.cons rfl (fun K hK => ?_) AllReadyH.nil)
              have hbq14 := (Below.refl (wq13).heap.size (wq13)).alloc (Nat.le_refl _) (.cells (wds 36 z0).toArray 34)
              have ltmq14 := (m_q13).size
              have ltzqq14 := (zq_q13).size
              have ltzpq14 := (zp_q13).size
              have m_q14 := (m_q13).up hbq14
              have b_q14 := bchain b_q13 hbq14
              have lerq14 := (b_q13).size
              have zq_q14 := (zq_q13).up hbq14
              have zp_q14 := (zp_q13).up hbq14
              have zr_q14 : BlkV ((wq13).alloc (.cells (wds 36 z0).toArray 34)) (wq13).heap.size 34 (wds 36 z0) := BlkV.new (wq13) 34 (wds 36 z0)
              go_simp
              refine hK.out _ _ (m_q14) (fun hHeld => ?_)
              clear hK K hbq14
              try simp only [Act.put, List.setIfInBounds_toArray, List.set_cons_zero, List.set_cons_succ, List.getElem_toArray, List.getElem_cons_zero, List.getElem_cons_succ]
              generalize (wq13).alloc (.cells (wds 36 z0).toArray 34) = wq14 at *
              generalize (wq13).heap.size = prq14 at *
              refine wpAnyH_ready (rs := [6]) (by kernel_rfl) (by simp) ?_
              refine (AllReadyH.cons rfl (fun K hK => ?_) AllReadyH.nil)
              refine ready_go (by rfl) ?_
              refine wp_store_mid 34 (.tmp 14) (.tmp 52) rfl ppq13 0 (wds 36 f0).toArray rfl rfl ((zp_q14).thereW 0 36 _ (by decide)) (sizeMA _) (wds_all _ _) ?_
              have m_q15 := BlkV.put (show bm ≠ ppq13 by omega) (wds 36 f0) 0 _ (m_q14)
              have b_q15 := below_cells lepq13 (wds 36 f0) 0 _ (b_q14)
              have zq_q15 := BlkV.put (show pqq12 ≠ ppq13 by omega) (wds 36 f0) 0 _ (zq_q14)
              have zr_q15 := BlkV.put (show prq14 ≠ ppq13 by omega) (wds 36 f0) 0 _ (zr_q14)
              have yp_q15 := (zp_q14).lay0 f0
              refine hK.out _ _ (m_q15) (fun hHeld => ?_)
              clear hK K
              try simp only [Act.put, List.setIfInBounds_toArray, List.set_cons_zero, List.set_cons_succ, List.getElem_toArray, List.getElem_cons_zero, List.getElem_cons_succ]
              try change wpAnyH _ _ _ _ _ _ _ (World.setCells (wq14) ppq13 0 (wds 36 f0))
              generalize World.setCells (wq14) ppq13 0 (wds 36 f0) = wq15 at *
              refine wpAnyH_ready (rs := [7]) (by kernel_rfl) (by simp) ?_
              refine (AllReadyH.cons rfl (fun K hK => ?_) AllReadyH.nil)
              refine ready_go (by rfl) ?_
              refine wp_store_mid 34 (.tmp 15) (.tmp 53) rfl pqq12 0 (wds 36 f0).toArray rfl rfl ((zq_q15).thereW 0 36 _ (by decide)) (sizeMA _) (wds_all _ _) ?_
              have m_q16 := BlkV.put (show bm ≠ pqq12 by omega) (wds 36 f0) 0 _ (m_q15)
              have b_q16 := below_cells leqq12 (wds 36 f0) 0 _ (b_q15)
              have zp_q16 := BlkV.put (show ppq13 ≠ pqq12 by omega) (wds 36 f0) 0 _ (yp_q15)
              have zr_q16 := BlkV.put (show prq14 ≠ pqq12 by omega) (wds 36 f0) 0 _ (zr_q15)
              have yq_q16 := (zq_q15).lay0 f0
              refine hK.out _ _ (m_q16) (fun hHeld => ?_)
              clear hK K
              try simp only [Act.put, List.setIfInBounds_toArray, List.set_cons_zero, List.set_cons_succ, List.getElem_toArray, List.getElem_cons_zero, List.getElem_cons_succ]
              try change wpAnyH _ _ _ _ _ _ _ (World.setCells (wq15) pqq12 0 (wds 36 f0))
              generalize World.setCells (wq15) pqq12 0 (wds 36 f0) = wq16 at *
              refine wpAnyH_ready (rs := [8]) (by kernel_rfl) (by simp) ?_
              refine (AllReadyH.cons rfl (fun K hK => ?_) AllReadyH.nil)
              refine ready_go (by rfl) ?_
              refine wp_store_mid 34 (.tmp 16) (.tmp 54) rfl prq14 0 (wds 36 f0).toArray rfl rfl ((zr_q16).thereW 0 36 _ (by decide)) (sizeMA _) (wds_all _ _) ?_
              have m_q17 := BlkV.put (show bm ≠ prq14 by omega) (wds 36 f0) 0 _ (m_q16)
              have b_q17 := below_cells lerq14 (wds 36 f0) 0 _ (b_q16)
              have zq_q17 := BlkV.put (show pqq12 ≠ prq14 by omega) (wds 36 f0) 0 _ (yq_q16)
              have zp_q17 := BlkV.put (show ppq13 ≠ prq14 by omega) (wds 36 f0) 0 _ (zp_q16)
              have yr_q17 := (zr_q16).lay0 f0
              refine hK.out _ _ (m_q17) (fun hHeld => ?_)
              clear hK K
              try simp only [Act.put, List.setIfInBounds_toArray, List.set_cons_zero, List.set_cons_succ, List.getElem_toArray, List.getElem_cons_zero, List.getElem_cons_succ]
              try change wpAnyH _ _ _ _ _ _ _ (World.setCells (wq16) prq14 0 (wds 36 f0))
              generalize World.setCells (wq16) prq14 0 (wds 36 f0) = wq17 at *
              refine wpAnyH_done (by kernel_rfl) ?_ _
              go_wp2_with fail
              go_meet
              exact ⟨_, _, _, rfl, rfl, rfl, zp_q17, zq_q17, yr_q17, by omega, by omega, by omega, by omega, by omega, by omega, b_q17⟩
            · have hbq18 := (Below.refl (wq12).heap.size (wq12)).alloc (Nat.le_refl _) (.cells (wds 36 z0).toArray 34)
              have ltmq18 := (m_q12).size
              have ltzqq18 := (zq_q12).size
              have m_q18 := (m_q12).up hbq18
              have b_q18 := bchain b_q12 hbq18
              have lerq18 := (b_q12).size
              have zq_q18 := (zq_q12).up hbq18
              have zr_q18 : BlkV ((wq12).alloc (.cells (wds 36 z0).toArray 34)) (wq12).heap.size 34 (wds 36 z0) := BlkV.new (wq12) 34 (wds 36 z0)
              go_simp
              refine hK.out _ _ (m_q18) (fun hHeld => ?_)
              clear hK K hbq18
              try simp only [Act.put, List.setIfInBounds_toArray, List.set_cons_zero, List.set_cons_succ, List.getElem_toArray, List.getElem_cons_zero, List.getElem_cons_succ]
              generalize (wq12).alloc (.cells (wds 36 z0).toArray 34) = wq18 at *
              generalize (wq12).heap.size = prq18 at *
              refine wpAnyH_ready (rs := [3]) (by kernel_rfl) (by simp) ?_
              refine (AllReadyH.cons rfl (fun K hK => ?_) AllReadyH.nil)
              have hbq19 := (Below.refl (wq18).heap.size (wq18)).alloc (Nat.le_refl _) (.cells (wds 36 z0).toArray 34)
              have ltmq19 := (m_q18).size
              have ltzqq19 := (zq_q18).size
              have ltzrq19 := (zr_q18).size
              have m_q19 := (m_q18).up hbq19
              have b_q19 := bchain b_q18 hbq19
              have lepq19 := (b_q18).size
              have zq_q19 := (zq_q18).up hbq19
              have zr_q19 := (zr_q18).up hbq19
              have zp_q19 : BlkV ((wq18).alloc (.cells (wds 36 z0).toArray 34)) (wq18).heap.size 34 (wds 36 z0) := BlkV.new (wq18) 34 (wds 36 z0)
              go_simp
              refine hK.out _ _ (m_q19) (fun hHeld => ?_)
              clear hK K hbq19
              try simp only [Act.put, List.setIfInBounds_toArray, List.set_cons_zero, List.set_cons_succ, List.getElem_toArray, List.getElem_cons_zero, List.getElem_cons_succ]
              generalize (wq18).alloc (.cells (wds 36 z0).toArray 34) = wq19 at *
              generalize (wq18).heap.size = ppq19 at *
              refine wpAnyH_ready (rs := [6]) (by kernel_rfl) (by simp) ?_
              refine (AllReadyH.cons rfl (fun K hK => ?_) AllReadyH.nil)
              refine ready_go (by rfl) ?_
              refine wp_store_mid 34 (.tmp 14) (.tmp 52) rfl ppq19 0 (wds 36 f0).toArray rfl rfl ((zp_q19).thereW 0 36 _ (by decide)) (sizeMA _) (wds_all _ _) ?_
              have m_q20 := BlkV.put (show bm ≠ ppq19 by omega) (wds 36 f0) 0 _ (m_q19)
              have b_q20 := below_cells lepq19 (wds 36 f0) 0 _ (b_q19)
              have zq_q20 := BlkV.put (show pqq12 ≠ ppq19 by omega) (wds 36 f0) 0 _ (zq_q19)
              have zr_q20 := BlkV.put (show prq18 ≠ ppq19 by omega) (wds 36 f0) 0 _ (zr_q19)
              have yp_q20 := (zp_q19).lay0 f0
              refine hK.out _ _ (m_q20) (fun hHeld => ?_)
              clear hK K
              try simp only [Act.put, List.setIfInBounds_toArray, List.set_cons_zero, List.set_cons_succ, List.getElem_toArray, List.getElem_cons_zero, List.getElem_cons_succ]
              try change wpAnyH _ _ _ _ _ _ _ (World.setCells (wq19) ppq19 0 (wds 36 f0))
              generalize World.setCells (wq19) ppq19 0 (wds 36 f0) = wq20 at *
              refine wpAnyH_ready (rs := [7]) (by kernel_rfl) (by simp) ?_
              refine (AllReadyH.cons rfl (fun K hK => ?_) AllReadyH.nil)
              refine ready_go (by rfl) ?_
              refine wp_store_mid 34 (.tmp 15) (.tmp 53) rfl pqq12 0 (wds 36 f0).toArray rfl rfl ((zq_q20).thereW 0 36 _ (by decide)) (sizeMA _) (wds_all _ _) ?_
              have m_q21 := BlkV.put (show bm ≠ pqq12 by omega) (wds 36 f0) 0 _ (m_q20)
              have b_q21 := below_cells leqq12 (wds 36 f0) 0 _ (b_q20)
              have zr_q21 := BlkV.put (show prq18 ≠ pqq12 by omega) (wds 36 f0) 0 _ (zr_q20)
              have zp_q21 := BlkV.put (show ppq19 ≠ pqq12 by omega) (wds 36 f0) 0 _ (yp_q20)
              have yq_q21 := (zq_q20).lay0 f0
              refine hK.out _ _ (m_q21) (fun hHeld => ?_)
              clear hK K
              try simp only [Act.put, List.setIfInBounds_toArray, List.set_cons_zero, List.set_cons_succ, List.getElem_toArray, List.getElem_cons_zero, List.getElem_cons_succ]
              try change wpAnyH _ _ _ _ _ _ _ (World.setCells (wq20) pqq12 0 (wds 36 f0))
              generalize World.setCells (wq20) pqq12 0 (wds 36 f0) = wq21 at *
              refine wpAnyH_ready (rs := [8]) (by kernel_rfl) (by simp) ?_
              refine (AllReadyH.cons rfl (fun K hK => ?_) AllReadyH.nil)
              refine ready_go (by rfl) ?_
              refine wp_store_mid 34 (.tmp 16) (.tmp 54) rfl prq18 0 (wds 36 f0).toArray rfl rfl ((zr_q21).thereW 0 36 _ (by decide)) (sizeMA _) (wds_all _ _) ?_
              have m_q22 := BlkV.put (show bm ≠ prq18 by omega) (wds 36 f0) 0 _ (m_q21)
              have b_q22 := below_cells lerq18 (wds 36 f0) 0 _ (b_q21)
              have zq_q22 := BlkV.put (show pqq12 ≠ prq18 by omega) (wds 36 f0) 0 _ (yq_q21)
              have zp_q22 := BlkV.put (show ppq19 ≠ prq18 by omega) (wds 36 f0) 0 _ (zp_q21)
              have yr_q22 := (zr_q21).lay0 f0
              refine hK.out _ _ (m_q22) (fun hHeld => ?_)
              clear hK K
              try simp only [Act.put, List.setIfInBounds_toArray, List.set_cons_zero, List.set_cons_succ, List.getElem_toArray, List.getElem_cons_zero, List.getElem_cons_succ]
              try change wpAnyH _ _ _ _ _ _ _ (World.setCells (wq21) prq18 0 (wds 36 f0))
              generalize World.setCells (wq21) prq18 0 (wds 36 f0) = wq22 at *
              refine wpAnyH_done (by kernel_rfl) ?_ _
              go_wp2_with fail
              go_meet
              exact ⟨_, _, _, rfl, rfl, rfl, zp_q22, zq_q22, yr_q22, by omega, by omega, by omega, by omega, by omega, by omega, b_q22⟩
          · have hbq23 := (Below.refl (wd0).heap.size (wd0)).alloc (Nat.le_refl _) (.cells (wds 36 z0).toArray 34)
            have ltmq23 := (hm0).size
            have m_q23 := (hm0).up hbq23
            have b_q23 := bchain b0 hbq23
            have lerq23 := (b0).size
            have zr_q23 : BlkV ((wd0).alloc (.cells (wds 36 z0).toArray 34)) (wd0).heap.size 34 (wds 36 z0) := BlkV.new (wd0) 34 (wds 36 z0)
            go_simp
            refine hK.out _ _ (m_q23) (fun hHeld => ?_)
            clear hK K hbq23
            try simp only [Act.put, List.setIfInBounds_toArray, List.set_cons_zero, List.set_cons_succ, List.getElem_toArray, List.getElem_cons_zero, List.getElem_cons_succ]
            generalize (wd0).alloc (.cells (wds 36 z0).toArray 34) = wq23 at *
            generalize (wd0).heap.size = prq23 at *
            refine wpAnyH_ready (rs := [3, 4]) (by kernel_rfl) (by simp) ?_
            refine (AllReadyH.cons rfl (fun K hK => ?_) (AllReadyH.cons rfl (fun K hK => ?_) AllReadyH.nil))
            · have hbq24 := (Below.refl (wq23).heap.size (wq23)).alloc (Nat.le_refl _) (.cells (wds 36 z0).toArray 34)
              have ltmq24 := (m_q23).size
              have ltzrq24 := (zr_q23).size
              have m_q24 := (m_q23).up hbq24
              have b_q24 := bchain b_q23 hbq24
              have lepq24 := (b_q23).size
              have zr_q24 := (zr_q23).up hbq24
              have zp_q24 : BlkV ((wq23).alloc (.cells (wds 36 z0).toArray 34)) (wq23).heap.size 34 (wds 36 z0) := BlkV.new (wq23) 34 (wds 36 z0)
              go_simp
              refine hK.out _ _ (m_q24) (fun hHeld => ?_)
              clear hK K hbq24
              try simp only [Act.put, List.setIfInBounds_toArray, List.set_cons_zero, List.set_cons_succ, List.getElem_toArray, List.getElem_cons_zero, List.getElem_cons_succ]
              generalize (wq23).alloc (.cells (wds 36 z0).toArray 34) = wq24 at *
              generalize (wq23).heap.size = ppq24 at *
              refine wpAnyH_ready (rs := [4]) (by kernel_rfl) (by simp) ?_
              refine (AllReadyH.cons rfl (fun K hK => ?_) AllReadyH.nil)
              have hbq25 := (Below.refl (wq24).heap.size (wq24)).alloc (Nat.le_refl _) (.cells (wds 36 z0).toArray 34)
              have ltmq25 := (m_q24).size
              have ltzrq25 := (zr_q24).size
              have ltzpq25 := (zp_q24).size
              have m_q25 := (m_q24).up hbq25
              have b_q25 := bchain b_q24 hbq25
              have leqq25 := (b_q24).size
              have zr_q25 := (zr_q24).up hbq25
              have zp_q25 := (zp_q24).up hbq25
              have zq_q25 : BlkV ((wq24).alloc (.cells (wds 36 z0).toArray 34)) (wq24).heap.size 34 (wds 36 z0) := BlkV.new (wq24) 34 (wds 36 z0)
              go_simp
              refine hK.out _ _ (m_q25) (fun hHeld => ?_)
              clear hK K hbq25
              try simp only [Act.put, List.setIfInBounds_toArray, List.set_cons_zero, List.set_cons_succ, List.getElem_toArray, List.getElem_cons_zero, List.getElem_cons_succ]
              generalize (wq24).alloc (.cells (wds 36 z0).toArray 34) = wq25 at *
              generalize (wq24).heap.size = pqq25 at *
              refine wpAnyH_ready (rs := [6]) (by kernel_rfl) (by simp) ?_
              refine (AllReadyH.cons rfl (fun K hK => ?_) AllReadyH.nil)
              refine ready_go (by rfl) ?_
              refine wp_store_mid 34 (.tmp 14) (.tmp 52) rfl ppq24 0 (wds 36 f0).toArray rfl rfl ((zp_q25).thereW 0 36 _ (by decide)) (sizeMA _) (wds_all _ _) ?_
              have m_q26 := BlkV.put (show bm ≠ ppq24 by omega) (wds 36 f0) 0 _ (m_q25)
              have b_q26 := below_cells lepq24 (wds 36 f0) 0 _ (b_q25)
              have zr_q26 := BlkV.put (show prq23 ≠ ppq24 by omega) (wds 36 f0) 0 _ (zr_q25)
              have zq_q26 := BlkV.put (show pqq25 ≠ ppq24 by omega) (wds 36 f0) 0 _ (zq_q25)
              have yp_q26 := (zp_q25).lay0 f0
              refine hK.out _ _ (m_q26) (fun hHeld => ?_)
              clear hK K
              try simp only [Act.put, List.setIfInBounds_toArray, List.set_cons_zero, List.set_cons_succ, List.getElem_toArray, List.getElem_cons_zero, List.getElem_cons_succ]
              try change wpAnyH _ _ _ _ _ _ _ (World.setCells (wq25) ppq24 0 (wds 36 f0))
              generalize World.setCells (wq25) ppq24 0 (wds 36 f0) = wq26 at *
              refine wpAnyH_ready (rs := [7]) (by kernel_rfl) (by simp) ?_
              refine (AllReadyH.cons rfl (fun K hK => ?_) AllReadyH.nil)
              refine ready_go (by rfl) ?_
              refine wp_store_mid 34 (.tmp 15) (.tmp 53) rfl pqq25 0 (wds 36 f0).toArray rfl rfl ((zq_q26).thereW 0 36 _ (by decide)) (sizeMA _) (wds_all _ _) ?_
              have m_q27 := BlkV.put (show bm ≠ pqq25 by omega) (wds 36 f0) 0 _ (m_q26)
              have b_q27 := below_cells leqq25 (wds 36 f0) 0 _ (b_q26)
              have zr_q27 := BlkV.put (show prq23 ≠ pqq25 by omega) (wds 36 f0) 0 _ (zr_q26)
              have zp_q27 := BlkV.put (show ppq24 ≠ pqq25 by omega) (wds 36 f0) 0 _ (yp_q26)
              have yq_q27 := (zq_q26).lay0 f0
              refine hK.out _ _ (m_q27) (fun hHeld => ?_)
              clear hK K
              try simp only [Act.put, List.setIfInBounds_toArray, List.set_cons_zero, List.set_cons_succ, List.getElem_toArray, List.getElem_cons_zero, List.getElem_cons_succ]
              try change wpAnyH _ _ _ _ _ _ _ (World.setCells (wq26) pqq25 0 (wds 36 f0))
              generalize World.setCells (wq26) pqq25 0 (wds 36 f0) = wq27 at *
              refine wpAnyH_ready (rs := [8]) (by kernel_rfl) (by simp) ?_
              refine (AllReadyH.cons rfl (fun K hK => ?_) AllReadyH.nil)
              refine ready_go (by rfl) ?_
              refine wp_store_mid 34 (.tmp 16) (.tmp 54) rfl prq23 0 (wds 36 f0).toArray rfl rfl ((zr_q27).thereW 0 36 _ (by decide)) (sizeMA _) (wds_all _ _) ?_
              have m_q28 := BlkV.put (show bm ≠ prq23 by omega) (wds 36 f0) 0 _ (m_q27)
              have b_q28 := below_cells lerq23 (wds 36 f0) 0 _ (b_q27)
              have zp_q28 := BlkV.put (show ppq24 ≠ prq23 by omega) (wds 36 f0) 0 _ (zp_q27)
              have zq_q28 := BlkV.put (show pqq25 ≠ prq23 by omega) (wds 36 f0) 0 _ (yq_q27)
              have yr_q28 := (zr_q27).lay0 f0
              refine hK.out _ _ (m_q28) (fun hHeld => ?_)
              clear hK K
              try simp only [Act.put, List.setIfInBounds_toArray, List.set_cons_zero, List.set_cons_succ, List.getElem_toArray, List.getElem_cons_zero, List.getElem_cons_succ]
              try change wpAnyH _ _ _ _ _ _ _ (World.setCells (wq27) prq23 0 (wds 36 f0))
              generalize World.setCells (wq27) prq23 0 (wds 36 f0) = wq28 at *
              refine wpAnyH_done (by kernel_rfl) ?_ _
              go_wp2_with fail
              go_meet
              exact ⟨_, _, _, rfl, rfl, rfl, zp_q28, zq_q28, yr_q28, by omega, by omega, by omega, by omega, by omega, by omega, b_q28⟩
            · have hbq29 := (Below.refl (wq23).heap.size (wq23)).alloc (Nat.le_refl _) (.cells (wds 36 z0).toArray 34)
              have ltmq29 := (m_q23).size
              have ltzrq29 := (zr_q23).size
              have m_q29 := (m_q23).up hbq29
              have b_q29 := bchain b_q23 hbq29
              have leqq29 := (b_q23).size
              have zr_q29 := (zr_q23).up hbq29
              have zq_q29 : BlkV ((wq23).alloc (.cells (wds 36 z0).toArray 34)) (wq23).heap.size 34 (wds 36 z0) := BlkV.new (wq23) 34 (wds 36 z0)
              go_simp
              refine hK.out _ _ (m_q29) (fun hHeld => ?_)
              clear hK K hbq29
              try simp only [Act.put, List.setIfInBounds_toArray, List.set_cons_zero, List.set_cons_succ, List.getElem_toArray, List.getElem_cons_zero, List.getElem_cons_succ]
              generalize (wq23).alloc (.cells (wds 36 z0).toArray 34) = wq29 at *
              generalize (wq23).heap.size = pqq29 at *
              refine wpAnyH_ready (rs := [3]) (by kernel_rfl) (by simp) ?_
              refine (AllReadyH.cons rfl (fun K hK => ?_) AllReadyH.nil)
              have hbq30 := (Below.refl (wq29).heap.size (wq29)).alloc (Nat.le_refl _) (.cells (wds 36 z0).toArray 34)
              have ltmq30 := (m_q29).size
              have ltzrq30 := (zr_q29).size
              have ltzqq30 := (zq_q29).size
              have m_q30 := (m_q29).up hbq30
              have b_q30 := bchain b_q29 hbq30
              have lepq30 := (b_q29).size
              have zr_q30 := (zr_q29).up hbq30
              have zq_q30 := (zq_q29).up hbq30
              have zp_q30 : BlkV ((wq29).alloc (.cells (wds 36 z0).toArray 34)) (wq29).heap.size 34 (wds 36 z0) := BlkV.new (wq29) 34 (wds 36 z0)
              go_simp
              refine hK.out _ _ (m_q30) (fun hHeld => ?_)
              clear hK K hbq30
              try simp only [Act.put, List.setIfInBounds_toArray, List.set_cons_zero, List.set_cons_succ, List.getElem_toArray, List.getElem_cons_zero, List.getElem_cons_succ]
              generalize (wq29).alloc (.cells (wds 36 z0).toArray 34) = wq30 at *
              generalize (wq29).heap.size = ppq30 at *
              refine wpAnyH_ready (rs := [6]) (by kernel_rfl) (by simp) ?_
              refine (AllReadyH.cons rfl (fun K hK => ?_) AllReadyH.nil)
              refine ready_go (by rfl) ?_
              refine wp_store_mid 34 (.tmp 14) (.tmp 52) rfl ppq30 0 (wds 36 f0).toArray rfl rfl ((zp_q30).thereW 0 36 _ (by decide)) (sizeMA _) (wds_all _ _) ?_
              have m_q31 := BlkV.put (show bm ≠ ppq30 by omega) (wds 36 f0) 0 _ (m_q30)
              have b_q31 := below_cells lepq30 (wds 36 f0) 0 _ (b_q30)
              have zr_q31 := BlkV.put (show prq23 ≠ ppq30 by omega) (wds 36 f0) 0 _ (zr_q30)
              have zq_q31 := BlkV.put (show pqq29 ≠ ppq30 by omega) (wds 36 f0) 0 _ (zq_q30)
              have yp_q31 := (zp_q30).lay0 f0
              refine hK.out _ _ (m_q31) (fun hHeld => ?_)
              clear hK K
              try simp only [Act.put, List.setIfInBounds_toArray, List.set_cons_zero, List.set_cons_succ, List.getElem_toArray, List.getElem_cons_zero, List.getElem_cons_succ]
              try change wpAnyH _ _ _ _ _ _ _ (World.setCells (wq30) ppq30 0 (wds 36 f0))
              generalize World.setCells (wq30) ppq30 0 (wds 36 f0) = wq31 at *
              refine wpAnyH_ready (rs := [7]) (by kernel_rfl) (by simp) ?_
              refine (AllReadyH.cons rfl (fun K hK => ?_) AllReadyH.nil)
              refine ready_go (by rfl) ?_
              refine wp_store_mid 34 (.tmp 15) (.tmp 53) rfl pqq29 0 (wds 36 f0).toArray rfl rfl ((zq_q31).thereW 0 36 _ (by decide)) (sizeMA _) (wds_all _ _) ?_
              have m_q32 := BlkV.put (show bm ≠ pqq29 by omega) (wds 36 f0) 0 _ (m_q31)
              have b_q32 := below_cells leqq29 (wds 36 f0) 0 _ (b_q31)
              have zr_q32 := BlkV.put (show prq23 ≠ pqq29 by omega) (wds 36 f0) 0 _ (zr_q31)
              have zp_q32 := BlkV.put (show ppq30 ≠ pqq29 by omega) (wds 36 f0) 0 _ (yp_q31)
              have yq_q32 := (zq_q31).lay0 f0
              refine hK.out _ _ (m_q32) (fun hHeld => ?_)
              clear hK K
              try simp only [Act.put, List.setIfInBounds_toArray, List.set_cons_zero, List.set_cons_succ, List.getElem_toArray, List.getElem_cons_zero, List.getElem_cons_succ]
              try change wpAnyH _ _ _ _ _ _ _ (World.setCells (wq31) pqq29 0 (wds 36 f0))
              generalize World.setCells (wq31) pqq29 0 (wds 36 f0) = wq32 at *
              refine wpAnyH_ready (rs := [8]) (by kernel_rfl) (by simp) ?_
              refine (AllReadyH.cons rfl (fun K hK => ?_) AllReadyH.nil)
              refine ready_go (by rfl) ?_
              refine wp_store_mid 34 (.tmp 16) (.tmp 54) rfl prq23 0 (wds 36 f0).toArray rfl rfl ((zr_q32).thereW 0 36 _ (by decide)) (sizeMA _) (wds_all _ _) ?_
              have m_q33 := BlkV.put (show bm ≠ prq23 by omega) (wds 36 f0) 0 _ (m_q32)
              have b_q33 := below_cells lerq23 (wds 36 f0) 0 _ (b_q32)
              have zq_q33 := BlkV.put (show pqq29 ≠ prq23 by omega) (wds 36 f0) 0 _ (yq_q32)
              have zp_q33 := BlkV.put (show ppq30 ≠ prq23 by omega) (wds 36 f0) 0 _ (zp_q32)
              have yr_q33 := (zr_q32).lay0 f0
              refine hK.out _ _ (m_q33) (fun hHeld => ?_)
              clear hK K
              try simp only [Act.put, List.setIfInBounds_toArray, List.set_cons_zero, List.set_cons_succ, List.getElem_toArray, List.getElem_cons_zero, List.getElem_cons_succ]
              try change wpAnyH _ _ _ _ _ _ _ (World.setCells (wq32) prq23 0 (wds 36 f0))
              generalize World.setCells (wq32) prq23 0 (wds 36 f0) = wq33 at *
              refine wpAnyH_done (by kernel_rfl) ?_ _
              go_wp2_with fail
              go_meet
              exact ⟨_, _, _, rfl, rfl, rfl, zp_q33, zq_q33, yr_q33, by omega, by omega, by omega, by omega, by omega, by omega, b_q33⟩
        case rest =>
          obtain ⟨p, q, r, rfl, rfl, rfl, hp, hq, hr, lp, lq, lr, pq, pr, qr, hb⟩ := hcut
          have HP := hid hp
          have HQ := hid hq
          have HR := hid hr
          have HY := hid (HY0.out.up hb)
          have HE := hid (HZ.out.up hb)
          have HB1 := hid (bchain HB.out hb)
          have lw := HB.out.size
          clear hp hq hr hb HY0 HZ HB
          obtain ⟨w9, hw9⟩ : ∃ v, v = wc := ⟨_, rfl⟩
          rw [← hw9] at HP HQ HR HY HE HB1 ⊢
          clear hw9
          have lbm := HY.out.size
          have hlf := wds_len 36 f0
          have OX : Hid (∀ v, BlkV v bm 34 (wds 36 f0) → v.rangeAt bm (x * 12) (wds 12 fun k => f0 (x * 12 + k))) := fun v hv => hv.sub _ 12 (by omega)
          have OY : Hid (∀ v, BlkV v bm 34 (wds 36 f0) → v.rangeAt bm (y * 12) (wds 12 fun k => f0 (y * 12 + k))) := fun v hv => hv.sub _ 12 (by omega)
          have VX := hid (HM0.out.row x3)
          have VY := hid (HM0.out.row y3)
          obtain ⟨gx, hgx⟩ : ∃ a : Nat → Int, a = fun k => f0 (x * 12 + k) := ⟨_, rfl⟩
          obtain ⟨gy, hgy⟩ : ∃ a : Nat → Int, a = fun k => f0 (y * 12 + k) := ⟨_, rfl⟩
          rw [← hgx] at OX VX
          rw [← hgy] at OY VY
          clear hgx hgy
          have hlx := wds_len 12 gx
          have hly := wds_len 12 gy
          have lo_p : w.heap.size ≤ p := by omega
          have lo_q : w.heap.size ≤ q := by omega
          have lo_r : w.heap.size ≤ r := by omega
          have lbp : bm ≠ p := by omega
          have lbq : bm ≠ q := by omega
          have lbr : bm ≠ r := by omega
          have lep : be ≠ p := by omega
          have leq : be ≠ q := by omega
          have ler : be ≠ r := by omega
          go_wp2_with fail
          have m0 := HY.out.up (Below.refl _ _).drew
          have p0 := HP.out.up (Below.refl _ _).drew
          have q0' := HQ.out.up (Below.refl _ _).drew
          have r0 := HR.out.up (Below.refl _ _).drew
          have e0 := HE.out.up (Below.refl _ _).drew
          have b0 := bchain HB1.out (Below.refl _ _).drew
          clear HY HP HQ HR HE HB1
          refine wp_region_held_drew (S := fun v => BlkV v bm 34 (wds 36 f0)) (by kernel_rfl) m0 (fun hHeld => ?_)
          refine wpAnyH_take (i := 0) (v := ?_) rfl (by kernel_rfl) (by kernel_rfl) (by kernel_rfl) (fun _ _ _ h => h) (Or.inl ⟨by rfl, fun v hv => ?_⟩) (by with_reducible assumption) ?_
          rotate_left
          · go_simp
            try with_reducible rfl
          simp only [Act.put, List.setIfInBounds_toArray, List.set_cons_zero, List.set_cons_succ, List.getElem_toArray, List.getElem_cons_zero, List.getElem_cons_succ]
          refine wpAnyH_take (i := 1) (v := ?_) rfl (by kernel_rfl) (by kernel_rfl) (by kernel_rfl) (fun _ _ _ h => h) (Or.inl ⟨by rfl, fun v hv => ?_⟩) (by with_reducible assumption) ?_
          rotate_left
          · go_simp
            try with_reducible rfl
          simp only [Act.put, List.setIfInBounds_toArray, List.set_cons_zero, List.set_cons_succ, List.getElem_toArray, List.getElem_cons_zero, List.getElem_cons_succ]
          refine wpAnyH_take (i := 2) (v := ?_) rfl (by kernel_rfl) (by kernel_rfl) (by kernel_rfl) (fun _ _ _ h => h) (Or.inl ⟨by rfl, fun v hv => ?_⟩) (by with_reducible assumption) ?_
          rotate_left
          · go_simp
            try with_reducible rfl
          simp only [Act.put, List.setIfInBounds_toArray, List.set_cons_zero, List.set_cons_succ, List.getElem_toArray, List.getElem_cons_zero, List.getElem_cons_succ]
          refine wpAnyH_take (i := 3) (v := ?_) rfl (by kernel_rfl) (by kernel_rfl) (by kernel_rfl) (fun _ _ _ h => h) (Or.inl ⟨by rfl, fun v hv => ?_⟩) (by with_reducible assumption) ?_
          rotate_left
          · go_simp
            try with_reducible rfl
          simp only [Act.put, List.setIfInBounds_toArray, List.set_cons_zero, List.set_cons_succ, List.getElem_toArray, List.getElem_cons_zero, List.getElem_cons_succ]
          refine wpAnyH_take (i := 4) (v := .agg (wds 12 gy).toArray) rfl (by kernel_rfl) (by kernel_rfl) (by kernel_rfl) (fun _ _ _ h => h) (yieldsIf_load_mid (by rfl) 32 (.tmp 58) rfl (bm) (y * 12) rfl (wds 12 gy) _ (fun v hv => OY.out v hv) Tryd.underlying32 rfl (sizeV _)) (by with_reducible assumption) ?_
          simp only [Act.put, List.setIfInBounds_toArray, List.set_cons_zero, List.set_cons_succ, List.getElem_toArray, List.getElem_cons_zero, List.getElem_cons_succ]
          refine wpAnyH_take (i := 5) (v := ?_) rfl (by kernel_rfl) (by kernel_rfl) (by kernel_rfl) (fun _ _ _ h => h) (Or.inl ⟨by rfl, fun v hv => ?_⟩) (by with_reducible assumption) ?_
          rotate_left
          · go_simp
            try with_reducible rfl
          simp only [Act.put, List.setIfInBounds_toArray, List.set_cons_zero, List.set_cons_succ, List.getElem_toArray, List.getElem_cons_zero, List.getElem_cons_succ]
          refine wpAnyH_take (i := 6) (v := ?_) rfl (by kernel_rfl) (by kernel_rfl) (by kernel_rfl) (fun _ _ _ h => h) (Or.inl ⟨by rfl, fun v hv => ?_⟩) (by with_reducible assumption) ?_
          rotate_left
          · go_simp
            try with_reducible rfl
          simp only [Act.put, List.setIfInBounds_toArray, List.set_cons_zero, List.set_cons_succ, List.getElem_toArray, List.getElem_cons_zero, List.getElem_cons_succ]
          refine wpAnyH_take (i := 7) (v := .agg (wds 12 gx).toArray) rfl (by kernel_rfl) (by kernel_rfl) (by kernel_rfl) (fun _ _ _ h => h) (yieldsIf_load_mid (by rfl) 32 (.tmp 61) rfl (bm) (x * 12) rfl (wds 12 gx) _ (fun v hv => OX.out v hv) Tryd.underlying32 rfl (sizeV _)) (by with_reducible assumption) ?_
          simp only [Act.put, List.setIfInBounds_toArray, List.set_cons_zero, List.set_cons_succ, List.getElem_toArray, List.getElem_cons_zero, List.getElem_cons_succ]
          refine wpAnyH_take (i := 8) (v := ?_) rfl (by kernel_rfl) (by kernel_rfl) (by kernel_rfl) (fun _ _ _ h => h) (Or.inl ⟨by rfl, fun v hv => ?_⟩) (by with_reducible assumption) ?_
          rotate_left
          · go_simp
            try with_reducible rfl
          simp only [Act.put, List.setIfInBounds_toArray, List.set_cons_zero, List.set_cons_succ, List.getElem_toArray, List.getElem_cons_zero, List.getElem_cons_succ]
          refine wpAnyH_ready (rs := [9]) (by kernel_rfl) (by simp) ?_
          refine (AllReadyH.cons rfl (fun K hK => ?_) AllReadyH.nil)
          refine ready_go (by rfl) ?_
          refine wp_store_mid 32 (.tmp 63) (.tmp 59) rfl (p) (x * 12) (wds 12 gy).toArray rfl rfl ((p0).thereW (x * 12) 12 gy (by omega)) (sizeVA _) (wds_all _ _) ?_
          have m_n1 := BlkV.put (show bm ≠ p by omega) (wds 12 gy) (x * 12) _ (m0)
          have p_n1 := (p0).lay (x * 12) 12 gy (by omega)
          have q_n1 := BlkV.put (show q ≠ p by omega) (wds 12 gy) (x * 12) _ (q0')
          have r_n1 := BlkV.put (show r ≠ p by omega) (wds 12 gy) (x * 12) _ (r0)
          have e_n1 := BlkV.put (show be ≠ p by omega) (wds 12 gy) (x * 12) _ (e0)
          have b_n1 := below_cells lo_p (wds 12 gy) (x * 12) _ (b0)
          refine hK.out _ _ (m_n1) (fun hHeld => ?_)
          clear hK K
          try simp only [Act.put, List.setIfInBounds_toArray, List.set_cons_zero, List.set_cons_succ, List.getElem_toArray, List.getElem_cons_zero, List.getElem_cons_succ]
          refine wpAnyH_take (i := 10) (v := ?_) rfl (by kernel_rfl) (by kernel_rfl) (by kernel_rfl) (fun _ _ _ h => h) (Or.inl ⟨by rfl, fun v hv => ?_⟩) (by with_reducible assumption) ?_
          rotate_left
          · go_simp
            try with_reducible rfl
          simp only [Act.put, List.setIfInBounds_toArray, List.set_cons_zero, List.set_cons_succ, List.getElem_toArray, List.getElem_cons_zero, List.getElem_cons_succ]
          refine wpAnyH_ready (rs := [11]) (by kernel_rfl) (by simp) ?_
          refine (AllReadyH.cons rfl (fun K hK => ?_) AllReadyH.nil)
          refine ready_go (by rfl) ?_
          refine wp_store_mid 32 (.tmp 64) (.tmp 62) rfl (p) (y * 12) (wds 12 gx).toArray rfl rfl ((p_n1).thereW (y * 12) 12 gx (by omega)) (sizeVA _) (wds_all _ _) ?_
          have m_n2 := BlkV.put (show bm ≠ p by omega) (wds 12 gx) (y * 12) _ (m_n1)
          have p_n2 := (p_n1).lay (y * 12) 12 gx (by omega)
          have q_n2 := BlkV.put (show q ≠ p by omega) (wds 12 gx) (y * 12) _ (q_n1)
          have r_n2 := BlkV.put (show r ≠ p by omega) (wds 12 gx) (y * 12) _ (r_n1)
          have e_n2 := BlkV.put (show be ≠ p by omega) (wds 12 gx) (y * 12) _ (e_n1)
          have b_n2 := below_cells lo_p (wds 12 gx) (y * 12) _ (b_n1)
          refine hK.out _ _ (m_n2) (fun hHeld => ?_)
          clear hK K
          try simp only [Act.put, List.setIfInBounds_toArray, List.set_cons_zero, List.set_cons_succ, List.getElem_toArray, List.getElem_cons_zero, List.getElem_cons_succ]
          refine wpAnyH_done (by kernel_rfl) ?_ _
          have Hm := hid (m_n2)
          have Hp := hid (p_n2)
          have Hq := hid (q_n2)
          have Hr := hid (r_n2)
          have He := hid (e_n2)
          have Hb := hid (b_n2)
          generalize (World.setCells _ p (y * 12) (wds 12 gx)) = w10 at *
          clear m_n1 p_n1 q_n1 r_n1 e_n1 b_n1 m_n2 p_n2 q_n2 r_n2 e_n2 b_n2 m0 p0 q0' r0 e0 b0
          have HRY := hid (OY.out _ Hm.out)
          have HTQ := hid (Hq.out.thereW (x * 12) 12 gy (by omega))
          go_wp2_with (first
    | with_reducible refine wpList_load_mid rfl 32 (.tmp 67) rfl (bm) (y * 12) rfl (wds 12 gy) _ (by with_reducible exact HRY.out) Tryd.underlying32 rfl (sizeV _) ?_
    | with_reducible refine wpList_store_mid rfl 32 (.tmp 69) (.tmp 68) rfl (q) (x * 12) (wds 12 gy).toArray rfl rfl (by with_reducible exact HTQ.out) (sizeVA _) (wds_all _ _) ?_
    | fail)
          clear HRY HTQ
          have nm := BlkV.put lbq (wds 12 gy) (x * 12) _ Hm.out
          have np := BlkV.put (show p ≠ q by omega) (wds 12 gy) (x * 12) _ Hp.out
          have nq := Hq.out.lay (x * 12) 12 gy (by omega)
          have nr := BlkV.put (show r ≠ q by omega) (wds 12 gy) (x * 12) _ Hr.out
          have ne := BlkV.put leq (wds 12 gy) (x * 12) _ He.out
          have nb' := below_cells lo_q (wds 12 gy) (x * 12) _ Hb.out
          have Hm' := hid nm
          have Hp' := hid np
          have Hq' := hid nq
          have Hr' := hid nr
          have He' := hid ne
          have Hb' := hid nb'
          clear nm np nq nr ne nb' Hm Hp Hq Hr He Hb
          generalize (World.setCells _ q (x * 12) (wds 12 gy)) = w11 at *
          refine (fromWideZ_c B nb cb lb w11 ((HBy.out.below Hb'.out (Nat.le_refl _)).more Hb'.out.size) (by omega) (HG.out.up Hb'.out)).mono ?_
          rintro e w12 ⟨u2, rfl, hu2, b12⟩
          obtain ⟨gt, rfl⟩ := hu2.fn
          obtain ⟨nn1, nn2, nn3⟩ := newRow w12 30 4 gt
          have N1 := hid nn1
          have HT := hid hu2
          have Ht := hid nn2
          have b13 := bchain b12 nn3
          have hlt4 := wds_len 4 gt
          have Hm := hid (Hm'.out.up b13)
          have Hp := hid (Hp'.out.up b13)
          have Hq := hid (Hq'.out.up b13)
          have Hr := hid (Hr'.out.up b13)
          have He := hid (He'.out.up b13)
          have Hb := hid (bchain Hb'.out b13)
          have lbt := hid (Nat.lt_of_lt_of_le Hr'.out.size b12.size)
          have lbt2 := hid (Nat.le_trans Hb'.out.size b12.size)
          clear nn1 nn2 nn3 hu2 b12 b13 Hm' Hp' Hq' Hr' He' Hb'
          unfold oF at N1 Ht Hm Hp Hq Hr He Hb
          go_wp2_with (first
    | with_reducible refine wpList_store_mid rfl 30 (.tmp 17) (.tmp 71) rfl (w12.heap.size) (0) (wds 4 gt).toArray rfl rfl (by with_reducible exact N1.out) (sizeEA _) (wds_all _ _) ?_
    | fail)
          clear N1
          obtain ⟨bt, hbt⟩ : ∃ b, b = w12.heap.size := ⟨_, rfl⟩
          rw [← hbt] at Ht Hm Hp Hq Hr He Hb lbt lbt2 ⊢
          generalize ((w12.alloc _).setCells _ _ _) = w13 at *
          clear hbt
          have lrt : r < bt := lbt.out
          have lo_t : w.heap.size ≤ bt := lbt2.out
          clear lbt lbt2
          have L0 : Hid (∃ s, BlkV w13 r 34 (wds 36 s) ∧ MatZ s (tmK (nums l0) x ((val 256 lb : Nat) : Int) 0)) := ⟨f0, Hr.out, HM0.out.eq (tmK_zero _ _ _)⟩
          clear Hr
          go_loopw [72] (fun i wr => ∃ k : Nat, k ≤ 3 ∧ i = .int .i64 k ∧ (∃ s, BlkV wr r 34 (wds 36 s) ∧ MatZ s (tmK (nums l0) x ((val 256 lb : Nat) : Int) k)) ∧ BlkV wr bm 34 (wds 36 f0) ∧ BlkV wr p 34 (wds 36 (fput (fput f0 (x * 12) 12 gy) (y * 12) 12 gx)) ∧ BlkV wr q 34 (wds 36 (fput f0 (x * 12) 12 gy)) ∧ BlkV wr be 30 (wds 4 gd) ∧ BlkV wr bt 30 (wds 4 gt) ∧ Below w.heap.size w wr) (fun i _ => 3 - (intOf i).toNat)
          case atStart => exact ⟨0, by omega, rfl, L0.out, Hm.out, Hp.out, Hq.out, He.out, Ht.out, Hb.out⟩
          case round =>
            clear L0 Hm Hp Hq He Ht Hb
            obtain ⟨k, hk, rfl, ⟨s, hs, hms⟩, hm, hp, hq, he, ht, hb⟩ := hrel
            by_cases hlt : k < 3
            · have i0 : (0 : Int) ≤ (k : Int) := by omega
              have i2 : (k : Int) < 3 := by omega
              have EA := hid (hms.el x3 hlt)
              rw [tmK_at] at EA
              have OA : Hid (∀ v, BlkV v r 34 (wds 36 s) → v.rangeAt r (x * 12 + k * 4) (wds 4 fun j => s (x * 12 + k * 4 + j))) := fun v hv => hv.sub _ 4 (by omega)
              obtain ⟨ga, hga⟩ : ∃ a : Nat → Int, a = fun j => s (x * 12 + k * 4 + j) := ⟨_, rfl⟩
              rw [← hga] at EA OA
              clear hga
              have HMS := hid hms
              have hr0 := hid hs
              have hm0 := hid hm
              have hp0 := hid hp
              have hq0 := hid hq
              have he0 := hid he
              have ht0 := hid ht
              have hb0 := hid hb
              clear hs hms hm hp hq he ht hb
              go_wp2_with fail
              have r0 := hr0.out.up (Below.refl _ _).drew
              have m0 := hm0.out.up (Below.refl _ _).drew
              have p0 := hp0.out.up (Below.refl _ _).drew
              have q0' := hq0.out.up (Below.refl _ _).drew
              have e0 := he0.out.up (Below.refl _ _).drew
              have t0 := ht0.out.up (Below.refl _ _).drew
              have b0 := bchain hb0.out (Below.refl _ _).drew
              clear hr0 hm0 hp0 hq0 he0 ht0 hb0
              refine wp_region_held_drew (S := fun v => BlkV v bt 30 (wds 4 gt)) (by kernel_rfl) t0 (fun hHeld => ?_)
              refine wpAnyH_take (i := 0) (v := ?_) rfl (by kernel_rfl) (by kernel_rfl) (by kernel_rfl) (fun _ _ _ h => h) (Or.inl ⟨by rfl, fun v hv => ?_⟩) (by with_reducible assumption) ?_
              rotate_left
              · go_simp
                try with_reducible rfl
              simp only [Act.put, List.setIfInBounds_toArray, List.set_cons_zero, List.set_cons_succ, List.getElem_toArray, List.getElem_cons_zero, List.getElem_cons_succ]
              refine wpAnyH_take (i := 1) (v := ?_) rfl (by kernel_rfl) (by kernel_rfl) (by kernel_rfl) (fun _ _ _ h => h) (Or.inl ⟨by rfl, fun v hv => ?_⟩) (by with_reducible assumption) ?_
              rotate_left
              · go_simp
                try with_reducible rfl
              simp only [Act.put, List.setIfInBounds_toArray, List.set_cons_zero, List.set_cons_succ, List.getElem_toArray, List.getElem_cons_zero, List.getElem_cons_succ]
              refine wpAnyH_take (i := 2) (v := ?_) rfl (by kernel_rfl) (by kernel_rfl) (by kernel_rfl) (fun _ _ _ h => h) (Or.inl ⟨by rfl, fun v hv => ?_⟩) (by with_reducible assumption) ?_
              rotate_left
              · go_simp
                try with_reducible rfl
              simp only [Act.put, List.setIfInBounds_toArray, List.set_cons_zero, List.set_cons_succ, List.getElem_toArray, List.getElem_cons_zero, List.getElem_cons_succ]
              refine wpAnyH_take (i := 3) (v := ?_) rfl (by kernel_rfl) (by kernel_rfl) (by kernel_rfl) (fun _ _ _ h => h) (Or.inl ⟨by rfl, fun v hv => ?_⟩) (by with_reducible assumption) ?_
              rotate_left
              · go_simp
                try with_reducible rfl
              simp only [Act.put, List.setIfInBounds_toArray, List.set_cons_zero, List.set_cons_succ, List.getElem_toArray, List.getElem_cons_zero, List.getElem_cons_succ]
              refine wpAnyH_take (i := 4) (v := ?_) rfl (by kernel_rfl) (by kernel_rfl) (by kernel_rfl) (fun _ _ _ h => h) (Or.inl ⟨by rfl, fun v hv => ?_⟩) (by with_reducible assumption) ?_
              rotate_left
              · go_simp
                try with_reducible rfl
              simp only [Act.put, List.setIfInBounds_toArray, List.set_cons_zero, List.set_cons_succ, List.getElem_toArray, List.getElem_cons_zero, List.getElem_cons_succ]
              refine wpAnyH_take (i := 5) (v := ?_) rfl (by kernel_rfl) (by kernel_rfl) (by kernel_rfl) (fun _ _ _ h => h) (Or.inl ⟨by rfl, fun v hv => ?_⟩) (by with_reducible assumption) ?_
              rotate_left
              · go_simp
                try with_reducible rfl
              simp only [Act.put, List.setIfInBounds_toArray, List.set_cons_zero, List.set_cons_succ, List.getElem_toArray, List.getElem_cons_zero, List.getElem_cons_succ]
              refine wpAnyH_take (i := 7) (v := .agg (wds 4 gt).toArray) rfl (by kernel_rfl) (by kernel_rfl) (by kernel_rfl) (fun _ _ _ h => h) (yieldsIf_load_mid (by rfl) 30 (.tmp 17) rfl (bt) (0) rfl (wds 4 gt) _ (fun v hv => hv.range) Tryd.underlying30 rfl (sizeE _)) (by with_reducible assumption) ?_
              simp only [Act.put, List.setIfInBounds_toArray, List.set_cons_zero, List.set_cons_succ, List.getElem_toArray, List.getElem_cons_zero, List.getElem_cons_succ]
              refine wpAnyH_take (i := 9) (v := ?_) rfl (by kernel_rfl) (by kernel_rfl) (by kernel_rfl) (fun _ _ _ h => h) (Or.inl ⟨by rfl, fun v hv => ?_⟩) (by with_reducible assumption) ?_
              rotate_left
              · go_simp
                try with_reducible rfl
              simp only [Act.put, List.setIfInBounds_toArray, List.set_cons_zero, List.set_cons_succ, List.getElem_toArray, List.getElem_cons_zero, List.getElem_cons_succ]
              refine wpAnyH_ready (rs := [6]) (by kernel_rfl) (by simp) ?_
              refine (AllReadyH.cons rfl (fun K hK => ?_) AllReadyH.nil)
              refine ready_go (by rfl) ?_
              refine wp_load_mid 30 (.tmp 80) rfl (r) (x * 12 + k * 4) rfl (wds 4 ga) _ (OA.out _ (r0)) Tryd.underlying30 rfl (sizeE _) ?_
              refine hK.out _ _ (t0) (fun hHeld => ?_)
              clear hK K
              try simp only [Act.put, List.setIfInBounds_toArray, List.set_cons_zero, List.set_cons_succ, List.getElem_toArray, List.getElem_cons_zero, List.getElem_cons_succ]
              refine wpAnyH_ready (rs := [8]) (by kernel_rfl) (by simp) ?_
              refine (AllReadyH.cons rfl (fun K hK => ?_) AllReadyH.nil)
              go_simp
              go_at_call 25
              with_reducible refine (emulZ_c _ _ _ _ wr.drew EA.out HT.out (HG.out.up (b0))).mono ?_
              rintro e wl2 ⟨_, rfl, he1, hbl2⟩
              have r_l2 := (r0).up hbl2
              have m_l2 := (m0).up hbl2
              have p_l2 := (p0).up hbl2
              have q_l2 := (q0').up hbl2
              have e_l2 := (e0).up hbl2
              have t_l2 := (t0).up hbl2
              have b_l2 := bchain b0 hbl2
              obtain ⟨gr, rfl⟩ := he1.fn
              try dsimp only
              refine hK.out _ _ (t_l2) (fun hHeld => ?_)
              clear hK K
              try simp only [Act.put, List.setIfInBounds_toArray, List.set_cons_zero, List.set_cons_succ, List.getElem_toArray, List.getElem_cons_zero, List.getElem_cons_succ]
              refine wpAnyH_take (i := 10) (v := ?_) rfl (by kernel_rfl) (by kernel_rfl) (by kernel_rfl) (fun _ _ _ h => h) (Or.inl ⟨by rfl, fun v hv => ?_⟩) (by with_reducible assumption) ?_
              rotate_left
              · go_simp
                try with_reducible rfl
              simp only [Act.put, List.setIfInBounds_toArray, List.set_cons_zero, List.set_cons_succ, List.getElem_toArray, List.getElem_cons_zero, List.getElem_cons_succ]
              refine wpAnyH_ready (rs := [11]) (by kernel_rfl) (by simp) ?_
              refine (AllReadyH.cons rfl (fun K hK => ?_) AllReadyH.nil)
              refine ready_go (by rfl) ?_
              refine wp_store_mid 30 (.tmp 85) (.tmp 83) rfl (r) (x * 12 + k * 4) (wds 4 gr).toArray rfl rfl ((r_l2).thereW (x * 12 + k * 4) 4 gr (by omega)) (sizeEA _) (wds_all _ _) ?_
              have r_l3 := (r_l2).lay (x * 12 + k * 4) 4 gr (by omega)
              have m_l3 := BlkV.put (show bm ≠ r by omega) (wds 4 gr) (x * 12 + k * 4) _ (m_l2)
              have p_l3 := BlkV.put (show p ≠ r by omega) (wds 4 gr) (x * 12 + k * 4) _ (p_l2)
              have q_l3 := BlkV.put (show q ≠ r by omega) (wds 4 gr) (x * 12 + k * 4) _ (q_l2)
              have e_l3 := BlkV.put (show be ≠ r by omega) (wds 4 gr) (x * 12 + k * 4) _ (e_l2)
              have t_l3 := BlkV.put (show bt ≠ r by omega) (wds 4 gr) (x * 12 + k * 4) _ (t_l2)
              have b_l3 := below_cells lo_r (wds 4 gr) (x * 12 + k * 4) _ (b_l2)
              refine hK.out _ _ (t_l3) (fun hHeld => ?_)
              clear hK K
              try simp only [Act.put, List.setIfInBounds_toArray, List.set_cons_zero, List.set_cons_succ, List.getElem_toArray, List.getElem_cons_zero, List.getElem_cons_succ]
              refine wpAnyH_done (by kernel_rfl) ?_ _
              go_wp2_with fail
              go_roundw
              case rel => exact ⟨k + 1, by omega, by go_num, ⟨_, r_l3, tmK_put HMS.out x3 hlt he1⟩, m_l3, p_l3, q_l3, e_l3, t_l3, b_l3⟩
              case measure => simp [intOf]; omega
            · obtain rfl : k = 3 := by omega
              have HMT := hid (hms.eq (tmK_end _ _ _))
              have MT1 := hid ((HM0.out.putRow VY.out x3).putRow VX.out y3)
              rw [turn_eq _ _ _ hxy] at MT1
              have ML1 : Hid (MatZ (fput f0 (x * 12) 12 gy) (mzLike (nums l0) x y)) := HM0.out.putRow VY.out x3
              obtain ⟨mr1, mr2, mr3⟩ := mz_rows (nums l0) ((val 256 lb : Nat) : Int) x3 y3 hxy
              obtain ⟨ft, hft⟩ : ∃ a, a = fput (fput f0 (x * 12) 12 gy) (y * 12) 12 gx := ⟨_, rfl⟩
              obtain ⟨fl, hfl⟩ : ∃ a, a = fput f0 (x * 12) 12 gy := ⟨_, rfl⟩
              rw [← hft] at hp MT1
              rw [← hfl] at hq ML1
              clear hft hfl
              have MR1 := hid mr1
              have MR2 := hid mr2
              have MR3 := hid mr3
              have hr0 := hid hs
              have hp0 := hid hp
              have hq0 := hid hq
              have he0 := hid he
              have ht0 := hid ht
              have hb0 := hid hb
              clear hs hms hm hp hq he ht hb mr1 mr2 mr3
              have hlt1 := wds_len 36 ft
              have hll1 := wds_len 36 fl
              have hls1 := wds_len 36 s
              go_wp2_with fail
              have r0 := hr0.out.up (Below.refl _ _).drew
              have p0 := hp0.out.up (Below.refl _ _).drew
              have q0' := hq0.out.up (Below.refl _ _).drew
              have e0 := he0.out.up (Below.refl _ _).drew
              have t0 := ht0.out.up (Below.refl _ _).drew
              have b0 := bchain hb0.out (Below.refl _ _).drew
              clear hr0 hp0 hq0 he0 ht0 hb0
              refine wp_region_held_drew (S := fun v => BlkV v p 34 (wds 36 ft) ∧ BlkV v q 34 (wds 36 fl) ∧ BlkV v r 34 (wds 36 s) ∧ BlkV v be 30 (wds 4 gd) ∧ BlkV v bt 30 (wds 4 gt)) (by kernel_rfl) ⟨p0, q0', r0, e0, t0⟩ (fun hHeld => ?_)
              refine wpAnyH_take (i := 0) (v := .agg (wds 36 ft).toArray) rfl (by kernel_rfl) (by kernel_rfl) (by kernel_rfl) (fun _ _ _ h => h) (yieldsIf_load_mid (by rfl) 34 (.tmp 14) rfl (p) (0) rfl (wds 36 ft) _ (fun v hv => hv.1.range) Tryd.underlying34 rfl (sizeM _)) (by with_reducible assumption) ?_
              simp only [Act.put, List.setIfInBounds_toArray, List.set_cons_zero, List.set_cons_succ, List.getElem_toArray, List.getElem_cons_zero, List.getElem_cons_succ]
              refine wpAnyH_take (i := 2) (v := .agg (wds 4 gd).toArray) rfl (by kernel_rfl) (by kernel_rfl) (by kernel_rfl) (fun _ _ _ h => h) (yieldsIf_load_mid (by rfl) 30 (.tmp 11) rfl (be) (0) rfl (wds 4 gd) _ (fun v hv => hv.2.2.2.1.range) Tryd.underlying30 rfl (sizeE _)) (by with_reducible assumption) ?_
              simp only [Act.put, List.setIfInBounds_toArray, List.set_cons_zero, List.set_cons_succ, List.getElem_toArray, List.getElem_cons_zero, List.getElem_cons_succ]
              refine wpAnyH_ready (rs := [1]) (by kernel_rfl) (by simp) ?_
              refine (AllReadyH.cons rfl (fun K hK => ?_) AllReadyH.nil)
              go_simp
              go_at_call 20
              with_reducible refine (det_c ft _ wr.drew MT1.out (HG.out.up (b0))).mono ?_
              rintro e wz1 ⟨_, rfl, h1, hbz1⟩
              have r_z1 := (r0).up hbz1
              have p_z1 := (p0).up hbz1
              have q_z1 := (q0').up hbz1
              have e_z1 := (e0).up hbz1
              have t_z1 := (t0).up hbz1
              have b_z1 := bchain b0 hbz1
              try dsimp only
              refine hK.out _ _ (⟨p_z1, q_z1, r_z1, e_z1, t_z1⟩) (fun hHeld => ?_)
              clear hK K
              try simp only [Act.put, List.setIfInBounds_toArray, List.set_cons_zero, List.set_cons_succ, List.getElem_toArray, List.getElem_cons_zero, List.getElem_cons_succ]
              refine wpAnyH_ready (rs := [3]) (by kernel_rfl) (by simp) ?_
              refine (AllReadyH.cons rfl (fun K hK => ?_) AllReadyH.nil)
              go_simp
              go_at_call 28
              with_reducible refine (enegZ_c _ _ wz1 HD.out (HG.out.up (b_z1))).mono ?_
              rintro e wz2 ⟨_, rfl, h2, hbz2⟩
              have r_z2 := (r_z1).up hbz2
              have p_z2 := (p_z1).up hbz2
              have q_z2 := (q_z1).up hbz2
              have e_z2 := (e_z1).up hbz2
              have t_z2 := (t_z1).up hbz2
              have b_z2 := bchain b_z1 hbz2
              try dsimp only
              refine hK.out _ _ (⟨p_z2, q_z2, r_z2, e_z2, t_z2⟩) (fun hHeld => ?_)
              clear hK K
              try simp only [Act.put, List.setIfInBounds_toArray, List.set_cons_zero, List.set_cons_succ, List.getElem_toArray, List.getElem_cons_zero, List.getElem_cons_succ]
              refine wpAnyH_ready (rs := [4]) (by kernel_rfl) (by simp) ?_
              refine (AllReadyH.cons rfl (fun K hK => ?_) AllReadyH.nil)
              go_simp
              go_at_call 24
              with_reducible refine (equal_t _ _ _ _ wz2 h1 h2 (congrArg (· % pZ) MR1.out)).mono ?_
              rintro e wz3 ⟨rfl, hbz3⟩
              have r_z3 := (r_z2).up hbz3
              have p_z3 := (p_z2).up hbz3
              have q_z3 := (q_z2).up hbz3
              have e_z3 := (e_z2).up hbz3
              have t_z3 := (t_z2).up hbz3
              have b_z3 := bchain b_z2 hbz3
              try dsimp only
              refine hK.out _ _ (⟨p_z3, q_z3, r_z3, e_z3, t_z3⟩) (fun hHeld => ?_)
              clear hK K
              try simp only [Act.put, List.setIfInBounds_toArray, List.set_cons_zero, List.set_cons_succ, List.getElem_toArray, List.getElem_cons_zero, List.getElem_cons_succ]
              refine wpAnyH_take (i := 5) (v := ?_) rfl (by kernel_rfl) (by kernel_rfl) (by kernel_rfl) (fun _ _ _ h => h) (Or.inl ⟨by rfl, fun v hv => ?_⟩) (by with_reducible assumption) ?_
              rotate_left
              · go_simp
                try with_reducible rfl
              simp only [Act.put, List.setIfInBounds_toArray, List.set_cons_zero, List.set_cons_succ, List.getElem_toArray, List.getElem_cons_zero, List.getElem_cons_succ]
              refine wpAnyH_take (i := 6) (v := .agg (wds 36 fl).toArray) rfl (by kernel_rfl) (by kernel_rfl) (by kernel_rfl) (fun _ _ _ h => h) (yieldsIf_load_mid (by rfl) 34 (.tmp 15) rfl (q) (0) rfl (wds 36 fl) _ (fun v hv => hv.2.1.range) Tryd.underlying34 rfl (sizeM _)) (by with_reducible assumption) ?_
              simp only [Act.put, List.setIfInBounds_toArray, List.set_cons_zero, List.set_cons_succ, List.getElem_toArray, List.getElem_cons_zero, List.getElem_cons_succ]
              refine wpAnyH_ready (rs := [7]) (by kernel_rfl) (by simp) ?_
              refine (AllReadyH.cons rfl (fun K hK => ?_) AllReadyH.nil)
              go_simp
              go_at_call 20
              with_reducible refine (det_c fl _ wz3 ML1.out (HG.out.up (b_z3))).mono ?_
              rintro e wz4 ⟨_, rfl, h3, hbz4⟩
              have r_z4 := (r_z3).up hbz4
              have p_z4 := (p_z3).up hbz4
              have q_z4 := (q_z3).up hbz4
              have e_z4 := (e_z3).up hbz4
              have t_z4 := (t_z3).up hbz4
              have b_z4 := bchain b_z3 hbz4
              try dsimp only
              refine hK.out _ _ (⟨p_z4, q_z4, r_z4, e_z4, t_z4⟩) (fun hHeld => ?_)
              clear hK K
              try simp only [Act.put, List.setIfInBounds_toArray, List.set_cons_zero, List.set_cons_succ, List.getElem_toArray, List.getElem_cons_zero, List.getElem_cons_succ]
              refine wpAnyH_ready (rs := [8]) (by kernel_rfl) (by simp) ?_
              refine (AllReadyH.cons rfl (fun K hK => ?_) AllReadyH.nil)
              go_simp
              go_at_call 29
              with_reducible refine (isZero_t _ _ wz4 h3 (by rw [MR2.out]; exact Int.zero_emod _)).mono ?_
              rintro e wz5 ⟨rfl, hbz5⟩
              have r_z5 := (r_z4).up hbz5
              have p_z5 := (p_z4).up hbz5
              have q_z5 := (q_z4).up hbz5
              have e_z5 := (e_z4).up hbz5
              have t_z5 := (t_z4).up hbz5
              have b_z5 := bchain b_z4 hbz5
              try dsimp only
              refine hK.out _ _ (⟨p_z5, q_z5, r_z5, e_z5, t_z5⟩) (fun hHeld => ?_)
              clear hK K
              try simp only [Act.put, List.setIfInBounds_toArray, List.set_cons_zero, List.set_cons_succ, List.getElem_toArray, List.getElem_cons_zero, List.getElem_cons_succ]
              refine wpAnyH_take (i := 9) (v := ?_) rfl (by kernel_rfl) (by kernel_rfl) (by kernel_rfl) (fun _ _ _ h => h) (Or.inl ⟨by rfl, fun v hv => ?_⟩) (by with_reducible assumption) ?_
              rotate_left
              · go_simp
                try with_reducible rfl
              simp only [Act.put, List.setIfInBounds_toArray, List.set_cons_zero, List.set_cons_succ, List.getElem_toArray, List.getElem_cons_zero, List.getElem_cons_succ]
              refine wpAnyH_take (i := 10) (v := ?_) rfl (by kernel_rfl) (by kernel_rfl) (by kernel_rfl) (fun _ _ _ h => h) (Or.inl ⟨by rfl, fun v hv => ?_⟩) (by with_reducible assumption) ?_
              rotate_left
              · go_simp
                try with_reducible rfl
              simp only [Act.put, List.setIfInBounds_toArray, List.set_cons_zero, List.set_cons_succ, List.getElem_toArray, List.getElem_cons_zero, List.getElem_cons_succ]
              refine wpAnyH_take (i := 11) (v := .agg (wds 36 fl).toArray) rfl (by kernel_rfl) (by kernel_rfl) (by kernel_rfl) (fun _ _ _ h => h) (yieldsIf_load_mid (by rfl) 34 (.tmp 15) rfl (q) (0) rfl (wds 36 fl) _ (fun v hv => hv.2.1.range) Tryd.underlying34 rfl (sizeM _)) (by with_reducible assumption) ?_
              simp only [Act.put, List.setIfInBounds_toArray, List.set_cons_zero, List.set_cons_succ, List.getElem_toArray, List.getElem_cons_zero, List.getElem_cons_succ]
              refine wpAnyH_ready (rs := [12]) (by kernel_rfl) (by simp) ?_
              refine (AllReadyH.cons rfl (fun K hK => ?_) AllReadyH.nil)
              go_simp
              go_at_call 22
              with_reducible refine (goodF_c fl _ wz5 ML1.out (HG.out.up (b_z5)) MR2.out).mono ?_
              rintro e wz6 ⟨rfl, hbz6⟩
              have r_z6 := (r_z5).up hbz6
              have p_z6 := (p_z5).up hbz6
              have q_z6 := (q_z5).up hbz6
              have e_z6 := (e_z5).up hbz6
              have t_z6 := (t_z5).up hbz6
              have b_z6 := bchain b_z5 hbz6
              try dsimp only
              refine hK.out _ _ (⟨p_z6, q_z6, r_z6, e_z6, t_z6⟩) (fun hHeld => ?_)
              clear hK K
              try simp only [Act.put, List.setIfInBounds_toArray, List.set_cons_zero, List.set_cons_succ, List.getElem_toArray, List.getElem_cons_zero, List.getElem_cons_succ]
              refine wpAnyH_take (i := 13) (v := ?_) rfl (by kernel_rfl) (by kernel_rfl) (by kernel_rfl) (fun _ _ _ h => h) (Or.inl ⟨by rfl, fun v hv => ?_⟩) (by with_reducible assumption) ?_
              rotate_left
              · go_simp
                try with_reducible rfl
              simp only [Act.put, List.setIfInBounds_toArray, List.set_cons_zero, List.set_cons_succ, List.getElem_toArray, List.getElem_cons_zero, List.getElem_cons_succ]
              refine wpAnyH_take (i := 14) (v := ?_) rfl (by kernel_rfl) (by kernel_rfl) (by kernel_rfl) (fun _ _ _ h => h) (Or.inl ⟨by rfl, fun v hv => ?_⟩) (by with_reducible assumption) ?_
              rotate_left
              · go_simp
                try with_reducible rfl
              simp only [Act.put, List.setIfInBounds_toArray, List.set_cons_zero, List.set_cons_succ, List.getElem_toArray, List.getElem_cons_zero, List.getElem_cons_succ]
              refine wpAnyH_take (i := 15) (v := ?_) rfl (by kernel_rfl) (by kernel_rfl) (by kernel_rfl) (fun _ _ _ h => h) (Or.inl ⟨by rfl, fun v hv => ?_⟩) (by with_reducible assumption) ?_
              rotate_left
              · go_simp
                try with_reducible rfl
              simp only [Act.put, List.setIfInBounds_toArray, List.set_cons_zero, List.set_cons_succ, List.getElem_toArray, List.getElem_cons_zero, List.getElem_cons_succ]
              refine wpAnyH_take (i := 16) (v := .agg (wds 36 s).toArray) rfl (by kernel_rfl) (by kernel_rfl) (by kernel_rfl) (fun _ _ _ h => h) (yieldsIf_load_mid (by rfl) 34 (.tmp 16) rfl (r) (0) rfl (wds 36 s) _ (fun v hv => hv.2.2.1.range) Tryd.underlying34 rfl (sizeM _)) (by with_reducible assumption) ?_
              simp only [Act.put, List.setIfInBounds_toArray, List.set_cons_zero, List.set_cons_succ, List.getElem_toArray, List.getElem_cons_zero, List.getElem_cons_succ]
              refine wpAnyH_take (i := 18) (v := .agg (wds 4 gd).toArray) rfl (by kernel_rfl) (by kernel_rfl) (by kernel_rfl) (fun _ _ _ h => h) (yieldsIf_load_mid (by rfl) 30 (.tmp 11) rfl (be) (0) rfl (wds 4 gd) _ (fun v hv => hv.2.2.2.1.range) Tryd.underlying30 rfl (sizeE _)) (by with_reducible assumption) ?_
              simp only [Act.put, List.setIfInBounds_toArray, List.set_cons_zero, List.set_cons_succ, List.getElem_toArray, List.getElem_cons_zero, List.getElem_cons_succ]
              refine wpAnyH_take (i := 19) (v := .agg (wds 4 gt).toArray) rfl (by kernel_rfl) (by kernel_rfl) (by kernel_rfl) (fun _ _ _ h => h) (yieldsIf_load_mid (by rfl) 30 (.tmp 17) rfl (bt) (0) rfl (wds 4 gt) _ (fun v hv => hv.2.2.2.2.range) Tryd.underlying30 rfl (sizeE _)) (by with_reducible assumption) ?_
              simp only [Act.put, List.setIfInBounds_toArray, List.set_cons_zero, List.set_cons_succ, List.getElem_toArray, List.getElem_cons_zero, List.getElem_cons_succ]
              refine wpAnyH_ready (rs := [17]) (by kernel_rfl) (by simp) ?_
              refine (AllReadyH.cons rfl (fun K hK => ?_) AllReadyH.nil)
              go_simp
              go_at_call 20
              with_reducible refine (det_c s _ wz6 HMT.out (HG.out.up (b_z6))).mono ?_
              rintro e wz7 ⟨_, rfl, h4, hbz7⟩
              have r_z7 := (r_z6).up hbz7
              have p_z7 := (p_z6).up hbz7
              have q_z7 := (q_z6).up hbz7
              have e_z7 := (e_z6).up hbz7
              have t_z7 := (t_z6).up hbz7
              have b_z7 := bchain b_z6 hbz7
              try dsimp only
              refine hK.out _ _ (⟨p_z7, q_z7, r_z7, e_z7, t_z7⟩) (fun hHeld => ?_)
              clear hK K
              try simp only [Act.put, List.setIfInBounds_toArray, List.set_cons_zero, List.set_cons_succ, List.getElem_toArray, List.getElem_cons_zero, List.getElem_cons_succ]
              refine wpAnyH_ready (rs := [20]) (by kernel_rfl) (by simp) ?_
              refine (AllReadyH.cons rfl (fun K hK => ?_) AllReadyH.nil)
              go_simp
              go_at_call 25
              with_reducible refine (emulZ_c _ _ _ _ wz7 HD.out HT.out (HG.out.up (b_z7))).mono ?_
              rintro e wz8 ⟨_, rfl, h5, hbz8⟩
              have r_z8 := (r_z7).up hbz8
              have p_z8 := (p_z7).up hbz8
              have q_z8 := (q_z7).up hbz8
              have e_z8 := (e_z7).up hbz8
              have t_z8 := (t_z7).up hbz8
              have b_z8 := bchain b_z7 hbz8
              try dsimp only
              refine hK.out _ _ (⟨p_z8, q_z8, r_z8, e_z8, t_z8⟩) (fun hHeld => ?_)
              clear hK K
              try simp only [Act.put, List.setIfInBounds_toArray, List.set_cons_zero, List.set_cons_succ, List.getElem_toArray, List.getElem_cons_zero, List.getElem_cons_succ]
              refine wpAnyH_ready (rs := [21]) (by kernel_rfl) (by simp) ?_
              refine (AllReadyH.cons rfl (fun K hK => ?_) AllReadyH.nil)
              go_simp
              go_at_call 24
              with_reducible refine (equal_t _ _ _ _ wz8 h4 h5 (congrArg (· % pZ) MR3.out)).mono ?_
              rintro e wz9 ⟨rfl, hbz9⟩
              have r_z9 := (r_z8).up hbz9
              have p_z9 := (p_z8).up hbz9
              have q_z9 := (q_z8).up hbz9
              have e_z9 := (e_z8).up hbz9
              have t_z9 := (t_z8).up hbz9
              have b_z9 := bchain b_z8 hbz9
              try dsimp only
              refine hK.out _ _ (⟨p_z9, q_z9, r_z9, e_z9, t_z9⟩) (fun hHeld => ?_)
              clear hK K
              try simp only [Act.put, List.setIfInBounds_toArray, List.set_cons_zero, List.set_cons_succ, List.getElem_toArray, List.getElem_cons_zero, List.getElem_cons_succ]
              refine wpAnyH_take (i := 22) (v := ?_) rfl (by kernel_rfl) (by kernel_rfl) (by kernel_rfl) (fun _ _ _ h => h) (Or.inl ⟨by rfl, fun v hv => ?_⟩) (by with_reducible assumption) ?_
              rotate_left
              · go_simp
                try with_reducible rfl
              simp only [Act.put, List.setIfInBounds_toArray, List.set_cons_zero, List.set_cons_succ, List.getElem_toArray, List.getElem_cons_zero, List.getElem_cons_succ]
              refine wpAnyH_take (i := 23) (v := ?_) rfl (by kernel_rfl) (by kernel_rfl) (by kernel_rfl) (fun _ _ _ h => h) (Or.inl ⟨by rfl, fun v hv => ?_⟩) (by with_reducible assumption) ?_
              rotate_left
              · go_simp
                try with_reducible rfl
              simp only [Act.put, List.setIfInBounds_toArray, List.set_cons_zero, List.set_cons_succ, List.getElem_toArray, List.getElem_cons_zero, List.getElem_cons_succ]
              refine wpAnyH_done (by kernel_rfl) ?_ _
              go_wp2_with fail
              go_ret
              exact ⟨rfl, b_z9⟩
    · have hd : (nb : Int) > 40 := by omega
      have hd2 : 40 < nb := by omega
      go_wp2_with fail
      refine (speaks9_c w1f0 (HG.out.up HB.out)).mono ?_
      rintro e wz ⟨rfl, bz⟩
      have HBZ := hid (bchain HB.out bz)
      clear bz
      go_wp2
      go_ret
      exact ⟨rfl, HBZ.out⟩
  · go_enter Tryd.func6, Tryd.ntmps6
    go_wp2_with fail
    generalize (w.alloc _) = w0 at *
    refine (speaks9_c w0 (HG.out.up HB.out)).mono ?_
    rintro e w1 ⟨rfl, b1⟩
    have HX0' := hid (HX0.out.up b1)
    clear HX0
    have HX0 := HX0'
    clear HX0'
    have HB' := hid (bchain HB.out b1)
    clear HB
    have HB := HB'
    clear HB' b1
    go_wp2_with (first
    | refine wpList_load_midG (by rfl) 24 (.tmp 4) rfl (w.heap.size) 0 rfl (sls A0 n0 c0) _ (by with_reducible exact HX0.out.range) Tryd.underlying24 rfl (sizeNA _ _ _) ?_
    | fail)
    refine (few_f A0 n0 c0 w1 hF0).mono ?_
    rintro e w1f0 ⟨rfl, bf0⟩
    have HX0' := hid (HX0.out.up bf0)
    clear HX0
    have HX0 := HX0'
    clear HX0'
    have HB' := hid (bchain HB.out bf0)
    clear HB
    have HB := HB'
    clear HB' bf0
    go_wp2_with fail
    refine (speaks9_c w1f0 (HG.out.up HB.out)).mono ?_
    rintro e wz ⟨rfl, bz⟩
    have HBZ := hid (bchain HB.out bz)
    clear bz
    go_wp2
    go_ret
    exact ⟨rfl, HBZ.out⟩
end Go.Proofs.YtlpccdbcaffmmaaDoor
