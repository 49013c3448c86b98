import Derived.Test.YtdepkfdceidikaaGreatDoorPqB
import Derived.Test.YtdepkfdceidikaaGreatDoorPpF
import Derived.Test.YtdepkfdceidikaaGreatDoorMnE
/-
  avouchref10: Constant, Power, Round, Permute: what each call does.
-/
namespace Go.Proofs.YtdepkfdceidikaaGreatDoor
open Go.RowKit
set_option linter.unusedVariables false
set_option linter.unusedSimpArgs false


theorem sizeTab2 (a b : Value) : (Tryz.prog.info? 32).map (·.size) = some [a, b].length := sizeT
/-- The pair's forms. -/
theorem TabZ.form {w : World} {v vM : Value} (h : TabZ w v vM) : ∃ bc cc bm cm, v = .slice (some ⟨bc, 0, none⟩) 195 cc ∧ vM = .slice (some ⟨bm, 0, none⟩) 3 cm := by
  obtain ⟨bc, cc, e1, _, _⟩ := h.c.at_
  obtain ⟨bm, cm, e2, _, _⟩ := h.m.at_
  exact ⟨bc, cc, bm, cm, e1, e2⟩
set_option maxRecDepth 20000 in
set_option maxHeartbeats 1000000 in
theorem r10Constant_c (v vM : Value) (r : Int) (i : Nat) (w : World) (hT : TabZ w v vM) (hi : i < 3) :
    Calls Tryz.prog 19 #[.agg #[v, vM], .int .i64 r, .int .i64 (i : Int)] w fun e w' => ∃ d, e = .returned d ∧ Dz w' d (pcI r i) ∧ Below w.heap.size w w' := by
  obtain ⟨bc, cc, bm, cm, rfl, rfl⟩ := hT.form
  have hB := hid ((Below.refl w.heap.size w).alloc (Nat.le_refl _) (.cells #[.slice (some ⟨bc, 0, none⟩) 195 cc, .slice (some ⟨bm, 0, none⟩) 3 cm] 32))
  by_cases hin : 0 ≤ r ∧ r < 65
  · obtain ⟨k, rfl⟩ := Int.eq_ofNat_of_zero_le hin.1
    have hk : k < 65 := by omega
    have d0 : decide ((k : Int) < 0) = false := decide_eq_false (by omega)
    have d1 : decide (64 < (k : Int)) = false := decide_eq_false (by omega)
    have i0 : (0 : Int) ≤ (k : Int) := by omega
    have i1 : (k : Int) < 65 := by omega
    have i2 : (0 : Int) ≤ (i : Int) := by omega
    have i3 : (i : Int) < 3 := by omega
    obtain ⟨b', c', e, hlt, hc⟩ := hT.c.at_
    injection e with e1 e2 e3
    injection e1 with e1
    injection e1 with e1
    subst e1 e3
    obtain ⟨d, hd, cd⟩ := hc (3 * k + i) (by omega)
    have hz : ((gelK (3 * k + i) (gS 254 3 8 57) : Nat) : Int) = pcI (k : Int) i := by
      rw [pcI_nat hk]
      unfold pcZ
      rw [if_pos hk]
    rw [hz] at hd
    have HD := hid (hd.up hB.out)
    have C0 : (w.alloc (.cells #[.slice (some ⟨bc, 0, none⟩) 195 cc, .slice (some ⟨bm, 0, none⟩) 3 cm] 32)).cell? ⟨bc, 3 * k + i, none⟩ = some d := (hB.out.cell (p := ⟨bc, 3 * k + i, none⟩) hlt).trans cd
    have n0 : ¬ bc = w.heap.size := by omega
    clear hT hc hd cd e2 hz hin
    go_enter Tryz.func19, Tryz.ntmps19
    go_wp2_with fail
    go_ret
    exact ⟨_, rfl, HD.out, hB.out⟩
  · have HZ : Hid (∀ w', Dz w' (.slice none 0 0) (pcI r i)) := fun w' => (Dz.empty w' none 0).eq (pcI_out hin i).symm
    by_cases hn : r < 0
    · go_enter Tryz.func19, Tryz.ntmps19
      go_wp2_with fail
      go_ret
      exact ⟨_, rfl, HZ.out _, hB.out⟩
    · have d0 : decide (r < 0) = false := decide_eq_false hn
      have i1 : 64 < r := by omega
      go_enter Tryz.func19, Tryz.ntmps19
      go_wp2_with fail
      go_ret
      exact ⟨_, rfl, HZ.out _, hB.out⟩
set_option maxRecDepth 20000 in
set_option maxHeartbeats 1000000 in
theorem r10Power_c (u : Value) (X : Int) (w : World) (hu : Dz w u X) :
    Calls Tryz.prog 39 #[u] w fun e w' => ∃ d, e = .returned d ∧ Dz w' d (pw5 X) ∧ Below w.heap.size w w' := by
  have HU := hid hu
  go_enter Tryz.func39, Tryz.ntmps39
  go_wp2_with fail
  refine (dMulZ_c u u X X w HU.out HU.out).mono ?_
  rintro e w1 ⟨d1, rfl, h1, b1⟩
  have H1 := hid h1
  have B1 := hid b1
  clear h1 b1 hu
  go_wp2_with fail
  refine (dMulZ_c d1 d1 _ _ w1 H1.out H1.out).mono ?_
  rintro e w2 ⟨d2, rfl, h2, b2⟩
  have H2 := hid h2
  have B2 := hid (bchain B1.out b2)
  have U2 := hid ((HU.out.up B1.out).up b2)
  clear h2 b2 B1
  go_wp2_with fail
  refine (dMulZ_c d2 u _ _ w2 H2.out U2.out).mono ?_
  rintro e w3 ⟨d3, rfl, h3, b3⟩
  have H3 := hid h3
  have B3 := hid (bchain B2.out b3)
  clear h3 b3 B2
  go_wp2_with fail
  go_ret
  exact ⟨_, rfl, H3.out, B3.out⟩
end Go.Proofs.YtdepkfdceidikaaGreatDoor
/-
  avouchref10: Round, Permute: what each call does.
-/
namespace Go.Proofs.YtdepkfdceidikaaGreatDoor
open Go.RowKit
set_option linter.unusedVariables false
set_option linter.unusedSimpArgs false

set_option maxRecDepth 20000 in
set_option maxHeartbeats 4000000 in
theorem r10Round_c (v vM vv : Value) (r : Int) (V : Nat → Int) (w : World) (hT : TabZ w v vM) (hV : DV w vv 3 V) :
    Calls Tryz.prog 14 #[.agg #[v, vM], vv, .int .i64 r] w fun e w' => ∃ u, e = .returned u ∧ DV w' u 3 (rdZ (pcI r) (fulI r) V) ∧ Below w.heap.size w w' := by
  rw [rdZ_rs]
  obtain ⟨bc, cc, bm, cm, rfl, rfl⟩ := hT.form
  obtain ⟨bv, cv, rfl, _, _⟩ := hV.at_
  have HT := hid hT
  have HV := hid hV
  have hs : (w.alloc (.cells #[(.slice (some ⟨bc, 0, none⟩) 195 cc), (.slice (some ⟨bm, 0, none⟩) 3 cm)] 32)).heap.size = w.heap.size + 1 := by simp
  have hb0 := (Below.refl w.heap.size w).alloc (Nat.le_refl _) (.cells #[(.slice (some ⟨bc, 0, none⟩) 195 cc), (.slice (some ⟨bm, 0, none⟩) 3 cm)] 32)
  have T0 := BlkV.new w 32 [(.slice (some ⟨bc, 0, none⟩) 195 cc), (.slice (some ⟨bm, 0, none⟩) 3 cm)]
  have R1 := hid (RowT.new 50 (w.alloc (.cells #[(.slice (some ⟨bc, 0, none⟩) 195 cc), (.slice (some ⟨bm, 0, none⟩) 3 cm)] 32)) (w.heap.size + 1) (by omega))
  have hb1 : Below (w.alloc (.cells #[(.slice (some ⟨bc, 0, none⟩) 195 cc), (.slice (some ⟨bm, 0, none⟩) 3 cm)] 32)).heap.size (w.alloc (.cells #[(.slice (some ⟨bc, 0, none⟩) 195 cc), (.slice (some ⟨bm, 0, none⟩) 3 cm)] 32)) ((w.alloc (.cells #[(.slice (some ⟨bc, 0, none⟩) 195 cc), (.slice (some ⟨bm, 0, none⟩) 3 cm)] 32)).alloc (.cells #[] 50)) := (Below.refl _ _).alloc (Nat.le_refl _) _
  have T1 := hid (T0.up hb1)
  have B1 := hid (bchain hb0 hb1)
  rw [hs] at R1
  clear hT hV hb0 hb1 T0
  go_enter Tryz.func14, Tryz.ntmps14
  go_wp2_with fail
  try rw [hs]
  generalize ((w.alloc _).alloc _) = w0 at *
  clear hs
  go_loopw [7, 8] (fun u i wr => ∃ m : Nat, ∃ ds : List Value, m ≤ 3 ∧ i = .int .i64 m ∧ Hid (ds.length = m) ∧ RowT 50 wr (w.heap.size + 1) u ds ∧ AllZ wr ds (rsZ (pcI r) (fulI r) V) ∧ BlkV wr w.heap.size 32 [(.slice (some ⟨bc, 0, none⟩) 195 cc), (.slice (some ⟨bm, 0, none⟩) 3 cm)] ∧ Below w.heap.size w wr) (fun _ i _ => 3 - (intOf i).toNat)
  case atStart => exact ⟨0, [], by omega, rfl, hid rfl, R1.out, AllZ.nil _ _, T1.out, B1.out⟩
  case round =>
    clear R1 B1 T1
    obtain ⟨m, ds, hm, rfl, HD, hr, ha, ht, hb⟩ := hrel
    by_cases hltm : m < 3
    · have j0 : (0 : Int) ≤ (m : Int) := by omega
      have j2 : (m : Int) < 3 := by omega
      obtain ⟨bv', cv', ev, hbv, hcv⟩ := (HV.out.up hb).at_
      injection ev with ev1 ev2 ev3
      injection ev1 with ev1
      injection ev1 with ev1
      subst ev1 ev3
      obtain ⟨d, hd, cd⟩ := hcv m hltm
      obtain ⟨dA, dn, dc, rfl⟩ := hd.form
      have OC : Hid (∀ v, Below wr.heap.size wr v → v.cell? ⟨bv, m, none⟩ = some (.slice dA dn dc)) := fun v hv => (hv.cell (p := ⟨bv, m, none⟩) hbv).trans cd
      have OT : Hid (∀ v, Below wr.heap.size wr v → v.rangeAt w.heap.size 0 [(.slice (some ⟨bc, 0, none⟩) 195 cc), (.slice (some ⟨bm, 0, none⟩) 3 cm)]) := fun v hv => (ht.up hv).range
      have ED := hid hd
      have hr1 := hid hr
      have ha1 := hid ha
      have hb1 := hid hb
      have ht1 := hid ht
      have HTR := hid (HT.out.up hb)
      clear hd hcv cd ev2 hr ha hb ht hbv
      go_wp2_with fail
      have b0 : Below wr.heap.size wr wr.drew := (Below.refl _ _).drew
      refine wp_region_held_drew (S := fun v => Below wr.heap.size wr v) (by kernel_rfl) b0 (fun hHeld => ?_)
      refine wpAnyH_take (i := 0) (v := ?_) rfl (by kernel_rfl) (by kernel_rfl) (by kernel_rfl) (fun _ _ _ h => h) (Or.inl ⟨by rfl, fun v hv => ?_⟩) (by with_reducible assumption) ?_
      rotate_left
      · go_simp
        try with_reducible rfl
      simp only [Act.put, List.setIfInBounds_toArray, List.set_cons_zero, List.set_cons_succ, List.getElem_toArray, List.getElem_cons_zero, List.getElem_cons_succ]
      refine wpAnyH_take (i := 1) (v := ?_) rfl (by kernel_rfl) (by kernel_rfl) (by kernel_rfl) (fun _ _ _ h => h) (Or.inl ⟨by rfl, fun v hv => ?_⟩) (by with_reducible assumption) ?_
      rotate_left
      · go_simp
        try with_reducible rfl
      simp only [Act.put, List.setIfInBounds_toArray, List.set_cons_zero, List.set_cons_succ, List.getElem_toArray, List.getElem_cons_zero, List.getElem_cons_succ]
      refine wpAnyH_take (i := 2) (v := ?_) rfl (by kernel_rfl) (by kernel_rfl) (by kernel_rfl) (fun _ _ _ h => h) (Or.inl ⟨by rfl, fun v hv => ?_⟩) (by with_reducible assumption) ?_
      rotate_left
      · go_simp
        try with_reducible rfl
      simp only [Act.put, List.setIfInBounds_toArray, List.set_cons_zero, List.set_cons_succ, List.getElem_toArray, List.getElem_cons_zero, List.getElem_cons_succ]
      refine wpAnyH_take (i := 3) (v := ?_) rfl (by kernel_rfl) (by kernel_rfl) (by kernel_rfl) (fun _ _ _ h => h) (Or.inl ⟨by rfl, fun v hv => ?_⟩) (by with_reducible assumption) ?_
      rotate_left
      · have hcc := OC.out v hv
        go_simp
        try with_reducible rfl
      simp only [Act.put, List.setIfInBounds_toArray, List.set_cons_zero, List.set_cons_succ, List.getElem_toArray, List.getElem_cons_zero, List.getElem_cons_succ]
      refine wpAnyH_take (i := 4) (v := .agg ([(.slice (some ⟨bc, 0, none⟩) 195 cc), (.slice (some ⟨bm, 0, none⟩) 3 cm)]).toArray) rfl (by kernel_rfl) (by kernel_rfl) (by kernel_rfl) (fun _ _ _ h => h) (yieldsIf_load_mid (by rfl) 32 (.tmp 3) rfl (w.heap.size) (0) rfl ([(.slice (some ⟨bc, 0, none⟩) 195 cc), (.slice (some ⟨bm, 0, none⟩) 3 cm)]) _ (fun v hv => OT.out v hv) Tryz.underlying32 rfl (@sizeTab2 (.slice (some ⟨bc, 0, none⟩) 195 cc) _)) (by with_reducible assumption) ?_
      simp only [Act.put, List.setIfInBounds_toArray, List.set_cons_zero, List.set_cons_succ, List.getElem_toArray, List.getElem_cons_zero, List.getElem_cons_succ]
      refine wpAnyH_take (i := 5) (v := ?_) rfl (by kernel_rfl) (by kernel_rfl) (by kernel_rfl) (fun _ _ _ h => h) (Or.inl ⟨by rfl, fun v hv => ?_⟩) (by with_reducible assumption) ?_
      rotate_left
      · go_simp
        try with_reducible rfl
      simp only [Act.put, List.setIfInBounds_toArray, List.set_cons_zero, List.set_cons_succ, List.getElem_toArray, List.getElem_cons_zero, List.getElem_cons_succ]
      refine wpAnyH_take (i := 6) (v := ?_) rfl (by kernel_rfl) (by kernel_rfl) (by kernel_rfl) (fun _ _ _ h => h) (Or.inl ⟨by rfl, fun v hv => ?_⟩) (by with_reducible assumption) ?_
      rotate_left
      · go_simp
        try with_reducible rfl
      simp only [Act.put, List.setIfInBounds_toArray, List.set_cons_zero, List.set_cons_succ, List.getElem_toArray, List.getElem_cons_zero, List.getElem_cons_succ]
      refine wpAnyH_ready (rs := [7]) (by kernel_rfl) (by simp) ?_
      refine (AllReadyH.cons rfl (fun K hK => ?_) AllReadyH.nil)
      go_simp
      go_at_call 19
      with_reducible refine (r10Constant_c _ _ r m wr.drew (HTR.out.up b0) hltm).mono ?_
      rintro e wr1 ⟨d2, rfl, hd2, hbr1⟩
      have b_r1 := bchain b0 hbr1
      try dsimp only
      refine hK.out _ _ (b_r1) (fun hHeld => ?_)
      clear hK K
      try simp only [Act.put, List.setIfInBounds_toArray, List.set_cons_zero, List.set_cons_succ, List.getElem_toArray, List.getElem_cons_zero, List.getElem_cons_succ]
      refine wpAnyH_ready (rs := [8]) (by kernel_rfl) (by simp) ?_
      refine (AllReadyH.cons rfl (fun K hK => ?_) AllReadyH.nil)
      go_simp
      go_at_call 38
      with_reducible refine (dAddZ_c _ d2 _ _ wr1 (ED.out.up b_r1) hd2).mono ?_
      rintro e wr2 ⟨da, rfl, hda, hbr2⟩
      have b_r2 := bchain b_r1 hbr2
      try dsimp only
      refine hK.out _ _ (b_r2) (fun hHeld => ?_)
      clear hK K
      try simp only [Act.put, List.setIfInBounds_toArray, List.set_cons_zero, List.set_cons_succ, List.getElem_toArray, List.getElem_cons_zero, List.getElem_cons_succ]
      refine wpAnyH_take (i := 9) (v := ?_) rfl (by kernel_rfl) (by kernel_rfl) (by kernel_rfl) (fun _ _ _ h => h) (Or.inl ⟨by rfl, fun v hv => ?_⟩) (by with_reducible assumption) ?_
      rotate_left
      · go_simp
        try with_reducible rfl
      simp only [Act.put, List.setIfInBounds_toArray, List.set_cons_zero, List.set_cons_succ, List.getElem_toArray, List.getElem_cons_zero, List.getElem_cons_succ]
      refine wpAnyH_done (by kernel_rfl) ?_ _
      have BB := hid b_r2
      have HDA := hid hda
      clear hda
      by_cases h4 : r < 4
      · have HRS : Hid (rsZ (pcI r) (fulI r) V m = pw5 (V m + pcI r m)) := by
          show _ = _
          unfold rsZ fulI
          rw [decide_eq_true h4]
          rfl
        go_wp2_with fail
        refine (r10Power_c _ _ wr2 HDA.out).mono ?_
        rintro e w4 ⟨d4, rfl, hd4, hb4⟩
        have BB4 := bchain BB.out hb4
        clear HDA BB hb4
        have HR2 := hid (hr1.out.below BB4)
        have HA2 := hid (ha1.out.up BB4)
        have HT2 := hid (ht1.out.up BB4)
        have HB2 := hid (bchain hb1.out BB4)
        have HDD := hid ((hd4.eq (by rw [← HRS.out])))
        have hds := HDD.out.sl
        obtain ⟨xA, xn, xc, rfl⟩ := HDD.out.form
        have hl : ds.length ≤ 1000 := by rw [HD.out]; omega
        have hbs := hid HT2.out.size
        clear hr1 ha1 ht1 hb1 HTR ED OC OT
        go_wp2_with (at_builtin; refine app_rowT 50 28 Tryz.underlying28 sl_info rfl (.tmp 36) (.tmp 38) rfl u7 (w.heap.size + 1) ds (.slice xA xn xc) rfl rfl HR2.out hl hbs.out hds ?_)
        intro v5 w5 hR5 hM5
        have hbm := HR2.out.moved hM5 hbs.out
        have G0 := hid hR5
        have G1 := hid (HA2.out.snoc (by rw [HD.out]; exact HDD.out) HR2.out hM5)
        have G2 := hid (HT2.out.below hbm (Nat.lt_succ_self _))
        have G3 := hid (HB2.out.trans (hbm.mono (Nat.le_succ _)))
        have GL : Hid ((ds ++ [Value.slice xA xn xc]).length = m + 1) := by show _ = _; rw [List.length_append, HD.out]; rfl
        clear hR5 hM5 hbm HR2 HA2 HT2 HB2 HDD hl hbs
        go_wp2_with fail
        go_roundw
        case rel => exact ⟨m + 1, _, by omega, by go_num, GL, G0.out, G1.out, G2.out, G3.out⟩
        case measure => simp [intOf]; omega
      · have d4 : decide (r < 4) = false := decide_eq_false h4
        by_cases h60 : 60 < r
        · have HRS : Hid (rsZ (pcI r) (fulI r) V m = pw5 (V m + pcI r m)) := by
            show _ = _
            unfold rsZ fulI
            rw [decide_eq_true h60, d4]
            rfl
          go_wp2_with fail
          refine (r10Power_c _ _ wr2 HDA.out).mono ?_
          rintro e w4 ⟨d4, rfl, hd4, hb4⟩
          have BB4 := bchain BB.out hb4
          clear HDA BB hb4
          have HR2 := hid (hr1.out.below BB4)
          have HA2 := hid (ha1.out.up BB4)
          have HT2 := hid (ht1.out.up BB4)
          have HB2 := hid (bchain hb1.out BB4)
          have HDD := hid ((hd4.eq (by rw [← HRS.out])))
          have hds := HDD.out.sl
          obtain ⟨xA, xn, xc, rfl⟩ := HDD.out.form
          have hl : ds.length ≤ 1000 := by rw [HD.out]; omega
          have hbs := hid HT2.out.size
          clear hr1 ha1 ht1 hb1 HTR ED OC OT
          go_wp2_with (at_builtin; refine app_rowT 50 28 Tryz.underlying28 sl_info rfl (.tmp 36) (.tmp 38) rfl u7 (w.heap.size + 1) ds (.slice xA xn xc) rfl rfl HR2.out hl hbs.out hds ?_)
          intro v5 w5 hR5 hM5
          have hbm := HR2.out.moved hM5 hbs.out
          have G0 := hid hR5
          have G1 := hid (HA2.out.snoc (by rw [HD.out]; exact HDD.out) HR2.out hM5)
          have G2 := hid (HT2.out.below hbm (Nat.lt_succ_self _))
          have G3 := hid (HB2.out.trans (hbm.mono (Nat.le_succ _)))
          have GL : Hid ((ds ++ [Value.slice xA xn xc]).length = m + 1) := by show _ = _; rw [List.length_append, HD.out]; rfl
          clear hR5 hM5 hbm HR2 HA2 HT2 HB2 HDD hl hbs
          go_wp2_with fail
          go_roundw
          case rel => exact ⟨m + 1, _, by omega, by go_num, GL, G0.out, G1.out, G2.out, G3.out⟩
          case measure => simp [intOf]; omega
        · have d60 : decide (60 < r) = false := decide_eq_false h60
          rcases Nat.eq_zero_or_pos m with hm0 | hm0
          · have e0 : ((m : Int) == 0) = true := by simp; omega
            have HRS : Hid (rsZ (pcI r) (fulI r) V m = pw5 (V m + pcI r m)) := by
              show _ = _
              unfold rsZ
              rw [show (m == 0) = true by simp; omega, Bool.or_true]
              rfl
            clear hm0
            go_wp2_with fail
            refine (r10Power_c _ _ wr2 HDA.out).mono ?_
            rintro e w4 ⟨d4, rfl, hd4, hb4⟩
            have BB4 := bchain BB.out hb4
            clear HDA BB hb4
            have HR2 := hid (hr1.out.below BB4)
            have HA2 := hid (ha1.out.up BB4)
            have HT2 := hid (ht1.out.up BB4)
            have HB2 := hid (bchain hb1.out BB4)
            have HDD := hid ((hd4.eq (by rw [← HRS.out])))
            have hds := HDD.out.sl
            obtain ⟨xA, xn, xc, rfl⟩ := HDD.out.form
            have hl : ds.length ≤ 1000 := by rw [HD.out]; omega
            have hbs := hid HT2.out.size
            clear hr1 ha1 ht1 hb1 HTR ED OC OT
            go_wp2_with (at_builtin; refine app_rowT 50 28 Tryz.underlying28 sl_info rfl (.tmp 36) (.tmp 38) rfl u7 (w.heap.size + 1) ds (.slice xA xn xc) rfl rfl HR2.out hl hbs.out hds ?_)
            intro v5 w5 hR5 hM5
            have hbm := HR2.out.moved hM5 hbs.out
            have G0 := hid hR5
            have G1 := hid (HA2.out.snoc (by rw [HD.out]; exact HDD.out) HR2.out hM5)
            have G2 := hid (HT2.out.below hbm (Nat.lt_succ_self _))
            have G3 := hid (HB2.out.trans (hbm.mono (Nat.le_succ _)))
            have GL : Hid ((ds ++ [Value.slice xA xn xc]).length = m + 1) := by show _ = _; rw [List.length_append, HD.out]; rfl
            clear hR5 hM5 hbm HR2 HA2 HT2 HB2 HDD hl hbs
            go_wp2_with fail
            go_roundw
            case rel => exact ⟨m + 1, _, by omega, by go_num, GL, G0.out, G1.out, G2.out, G3.out⟩
            case measure => simp [intOf]; omega
          · have e0 : ((m : Int) == 0) = false := by simp; omega
            have HRS : Hid (rsZ (pcI r) (fulI r) V m = V m + pcI r m) := by
              show _ = _
              unfold rsZ fulI
              rw [d4, d60, show (m == 0) = false by simp; omega]
              rfl
            clear hm0
            have BB4 := BB.out
            have HR2 := hid (hr1.out.below BB4)
            have HA2 := hid (ha1.out.up BB4)
            have HT2 := hid (ht1.out.up BB4)
            have HB2 := hid (bchain hb1.out BB4)
            have HDD := hid ((HDA.out.eq (by rw [← HRS.out])))
            have hds := HDD.out.sl
            obtain ⟨xA, xn, xc, rfl⟩ := HDD.out.form
            have hl : ds.length ≤ 1000 := by rw [HD.out]; omega
            have hbs := hid HT2.out.size
            clear hr1 ha1 ht1 hb1 HTR ED OC OT
            go_wp2_with (at_builtin; refine app_rowT 50 28 Tryz.underlying28 sl_info rfl (.tmp 36) (.tmp 38) rfl u7 (w.heap.size + 1) ds (.slice xA xn xc) rfl rfl HR2.out hl hbs.out hds ?_)
            intro v5 w5 hR5 hM5
            have hbm := HR2.out.moved hM5 hbs.out
            have G0 := hid hR5
            have G1 := hid (HA2.out.snoc (by rw [HD.out]; exact HDD.out) HR2.out hM5)
            have G2 := hid (HT2.out.below hbm (Nat.lt_succ_self _))
            have G3 := hid (HB2.out.trans (hbm.mono (Nat.le_succ _)))
            have GL : Hid ((ds ++ [Value.slice xA xn xc]).length = m + 1) := by show _ = _; rw [List.length_append, HD.out]; rfl
            clear hR5 hM5 hbm HR2 HA2 HT2 HB2 HDD hl hbs
            go_wp2_with fail
            go_roundw
            case rel => exact ⟨m + 1, _, by omega, by go_num, GL, G0.out, G1.out, G2.out, G3.out⟩
            case measure => simp [intOf]; omega
    · obtain rfl : m = 3 := by omega
      have hDV := hr.dv ha
      rw [HD.out] at hDV
      have HDV := hid hDV
      have HM3 := hid (HT.out.m.up hb)
      have C1 := ht.cell (i := 1) (by simp)
      simp only [List.getElem_cons_zero, List.getElem_cons_succ] at C1
      have HB3 := hid hb
      obtain ⟨bu, cu, rfl, _, _⟩ := hDV.at_
      clear hr ha ht hb hDV
      go_wp2_with fail
      refine (r9Apply_c _ _ mzCauchy _ wr HM3.out HDV.out).mono ?_
      rintro e w4 ⟨d4, rfl, hd4, hb4⟩
      have HF := hid hd4
      have HBF := hid (bchain HB3.out hb4)
      clear hd4 hb4
      go_wp2_with fail
      go_ret
      exact ⟨_, rfl, HF.out, HBF.out⟩
end Go.Proofs.YtdepkfdceidikaaGreatDoor
