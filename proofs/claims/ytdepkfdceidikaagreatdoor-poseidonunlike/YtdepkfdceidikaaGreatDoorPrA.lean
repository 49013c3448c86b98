import Derived.Test.YtdepkfdceidikaaGreatDoorPqB
import Derived.Test.YtdepkfdceidikaaGreatDoorPpF
import Derived.Test.YtdepkfdceidikaaGreatDoorMnE
/-
  avouchref10: Constant, Power, Round, Permute: what each call does.
-/
namespace Go.Proofs.YtdepkfdceidikaaGreatDoor
open Go.RowKit
set_option linter.unusedVariables false
set_option linter.unusedSimpArgs false


theorem sizeTab2 (a b : Value) : (Tryz.prog.info? 32).map (·.size) = some [a, b].length := sizeT
/-- The pair's forms. -/
theorem TabZ.form {w : World} {v vM : Value} (h : TabZ w v vM) : ∃ bc cc bm cm, v = .slice (some ⟨bc, 0, none⟩) 195 cc ∧ vM = .slice (some ⟨bm, 0, none⟩) 3 cm := by
  obtain ⟨bc, cc, e1, _, _⟩ := h.c.at_
  obtain ⟨bm, cm, e2, _, _⟩ := h.m.at_
  exact ⟨bc, cc, bm, cm, e1, e2⟩
set_option maxRecDepth 20000 in
set_option maxHeartbeats 1000000 in
theorem r10Constant_c (v vM : Value) (r : Int) (i : Nat) (w : World) (hT : TabZ w v vM) (hi : i < 3) :
    Calls Tryz.prog 19 #[.agg #[v, vM], .int .i64 r, .int .i64 (i : Int)] w fun e w' => ∃ d, e = .returned d ∧ Dz w' d (pcI r i) ∧ Below w.heap.size w w' := by
  obtain ⟨bc, cc, bm, cm, rfl, rfl⟩ := hT.form
  have hB := hid ((Below.refl w.heap.size w).alloc (Nat.le_refl _) (.cells #[.slice (some ⟨bc, 0, none⟩) 195 cc, .slice (some ⟨bm, 0, none⟩) 3 cm] 32))
  by_cases hin : 0 ≤ r ∧ r < 65
  · obtain ⟨k, rfl⟩ := Int.eq_ofNat_of_zero_le hin.1
    have hk : k < 65 := by omega
    have d0 : decide ((k : Int) < 0) = false := decide_eq_false (by omega)
    have d1 : decide (64 < (k : Int)) = false := decide_eq_false (by omega)
    have i0 : (0 : Int) ≤ (k : Int) := by omega
    have i1 : (k : Int) < 65 := by omega
    have i2 : (0 : Int) ≤ (i : Int) := by omega
    have i3 : (i : Int) < 3 := by omega
    obtain ⟨b', c', e, hlt, hc⟩ := hT.c.at_
    injection e with e1 e2 e3
    injection e1 with e1
    injection e1 with e1
    subst e1 e3
    obtain ⟨d, hd, cd⟩ := hc (3 * k + i) (by omega)
    have hz : ((gelK (3 * k + i) (gS 254 3 8 57) : Nat) : Int) = pcI (k : Int) i := by
      rw [pcI_nat hk]
      unfold pcZ
      rw [if_pos hk]
    rw [hz] at hd
    have HD := hid (hd.up hB.out)
    have C0 : (w.alloc (.cells #[.slice (some ⟨bc, 0, none⟩) 195 cc, .slice (some ⟨bm, 0, none⟩) 3 cm] 32)).cell? ⟨bc, 3 * k + i, none⟩ = some d := (hB.out.cell (p := ⟨bc, 3 * k + i, none⟩) hlt).trans cd
    have n0 : ¬ bc = w.heap.size := by omega
    clear hT hc hd cd e2 hz hin
    go_enter Tryz.func19, Tryz.ntmps19
    go_wp2_with fail
    go_ret
    exact ⟨_, rfl, HD.out, hB.out⟩
  · have HZ : Hid (∀ w', Dz w' (.slice none 0 0) (pcI r i)) := fun w' => (Dz.empty w' none 0).eq (pcI_out hin i).symm
    by_cases hn : r < 0
    · go_enter Tryz.func19, Tryz.ntmps19
      go_wp2_with fail
      go_ret
      exact ⟨_, rfl, HZ.out _, hB.out⟩
    · have d0 : decide (r < 0) = false := decide_eq_false hn
      have i1 : 64 < r := by omega
      go_enter Tryz.func19, Tryz.ntmps19
      go_wp2_with fail
      go_ret
      exact ⟨_, rfl, HZ.out _, hB.out⟩
set_option maxRecDepth 20000 in
set_option maxHeartbeats 1000000 in
theorem r10Power_c (u : Value) (X : Int) (w : World) (hu : Dz w u X) :
    Calls Tryz.prog 39 #[u] w fun e w' => ∃ d, e = .returned d ∧ Dz w' d (pw5 X) ∧ Below w.heap.size w w' := by
  have HU := hid hu
  go_enter Tryz.func39, Tryz.ntmps39
  go_wp2_with fail
  refine (dMulZ_c u u X X w HU.out HU.out).mono ?_
  rintro e w1 ⟨d1, rfl, h1, b1⟩
  have H1 := hid h1
  have B1 := hid b1
  clear h1 b1 hu
  go_wp2_with fail
  refine (dMulZ_c d1 d1 _ _ w1 H1.out H1.out).mono ?_
  rintro e w2 ⟨d2, rfl, h2, b2⟩
  have H2 := hid h2
  have B2 := hid (bchain B1.out b2)
  have U2 := hid ((HU.out.up B1.out).up b2)
  clear h2 b2 B1
  go_wp2_with fail
  refine (dMulZ_c d2 u _ _ w2 H2.out U2.out).mono ?_
  rintro e w3 ⟨d3, rfl, h3, b3⟩
  have H3 := hid h3
  have B3 := hid (bchain B2.out b3)
  clear h3 b3 B2
  go_wp2_with fail
  go_ret
  exact ⟨_, rfl, H3.out, B3.out⟩
end Go.Proofs.YtdepkfdceidikaaGreatDoor
/-
  avouchref10: Round, Permute: what each call does.
-/
namespace Go.Proofs.YtdepkfdceidikaaGreatDoor
open Go.RowKit
set_option linter.unusedVariables false
set_option linter.unusedSimpArgs false

set_option maxRecDepth 20000 in
set_option maxHeartbeats 4000000 in
theorem r10Round_c (v vM vv : Value) (r : Int) (V : Nat → Int) (w : World) (hT : TabZ w v vM) (hV : DV w vv 3 V) :
    Calls Tryz.prog 14 #[.agg #[v, vM], vv, .int .i64 r] w fun e w' => ∃ u, e = .returned u ∧ DV w' u 3 (rdZ (pcI r) (fulI r) V) ∧ Below w.heap.size w w' := by
  rw [rdZ_rs]
  obtain ⟨bc, cc, bm, cm, rfl, rfl⟩ := hT.form
  obtain ⟨bv, cv, rfl, _, _⟩ := hV.at_
  have HT := hid hT
  have HV := hid hV
  have hs : (w.alloc (.cells #[(.slice (some ⟨bc, 0, none⟩) 195 cc), (.slice (some ⟨bm, 0, none⟩) 3 cm)] 32)).heap.size = w.heap.size + 1 := by simp
  have hb0 := (Below.refl w.heap.size w).alloc (Nat.le_refl _) (.cells #[(.slice (some ⟨bc, 0, none⟩) 195 cc), (.slice (some ⟨bm, 0, none⟩) 3 cm)] 32)
  have T0 := BlkV.new w 32 [(.slice (some ⟨bc, 0, none⟩) 195 cc), (.slice (some ⟨bm, 0, none⟩) 3 cm)]
  have R1 := hid (RowT.new 50 (w.alloc (.cells #[(.slice (some ⟨bc, 0, none⟩) 195 cc), (.slice (some ⟨bm, 0, none⟩) 3 cm)] 32)) (w.heap.size + 1) (by omega))
  have hb1 : Below (w.alloc (.cells #[(.slice (some ⟨bc, 0, none⟩) 195 cc), (.slice (some ⟨bm, 0, none⟩) 3 cm)] 32)).heap.size (w.alloc (.cells #[(.slice (some ⟨bc, 0, none⟩) 195 cc), (.slice (some ⟨bm, 0, none⟩) 3 cm)] 32)) ((w.alloc (.cells #[(.slice (some ⟨bc, 0, none⟩) 195 cc), (.slice (some ⟨bm, 0, none⟩) 3 cm)] 32)).alloc (.cells #[] 50)) := (Below.refl _ _).alloc (Nat.le_refl _) _
  have T1 := hid (T0.up hb1)
  have B1 := hid (bchain hb0 hb1)
  rw [hs] at R1
  clear hT hV hb0 hb1 T0
  go_enter Tryz.func14, Tryz.ntmps14
  go_wp2_with fail
  try rw [hs]
  generalize ((w.alloc _).alloc _) = w0 at *
  clear hs
  go_loopw [7, 8] (fun u i wr => ∃ m : Nat, ∃ ds : List Value, m ≤ 3 ∧ i = .int .i64 m ∧ Hid (ds.length = m) ∧ RowT 50 wr (w.heap.size + 1) u ds ∧ AllZ wr ds (rsZ (pcI r) (fulI r) V) ∧ BlkV wr w.heap.size 32 [(.slice (some ⟨bc, 0, none⟩) 195 cc), (.slice (some ⟨bm, 0, none⟩) 3 cm)] ∧ Below w.heap.size w wr) (fun _ i _ => 3 - (intOf i).toNat)
  case atStart => exact ⟨0, [], by omega, rfl, hid rfl, R1.out, AllZ.nil _ _, T1.out, B1.out⟩
  case round =>
    clear R1 B1 T1
    obtain ⟨m, ds, hm, rfl, HD, hr, ha, ht, hb⟩ := hrel
    by_cases hltm : m < 3
    · have j0 : (0 : Int) ≤ (m : Int) := by omega
      have j2 : (m : Int) < 3 := by omega
      obtain ⟨bv', cv', ev, hbv, hcv⟩ := (HV.out.up hb).at_
      injection ev with ev1 ev2 ev3
      injection ev1 with ev1
      injection ev1 with ev1
      subst ev1 ev3
      obtain ⟨d, hd, cd⟩ := hcv m hltm
      obtain ⟨dA, dn, dc, rfl⟩ := hd.form
      have OC : Hid (∀ v, Below wr.heap.size wr v → v.cell? ⟨bv, m, none⟩ = some (.slice dA dn dc)) := fun v hv => (hv.cell (p := ⟨bv, m, none⟩) hbv).trans cd
      have OT : Hid (∀ v, Below wr.heap.size wr v → v.rangeAt w.heap.size 0 [(.slice (some ⟨bc, 0, none⟩) 195 cc), (.slice (some ⟨bm, 0, none⟩) 3 cm)]) := fun v hv => (ht.up hv).range
      have ED := hid hd
      have hr1 := hid hr
      have ha1 := hid ha
      have hb1 := hid hb
      have ht1 := hid ht
      have HTR := hid (HT.out.up hb)
      clear hd hcv cd ev2 hr ha hb ht hbv
      go_wp2_with fail
      have b0 : Below wr.heap.size wr wr.drew := (Below.refl _ _).drew
      refine wp_region_held_drew (S := fun v => Below wr.heap.size wr v) (by kernel_rfl) b0 (fun hHeld => ?_)
      refine wpAnyH_take (i := 0) (v := ?_) rfl (by kernel_rfl) (by kernel_rfl) (by kernel_rfl) (fun _ _ _ h => h) (Or.inl ⟨by rfl, fun v hv => ?_⟩) (by with_reducible assumption) ?_
      rotate_left
      · go_simp
        try with_reducible rfl
      simp only [Act.put, List.setIfInBounds_toArray, List.set_cons_zero, List.set_cons_succ, List.getElem_toArray, List.getElem_cons_zero, List.getElem_cons_succ]
      refine wpAnyH_take (i := 1) (v := ?_) rfl (by kernel_rfl) (by kernel_rfl) (by kernel_rfl) (fun _ _ _ h => h) (Or.inl ⟨by rfl, fun v hv => ?_⟩) (by with_reducible assumption) ?_
      rotate_left
      · go_simp
        try with_reducible rfl
      simp only [Act.put, List.setIfInBounds_toArray, List.set_cons_zero, List.set_cons_succ, List.getElem_toArray, List.getElem_cons_zero, List.getElem_cons_succ]
      refine wpAnyH_take (i := 2) (v := ?_) rfl (by kernel_rfl) (by kernel_rfl) (by kernel_rfl) (fun _ _ _ h => h) (Or.inl ⟨by rfl, fun v hv => ?_⟩) (by with_reducible assumption) ?_
      rotate_left
      · go_simp
        try with_reducible rfl
      simp only [Act.put, List.setIfInBounds_toArray, List.set_cons_zero, List.set_cons_succ, List.getElem_toArray, List.getElem_cons_zero, List.getElem_cons_succ]
      refine wpAnyH_take (i := 3) (v := ?_) rfl (by kernel_rfl) (by kernel_rfl) (by kernel_rfl) (fun _ _ _ h => h) (Or.inl ⟨by rfl, fun v hv => ?_⟩) (by with_reducible assumption) ?_
      rotate_left
      · have hcc := OC.out v hv
        go_simp
        try with_reducible rfl
      simp only [Act.put, List.setIfInBounds_toArray, List.set_cons_zero, List.set_cons_succ, List.getElem_toArray, List.getElem_cons_zero, List.getElem_cons_succ]
      refine wpAnyH_take (i := 4) (v := .agg ([(.slice (some ⟨bc, 0, none⟩) 195 cc), (.slice (some ⟨bm, 0, none⟩) 3 cm)]).toArray) rfl (by kernel_rfl) (by kernel_rfl) (by kernel_rfl) (fun _ _ _ h => h) (yieldsIf_load_mid (by rfl) 32 (.tmp 3) rfl (w.heap.size) (0) rfl ([(.slice (some ⟨bc, 0, none⟩) 195 cc), (.slice (some ⟨bm, 0, none⟩) 3 cm)]) _ (fun v hv => OT.out v hv) Tryz.underlying32 rfl (@sizeTab2 (.slice (some ⟨bc, 0, none⟩) 195 cc) _)) (by with_reducible assumption) ?_
      simp only [Act.put, List.setIfInBounds_toArray, List.set_cons_zero, List.set_cons_succ, List.getElem_toArray, List.getElem_cons_zero, List.getElem_cons_succ]
      refine wpAnyH_take (i := 5) (v := ?_) rfl (by kernel_rfl) (by kernel_rfl) (by kernel_rfl) (fun _ _ _ h => h) (Or.inl ⟨by rfl, fun v hv => ?_⟩) (by with_reducible assumption) ?_
      rotate_left
      · go_simp
        try with_reducible rfl
      simp only [Act.put, List.setIfInBounds_toArray, List.set_cons_zero, List.set_cons_succ, List.getElem_toArray, List.getElem_cons_zero, List.getElem_cons_succ]
      refine wpAnyH_take (i := 6) (v := ?_) rfl (by kernel_rfl) (by kernel_rfl) (by kernel_rfl) (fun _ _ _ h => h) (Or.inl ⟨by rfl, fun v hv => ?_⟩) (by with_reducible assumption) ?_
      rotate_left
      · go_simp
        try with_reducible rfl
      simp only [Act.put, List.setIfInBounds_toArray, List.set_cons_zero, List.set_cons_succ, List.getElem_toArray, List.getElem_cons_zero, List.getElem_cons_succ]
      refine wpAnyH_ready (rs := [7]) (by kernel_rfl) (by simp) ?_
      refine (AllReadyH.cons rfl (fun K hK => ?_) AllReadyH.nil)
      go_simp
      go_at_call 19
      with_reducible refine (r10Constant_c _ _ r m wr.drew (HTR.out.up b0) hltm).mono ?_
      rintro e wr1 ⟨d2, rfl, hd2, hbr1⟩
      have b_r1 := bchain b0 hbr1
      try dsimp only
      refine hK.out _ _ (b_r1) (fun hHeld => ?_)
      clear hK K
      try simp only [Act.put, List.setIfInBounds_toArray, List.set_cons_zero, List.set_cons_succ, List.getElem_toArray, List.getElem_cons_zero, List.getElem_cons_succ]
      refine wpAnyH_ready (rs := [8]) (by kernel_rfl) (by simp) ?_
      refine (AllReadyH.cons rfl (fun K hK => ?_) AllReadyH.nil)
      go_simp
      go_at_call 38
      with_reducible refine (dAddZ_c _ d2 _ _ wr1 (ED.out.up b_r1) hd2).mono ?_
      rintro e wr2 ⟨da, rfl, hda, hbr2⟩
      have b_r2 := bchain b_r1 hbr2
      try dsimp only
      refine hK.out _ _ (b_r2) (fun hHeld => ?_)
      clear hK K
      try simp only [Act.put, List.setIfInBounds_toArray, List.set_cons_zero, List.set_cons_succ, List.getElem_toArray, List.getElem_cons_zero, List.getElem_cons_succ]
      refine wpAnyH_take (i := 9) (v := ?_) rfl (by kernel_rfl) (by kernel_rfl) (by kernel_rfl) (fun _ _ _ h => h) (Or.inl ⟨by rfl, fun v hv => ?_⟩) (by with_reducible assumption) ?_
      rotate_left
      · go_simp
        try with_reducible rfl
      simp only [Act.put, List.setIfInBounds_toArray, List.set_cons_zero, List.set_cons_succ, List.getElem_toArray, List.getElem_cons_zero, List.getElem_cons_succ]
      refine wpAnyH_done (by kernel_rfl) ?_ _
      have BB := hid b_r2
      have HDA := hid hda
      clear hda
      by_cases h4 : r < 4
      · have HRS : Hid (rsZ (pcI r) (fulI r) V m = pw5 (V m + pcI r m)) := by
          show _ = _
          unfold rsZ fulI
          rw [decide_eq_true h4]
          rfl
        go_wp2_with fail
        refine (r10Power_c _ _ wr2 HDA.out).mono ?_
        rintro e w4 ⟨d4, rfl, hd4, hb4⟩
        have BB4 := bchain BB.out hb4
        clear HDA BB hb4
        have HR2 := hid (hr1.out.below BB4)
        have HA2 := hid (ha1.out.up BB4)
        have HT2 := hid (ht1.out.up BB4)
        have HB2 := hid (bchain hb1.out BB4)
        have HDD := hid ((hd4.eq (by rw [← HRS.out])))
        have hds := HDD.out.sl
        obtain ⟨xA, xn, xc, rfl⟩ := HDD.out.form
        have hl : ds.length ≤ 1000 := by rw [HD.out]; omega
        have hbs := hid HT2.out.size
        clear hr1 ha1 ht1 hb1 HTR ED OC OT
        go_wp2_with (at_builtin; refine app_rowT 50 28 Tryz.underlying28 sl_info rfl (.tmp 36) (.tmp 38) rfl u7 (w.heap.size + 1) ds (.slice xA xn xc) rfl rfl HR2.out hl hbs.out hds ?_)
        intro v5 w5 hR5 hM5
        have hbm := HR2.out.moved hM5 hbs.out
        have G0 := hid hR5
        have G1 := hid (HA2.out.snoc (by rw [HD.out]; exact HDD.out) HR2.out hM5)
        have G2 := hid (HT2.out.below hbm (Nat.lt_succ_self _))
        have G3 := hid (HB2.out.trans (hbm.mono (Nat.le_succ _)))
        have GL : Hid ((ds ++ [Value.slice xA xn xc]).length = m + 1) := by show _ = _; rw [List.length_append, HD.out]; rfl
        clear hR5 hM5 hbm HR2 HA2 HT2 HB2 HDD hl hbs
        go_wp2_with fail
        go_roundw
        case rel => exact ⟨m + 1, _, by omega, by go_num, GL, G0.out, G1.out, G2.out, G3.out⟩
        case measure => simp [intOf]; omega
      · have d4 : decide (r < 4) = false := decide_eq_false h4
        by_cases h60 : 60 < r
        · have HRS : Hid (rsZ (pcI r) (fulI r) V m = pw5 (V m + pcI r m)) := by
            show _ = _
            unfold rsZ fulI
            rw [decide_eq_true h60, d4]
            rfl
          go_wp2_with fail
          refine (r10Power_c _ _ wr2 HDA.out).mono ?_
          rintro e w4 ⟨d4, rfl, hd4, hb4⟩
          have BB4 := bchain BB.out hb4
          clear HDA BB hb4
          have HR2 := hid (hr1.out.below BB4)
          have HA2 := hid (ha1.out.up BB4)
          have HT2 := hid (ht1.out.up BB4)
          have HB2 := hid (bchain hb1.out BB4)
          have HDD := hid ((hd4.eq (by rw [← HRS.out])))
          have hds := HDD.out.sl
          obtain ⟨xA, xn, xc, rfl⟩ := HDD.out.form
          have hl : ds.length ≤ 1000 := by rw [HD.out]; omega
          have hbs := hid HT2.out.size
          clear hr1 ha1 ht1 hb1 HTR ED OC OT
          go_wp2_with (at_builtin; refine app_rowT 50 28 Tryz.underlying28 sl_info rfl (.tmp 36) (.tmp 38) rfl u7 (w.heap.size + 1) ds (.slice xA xn xc) rfl rfl HR2.out hl hbs.out hds ?_)
          intro v5 w5 hR5 hM5
          have hbm := HR2.out.moved hM5 hbs.out
          have G0 := hid hR5
          have G1 := hid (HA2.out.snoc (by rw [HD.out]; exact HDD.out) HR2.out hM5)
          have G2 := hid (HT2.out.below hbm (Nat.lt_succ_self _))
          have G3 := hid (HB2.out.trans (hbm.mono (Nat.le_succ _)))
          have GL : Hid ((ds ++ [Value.slice xA xn xc]).length = m + 1) := by show _ = _; rw [List.length_append, HD.out]; rfl
          clear hR5 hM5 hbm HR2 HA2 HT2 HB2 HDD hl hbs
          go_wp2_with fail
          go_roundw
          case rel => exact ⟨m + 1, _, by omega, by go_num, GL, G0.out, G1.out, G2.out, G3.out⟩
          case measure => simp [intOf]; omega
        · have d60 : decide (60 < r) = false := decide_eq_false h60
          rcases Nat.eq_zero_or_pos m with hm0 | hm0
          · have e0 : ((m : Int) == 0) = true := by simp; omega
            have HRS : Hid (rsZ (pcI r) (fulI r) V m = pw5 (V m + pcI r m)) := by
              show _ = _
              unfold rsZ
              rw [show (m == 0) = true by simp; omega, Bool.or_true]
              rfl
            clear hm0
            go_wp2_with fail
            refine (r10Power_c _ _ wr2 HDA.out).mono ?_
            rintro e w4 ⟨d4, rfl, hd4, hb4⟩
            have BB4 := bchain BB.out hb4
            clear HDA BB hb4
            have HR2 := hid (hr1.out.below BB4)
            have HA2 := hid (ha1.out.up BB4)
            have HT2 := hid (ht1.out.up BB4)
            have HB2 := hid (bchain hb1.out BB4)
            have HDD := hid ((hd4.eq (by rw [← HRS.out])))
            have hds := HDD.out.sl
            obtain ⟨xA, xn, xc, rfl⟩ := HDD.out.form
            have hl : ds.length ≤ 1000 := by rw [HD.out]; omega
            have hbs := hid HT2.out.size
            clear hr1 ha1 ht1 hb1 HTR ED OC OT
            go_wp2_with (at_builtin; refine app_rowT 50 28 Tryz.underlying28 sl_info rfl (.tmp 36) (.tmp 38) rfl u7 (w.heap.size + 1) ds (.slice xA xn xc) rfl rfl HR2.out hl hbs.out hds ?_)
            intro v5 w5 hR5 hM5
            have hbm := HR2.out.moved hM5 hbs.out
            have G0 := hid hR5
            have G1 := hid (HA2.out.snoc (by rw [HD.out]; exact HDD.out) HR2.out hM5)
            have G2 := hid (HT2.out.below hbm (Nat.lt_succ_self _))
            have G3 := hid (HB2.out.trans (hbm.mono (Nat.le_succ _)))
            have GL : Hid ((ds ++ [Value.slice xA xn xc]).length = m + 1) := by show _ = _; rw [List.length_append, HD.out]; rfl
            clear hR5 hM5 hbm HR2 HA2 HT2 HB2 HDD hl hbs
            go_wp2_with fail
            go_roundw
            case rel => exact ⟨m + 1, _, by omega, by go_num, GL, G0.out, G1.out, G2.out, G3.out⟩
            case measure => simp [intOf]; omega
          · have e0 : ((m : Int) == 0) = false := by simp; omega
            have HRS : Hid (rsZ (pcI r) (fulI r) V m = V m + pcI r m) := by
              show _ = _
              unfold rsZ fulI
              rw [d4, d60, show (m == 0) = false by simp; omega]
              rfl
            clear hm0
            have BB4 := BB.out
            have HR2 := hid (hr1.out.below BB4)
            have HA2 := hid (ha1.out.up BB4)
            have HT2 := hid (ht1.out.up BB4)
            have HB2 := hid (bchain hb1.out BB4)
            have HDD := hid ((HDA.out.eq (by rw [← HRS.out])))
            have hds := HDD.out.sl
            obtain ⟨xA, xn, xc, rfl⟩ := HDD.out.form
            have hl : ds.length ≤ 1000 := by rw [HD.out]; omega
            have hbs := hid HT2.out.size
            clear hr1 ha1 ht1 hb1 HTR ED OC OT
            go_wp2_with (at_builtin; refine app_rowT 50 28 Tryz.underlying28 sl_info rfl (.tmp 36) (.tmp 38) rfl u7 (w.heap.size + 1) ds (.slice xA xn xc) rfl rfl HR2.out hl hbs.out hds ?_)
            intro v5 w5 hR5 hM5
            have hbm := HR2.out.moved hM5 hbs.out
            have G0 := hid hR5
            have G1 := hid (HA2.out.snoc (by rw [HD.out]; exact HDD.out) HR2.out hM5)
            have G2 := hid (HT2.out.below hbm (Nat.lt_succ_self _))
            have G3 := hid (HB2.out.trans (hbm.mono (Nat.le_succ _)))
            have GL : Hid ((ds ++ [Value.slice xA xn xc]).length = m + 1) := by show _ = _; rw [List.length_append, HD.out]; rfl
            clear hR5 hM5 hbm HR2 HA2 HT2 HB2 HDD hl hbs
            go_wp2_with fail
            go_roundw
            case rel => exact ⟨m + 1, _, by omega, by go_num, GL, G0.out, G1.out, G2.out, G3.out⟩
            case measure => simp [intOf]; omega
    · obtain rfl : m = 3 := by omega
      have hDV := hr.dv ha
      rw [HD.out] at hDV
      have HDV := hid hDV
      have HM3 := hid (HT.out.m.up hb)
      have C1 := ht.cell (i := 1) (by simp)
      simp only [List.getElem_cons_zero, List.getElem_cons_succ] at C1
      have HB3 := hid hb
      obtain ⟨bu, cu, rfl, _, _⟩ := hDV.at_
      clear hr ha ht hb hDV
      go_wp2_with fail
      refine (r9Apply_c _ _ mzCauchy _ wr HM3.out HDV.out).mono ?_
      rintro e w4 ⟨d4, rfl, hd4, hb4⟩
      have HF := hid hd4
      have HBF := hid (bchain HB3.out hb4)
      clear hd4 hb4
      go_wp2_with fail
      go_ret
      exact ⟨_, rfl, HF.out, HBF.out⟩
end Go.Proofs.YtdepkfdceidikaaGreatDoor
/-
  poseidon.Permutation.Permute: what the call does; an example.
-/
namespace Go.Proofs.YtdepkfdceidikaaGreatDoor
open Go.RowKit
set_option linter.unusedVariables false
set_option linter.unusedSimpArgs false


structure PeR (w : World) (b p0 p1 : Nat) (X : Nat → Int) (v : World) : Prop where
  x : ∃ f, BlkV v p0 39 (wds 12 f) ∧ VecZ f X
  z : BlkV v p1 39 (wds 12 z0)
  pi : PI v b
  o : Only b w v
  k : Kp b w v
set_option maxRecDepth 20000 in
set_option maxHeartbeats 1000000 in
theorem permute_c (b : Nat) (f : Nat → Int) (X : Nat → Int) (w : World) (hB : PI w b) (hX : VecZ f X) (hG : Glob w) (hlo : 0 < b ∧ 1 < b) :
    Calls Tryz.prog 15 #[.pointer (some ⟨b, 0, none⟩), .agg (wds 12 f).toArray] w fun e w' => ∃ c, e = .returned (.agg (wds 12 c).toArray) ∧ VecZ c (pmZ 65 X) ∧ PI w' b ∧ Only b w w' ∧ Kp b w w' := by
  have hz := zeroV
  have hlz := wds_len 12 z0
  have hlf := wds_len 12 f
  have hbp : b ≠ w.heap.size := by have := hB.size; omega
  have hbp1 : b ≠ w.heap.size + 1 := by have := hB.size; omega
  have e1 : (w.alloc (oF 39 12 f)).heap.size = w.heap.size + 1 := by simp
  have h0 := (oF_new w 39 12 f).alloc (oF 39 12 z0)
  have h1 := oF_new (w.alloc (oF 39 12 f)) 39 12 z0
  rw [e1] at h1
  have hb := ((Below.refl w.heap.size w).alloc (Nat.le_refl _) (oF 39 12 f)).alloc (by omega) (oF 39 12 z0)
  clear e1
  have R0 := hid (PeR.mk (X := pmZ 0 X) ⟨f, h0, hX⟩ h1 (hB.up hb) (Only.of (b := b) hb) (Kp.of hb))
  have HG := hid hG
  unfold oF at R0
  clear hX hG hB h0 h1 hb
  go_enter Tryz.func15, Tryz.ntmps15
  go_wp2_with fail
  generalize ((w.alloc _).alloc _) = w0 at *
  go_loopw [6] (fun i wr => ∃ k : Nat, k ≤ 65 ∧ i = .int .i64 k ∧ PeR w b (w.heap.size) (w.heap.size + 1) (pmZ k X) wr) (fun i _ => 65 - (intOf i).toNat)
  case atStart => exact ⟨0, by omega, rfl, R0.out⟩
  case round =>
    clear R0
    obtain ⟨k, hk, rfl, hrel⟩ := hrel
    by_cases hlt : k < 65
    · have i0 : (0 : Int) ≤ (k : Int) := by omega
      have i2 : (k : Int) < 65 := by omega
      obtain ⟨⟨h, h1, h2⟩, h3, h4, h5, h6⟩ := hrel
      have HX := hid h1.range
      have HS : Hid (∀ c, VecZ c (rdZ (pcI (k : Int)) (fulI (k : Int)) (pmZ k X)) → VecZ c (pmZ (k + 1) X)) := fun c hc => by
        rw [pcI_nat hlt, fulI_nat] at hc
        exact hc
      have H1 := hid h1
      have H2 := hid h2
      have H3 := hid h3
      have H4 := hid h4
      have H5 := hid h5
      have H6 := hid h6
      have hlh := wds_len 12 h
      clear h1 h2 h3 h4 h5 h6
      go_wp2_with (first
    | with_reducible refine wpList_load_mid rfl 39 (.tmp 3) rfl (w.heap.size) (0) rfl (wds 12 h) _ (by with_reducible exact HX.out) Tryz.underlying39 rfl (sizeV _) ?_
    | fail)
      refine (round_c b h (pmZ k X) (k : Int) wr H4.out H2.out (H5.out.globF HG.out hlo) hlo).mono ?_
      rintro e w2 ⟨c, rfl, hc, hpi, ho, hk'⟩
      have hs0 := H1.out.size
      have hs1 := H3.out.size
      have x2 := ho.blk H1.out (show w.heap.size ≠ b by omega)
      have z2 := ho.blk H3.out (show w.heap.size + 1 ≠ b by omega)
      have HT := hid (x2.thereW 0 12 c (by decide))
      have R2 : Hid (PeR w b (w.heap.size) (w.heap.size + 1) (pmZ (k + 1) X) (w2.setCells (w.heap.size) 0 (wds 12 c))) := hid ⟨⟨c, x2.lay0 c, HS.out c hc⟩, BlkV.put (by omega) _ _ _ z2, by
        obtain ⟨d, g, q1, q2⟩ := hpi
        exact ⟨d, g, BlkV.put (by omega) _ _ _ q1, q2⟩, (H5.out.trans ho).setsUp (Nat.le_refl _) _ _, (H6.out.trans hk').put (by omega) _ _⟩
      have hlc := wds_len 12 c
      clear x2 z2 hc hpi ho hk' H1 H2 H3 H4 H5 H6 HX HS
      go_wp2_with (first
    | with_reducible refine wpList_store_mid rfl 39 (.tmp 3) (.tmp 12) rfl (w.heap.size) (0) (wds 12 c).toArray rfl rfl (by with_reducible exact HT.out) (sizeVA _) (wds_all _ _) ?_
    | fail)
      go_roundw
      case rel => exact ⟨k + 1, by omega, by go_num, R2.out⟩
      case measure => simp [intOf]; omega
    · obtain rfl : k = 65 := by omega
      obtain ⟨⟨h, h1, h2⟩, h3, h4, h5, h6⟩ := hrel
      have HO := hid h1.range
      have HV := hid h2
      have HT := hid (h3.thereW 0 12 h (by decide))
      have HR := hid (h3.lay0 h).range
      have HPI : Hid (PI (wr.setCells (w.heap.size + 1) 0 (wds 12 h)) b) := by
        obtain ⟨d, g, q1, q2⟩ := h4
        exact ⟨d, g, BlkV.put (by omega) _ _ _ q1, q2⟩
      have HB := hid (h5.setsUp (show w.heap.size ≤ w.heap.size + 1 by omega) (wds 12 h) 0)
      have HK := hid (h6.put (show b ≠ w.heap.size + 1 by omega) (wds 12 h) 0)
      have hlh := wds_len 12 h
      clear h1 h2 h3 h4 h5 h6
      go_wp2_with (first
    | with_reducible refine wpList_load_mid rfl 39 (.tmp 3) rfl (w.heap.size) (0) rfl (wds 12 h) _ (by with_reducible exact HO.out) Tryz.underlying39 rfl (sizeV _) ?_
    | with_reducible refine wpList_store_mid rfl 39 (.tmp 4) (.tmp 14) rfl (w.heap.size + 1) (0) (wds 12 h).toArray rfl rfl (by with_reducible exact HT.out) (sizeVA _) (wds_all _ _) ?_
    | fail)
      refine bodyPost_ret (results_cell1 Tryz.results15 ⟨w.heap.size + 1, 0, none⟩ _ rfl (run_loadVar_mid _ (w.heap.size + 1) 0 39 (wds 12 h) _ HR.out Tryz.underlying39 rfl (sizeV _))) rfl ?_
      exact ⟨_, rfl, HV.out, HPI.out, HB.out, HK.out⟩
end Go.Proofs.YtdepkfdceidikaaGreatDoor
/-
  avouchlaw10.speaks: the walk.
-/
namespace Go.Proofs.YtdepkfdceidikaaGreatDoor
open Go.RowKit
set_option linter.unusedVariables false
set_option linter.unusedSimpArgs false


theorem from2_c (w : World) (hG : Glob w) : Calls Tryz.prog 26 #[.int .u64 2] w fun e w' => ∃ r, e = .returned r ∧ Ez r 2 ∧ Below w.heap.size w w' := fromUint64Z_c 2 w (by decide) hG
theorem from32_c (w : World) (hG : Glob w) : Calls Tryz.prog 26 #[.int .u64 32] w fun e w' => ∃ r, e = .returned r ∧ Ez r 32 ∧ Below w.heap.size w w' := fromUint64Z_c 32 w (by decide) hG
theorem pw5_2 : pw5 2 % pZ = 32 % pZ := by decide +kernel
theorem pw5_2n : pw5 2 % pZ ≠ 0 := by decide +kernel
theorem Glob.lo {w : World} (hG : Glob w) {p : Nat} (h : w.heap.size ≤ p) : 0 < p ∧ 1 < p := ⟨Nat.lt_of_lt_of_le hG.sizeP h, Nat.lt_of_lt_of_le hG.sizeR h⟩
theorem over_only {w w1 w2 : World} {p : Nat} (b1 : Below w.heap.size w w1) (ho : Only p w1 w2) (hp : w.heap.size ≤ p) : Below w.heap.size w w2 := b1.trans (ho.below hp b1.size)
set_option maxRecDepth 20000 in
set_option maxHeartbeats 1000000 in
theorem speaks10_c (w : World) (hG : Glob w) : Calls Tryz.prog 7 #[] w fun e w' => e = .returned (.bool true) ∧ Below w.heap.size w w' := by
  have hz := zeroV
  have hlz := wds_len 12 z0
  have HG := hid hG
  clear hG
  go_enter Tryz.func7, Tryz.ntmps7
  go_wp2_with fail
  refine (pnew_c w).mono ?_
  rintro e w1 ⟨p, rfl, hp, hpi, b1⟩
  go_wp2_with fail
  refine (permute_c p z0 (fun _ => 0) w1 hpi VecZ.zeros (HG.out.up b1) (HG.out.lo hp)).mono ?_
  rintro e w2 ⟨c, rfl, hc, hpi2, ho, hk'⟩
  have B2 := hid (over_only b1 ho hp)
  obtain ⟨n1, n2, n3⟩ := newRow w2 39 12 c
  have N1 := hid n1
  have HC := hid (hc.at_ 0 (by decide)).out
  have HL := hid (n2.sub 0 4 (by decide))
  have B3 := hid (bchain B2.out n3)
  obtain ⟨a, ha⟩ : ∃ a : Nat → Int, a = fun k => c (0 + k) := ⟨_, rfl⟩
  have HA : Hid (Ez (.agg (wds 4 a).toArray) (pmZ 65 (fun _ => 0) 0)) := by rw [ha]; exact HC.out
  rw [← ha] at HL
  have hla := wds_len 4 a
  have hlc := wds_len 12 c
  clear ha n1 n2 n3 hc hpi hpi2 ho hk' b1 hp HC B2
  unfold oF at N1 HL B3
  go_wp2_with (first
    | with_reducible refine wpList_store_mid rfl 39 (.tmp 2) (.tmp 8) rfl (w2.heap.size) 0 (wds 12 c).toArray rfl rfl (by with_reducible exact N1.out) (sizeVA _) (wds_all _ _) ?_
    | with_reducible refine wpList_load_mid rfl 37 (.tmp 9) rfl (w2.heap.size) 0 rfl (wds 4 a) _ (by with_reducible exact HL.out) Tryz.underlying37 rfl (sizeE _) ?_
    | fail)
  obtain ⟨w3, hw3⟩ : ∃ x, x = (w2.alloc (.cells (wds 12 z0).toArray 39)).setCells w2.heap.size 0 (wds 12 c) := ⟨_, rfl⟩
  rw [← hw3] at B3 ⊢
  clear hw3 N1 HL
  refine (isZero_f _ _ w3 HA.out pm_zero).mono ?_
  rintro e w4 ⟨rfl, b4⟩
  have B4 := hid (bchain B3.out b4)
  clear b4 B3
  go_wp2_with fail
  refine (from2_c w4 (HG.out.up B4.out)).mono ?_
  rintro e w5 ⟨r1, rfl, h1, b5⟩
  have B5 := hid (bchain B4.out b5)
  clear b5 B4
  go_wp2_with fail
  refine (power_c r1 2 w5 h1 (HG.out.up B5.out)).mono ?_
  rintro e w6 ⟨r2, rfl, h2, b6⟩
  have B6 := hid (bchain B5.out b6)
  clear b6 B5
  go_wp2_with fail
  refine (from32_c w6 (HG.out.up B6.out)).mono ?_
  rintro e w7 ⟨r3, rfl, h3, b7⟩
  have B7 := hid (bchain B6.out b7)
  clear b7 B6
  go_wp2_with fail
  refine (equal_t r2 r3 _ _ w7 h2 h3 pw5_2).mono ?_
  rintro e w8 ⟨rfl, b8⟩
  have B8 := hid (bchain B7.out b8)
  clear b8 B7
  go_wp2_with fail
  refine (from2_c w8 (HG.out.up B8.out)).mono ?_
  rintro e w9 ⟨r4, rfl, h4, b9⟩
  have B9 := hid (bchain B8.out b9)
  clear b9 B8
  go_wp2_with fail
  refine (power_c r4 2 w9 h4 (HG.out.up B9.out)).mono ?_
  rintro e w10 ⟨r5, rfl, h5, b10⟩
  have B10 := hid (bchain B9.out b10)
  clear b10 B9
  go_wp2_with fail
  refine (isZero_f _ _ w10 h5 pw5_2n).mono ?_
  rintro e w11 ⟨rfl, b11⟩
  have B11 := hid (bchain B10.out b11)
  clear b11 B10
  go_wp2_with fail
  go_ret
  exact ⟨rfl, B11.out⟩
end Go.Proofs.YtdepkfdceidikaaGreatDoor
/-
  avouchref10.Permute; three slices of bytes: avouchlaw10.few, Of, is: what each call does.
-/
namespace Go.Proofs.YtdepkfdceidikaaGreatDoor
open Go.RowKit
set_option linter.unusedVariables false
set_option linter.unusedSimpArgs false

set_option maxRecDepth 20000 in
set_option maxHeartbeats 1000000 in
theorem r10Permute_c (v vM vv : Value) (V : Nat → Int) (w : World) (hT : TabZ w v vM) (hV : DV w vv 3 V) :
    Calls Tryz.prog 16 #[.agg #[v, vM], vv] w fun e w' => ∃ u, e = .returned u ∧ DV w' u 3 (pmZ 65 V) ∧ Below w.heap.size w w' := by
  obtain ⟨bc, cc, bm, cm, rfl, rfl⟩ := hT.form
  have HT := hid hT
  have hb0 := (Below.refl w.heap.size w).alloc (Nat.le_refl _) (.cells #[(.slice (some ⟨bc, 0, none⟩) 195 cc), (.slice (some ⟨bm, 0, none⟩) 3 cm)] 32)
  have T0 := hid (BlkV.new w 32 [(.slice (some ⟨bc, 0, none⟩) 195 cc), (.slice (some ⟨bm, 0, none⟩) 3 cm)])
  have HV := hid (hV.up hb0)
  have HB := hid hb0
  clear hT hV hb0
  go_enter Tryz.func16, Tryz.ntmps16
  go_wp2_with fail
  generalize (w.alloc _) = w0 at *
  go_loopw [1, 5] (fun u i wr => ∃ k : Nat, k ≤ 65 ∧ i = .int .i64 k ∧ DV wr u 3 (pmZ k V) ∧ BlkV wr w.heap.size 32 [(.slice (some ⟨bc, 0, none⟩) 195 cc), (.slice (some ⟨bm, 0, none⟩) 3 cm)] ∧ Below w.heap.size w wr) (fun _ i _ => 65 - (intOf i).toNat)
  case atStart => exact ⟨0, by omega, rfl, HV.out, T0.out, HB.out⟩
  case round =>
    clear HV T0 HB
    obtain ⟨k, hk, rfl, hv, ht, hb⟩ := hrel
    by_cases hlt : k < 65
    · have i0 : (0 : Int) ≤ (k : Int) := by omega
      have i2 : (k : Int) < 65 := by omega
      have C0 := ht.cell (i := 0) (by simp)
      have C1 := ht.cell (i := 1) (by simp)
      simp only [List.getElem_cons_zero, List.getElem_cons_succ] at C0 C1
      have HV := hid hv
      have HB := hid hb
      have HTT := hid ht
      have HS : Hid (rdZ (pcI (k : Int)) (fulI (k : Int)) (pmZ k V) = pmZ (k + 1) V) := by
        show _ = _
        rw [pcI_nat hlt, fulI_nat]
        rfl
      clear hv hb ht
      go_wp2_with fail
      refine (r10Round_c _ _ u1 (k : Int) (pmZ k V) wr (HT.out.up HB.out) HV.out).mono ?_
      rintro e w4 ⟨d, rfl, hd, hb4⟩
      rw [HS.out] at hd
      have G0 := hid hd
      have G1 := hid (HTT.out.up hb4)
      have G2 := hid (bchain HB.out hb4)
      clear hd hb4 HV HB HTT HS C0 C1
      go_wp2_with fail
      go_roundw
      case rel => exact ⟨k + 1, by omega, by go_num, G0.out, G1.out, G2.out⟩
      case measure => simp [intOf]; omega
    · obtain rfl : k = 65 := by omega
      have HV := hid hv
      have HB := hid hb
      clear hv hb ht
      go_wp2_with fail
      go_ret
      exact ⟨_, rfl, HV.out, HB.out⟩
/-- Three slices that are read; none of them is longer than 40 bytes; their numbers. -/
structure N3 (w : World) (B : Nat) (A : Nat → Option Addr) (n : Nat → Nat) (l : Nat → List Nat) : Prop where
  at_ : ∀ i, i < 3 → Rd8 w B (A i) (n i) (l i)
theorem N3.below {w w' : World} {B B' : Nat} {A : Nat → Option Addr} {n : Nat → Nat} {l : Nat → List Nat} (h : N3 w B A n l) (hb : Below B' w w') (hB : B ≤ B') : N3 w' B A n l := ⟨fun i hi => (h.at_ i hi).below hb hB⟩
theorem N3.more {w : World} {B B' : Nat} {A : Nat → Option Addr} {n : Nat → Nat} {l : Nat → List Nat} (h : N3 w B A n l) (hB : B ≤ B') : N3 w B' A n l := ⟨fun i hi => (h.at_ i hi).more hB⟩
def Few3 (n : Nat → Nat) : Prop := ∀ i, i < 3 → n i ≤ 40
def num3 (l : Nat → List Nat) : Nat → Int := fun i => ((val 256 (l i) : Nat) : Int)
theorem index_3 (w : World) (A : Nat → Option Addr) (n c : Nat → Nat) {k : Nat} (hk : k < 3) : (Instr.index 23 (.agg #[.slice (A 0) (n 0) (c 0), .slice (A 1) (n 1) (c 1), .slice (A 2) (n 2) (c 2)]) (.int .i64 (k : Int))).run Tryz.prog w = .ok (.slice (A k) (n k) (c k)) w := by
  match k, hk with
  | 0, _ =>
    show _ = _
    kernel_rfl
  | 1, _ =>
    show _ = _
    kernel_rfl
  | 2, _ =>
    show _ = _
    kernel_rfl
set_option maxRecDepth 20000 in
set_option maxHeartbeats 1000000 in
theorem few3_t (A : Nat → Option Addr) (n c : Nat → Nat) (w : World) (h : Few3 n) : Calls Tryz.prog 8 #[.agg #[.slice (A 0) (n 0) (c 0), .slice (A 1) (n 1) (c 1), .slice (A 2) (n 2) (c 2)]] w fun e w' => e = .returned (.bool true) ∧ Below w.heap.size w w' := by
  have HB := hid ((Below.refl w.heap.size w).alloc (Nat.le_refl _) (.cells #[.slice (A 0) (n 0) (c 0), .slice (A 1) (n 1) (c 1), .slice (A 2) (n 2) (c 2)] 23))
  have q0 := h 0 (by decide)
  have d0 : decide (((n 0 : Nat) : Int) ≤ 40) = true := by simp; omega
  have q1 := h 1 (by decide)
  have d1 : decide (((n 1 : Nat) : Int) ≤ 40) = true := by simp; omega
  have q2 := h 2 (by decide)
  have d2 : decide (((n 2 : Nat) : Int) ≤ 40) = true := by simp; omega
  go_enter Tryz.func8, Tryz.ntmps8
  go_wp2_with fail
  go_ret
  exact ⟨rfl, HB.out⟩
set_option maxRecDepth 20000 in
set_option maxHeartbeats 1000000 in
theorem few3_f (A : Nat → Option Addr) (n c : Nat → Nat) (w : World) (h : ¬ Few3 n) : Calls Tryz.prog 8 #[.agg #[.slice (A 0) (n 0) (c 0), .slice (A 1) (n 1) (c 1), .slice (A 2) (n 2) (c 2)]] w fun e w' => e = .returned (.bool false) ∧ Below w.heap.size w w' := by
  have HB := hid ((Below.refl w.heap.size w).alloc (Nat.le_refl _) (.cells #[.slice (A 0) (n 0) (c 0), .slice (A 1) (n 1) (c 1), .slice (A 2) (n 2) (c 2)] 23))
  by_cases g0 : n 0 ≤ 40
  · have d0 : decide (((n 0 : Nat) : Int) ≤ 40) = true := by simp; omega
    by_cases g1 : n 1 ≤ 40
    · have d1 : decide (((n 1 : Nat) : Int) ≤ 40) = true := by simp; omega
      have g2 : ¬ n 2 ≤ 40 := fun q2 => h (fun i hi => by
        match i, hi with
        | 0, _ => exact g0
        | 1, _ => exact g1
        | 2, _ => exact q2)
      have d2 : decide (((n 2 : Nat) : Int) ≤ 40) = false := by simp; omega
      go_enter Tryz.func8, Tryz.ntmps8
      go_wp2_with fail
      go_ret
      exact ⟨rfl, HB.out⟩
    · have d1 : decide (((n 1 : Nat) : Int) ≤ 40) = false := by simp; omega
      go_enter Tryz.func8, Tryz.ntmps8
      go_wp2_with fail
      go_ret
      exact ⟨rfl, HB.out⟩
  · have d0 : decide (((n 0 : Nat) : Int) ≤ 40) = false := by simp; omega
    go_enter Tryz.func8, Tryz.ntmps8
    go_wp2_with fail
    go_ret
    exact ⟨rfl, HB.out⟩
end Go.Proofs.YtdepkfdceidikaaGreatDoor
