/-
  avouchref09.Mul: what the call does.
-/
import Derived.Test.YtlpccdbcaffmmaaDoorMrB
namespace Go.Proofs.YtlpccdbcaffmmaaDoor
open Go.RowKit
set_option linter.unusedVariables false
set_option linter.unusedSimpArgs false

theorem bchain_b {w w' : World} (h : Below w.heap.size w w') : Below w.heap.size w w' := h
set_option maxRecDepth 40000 in
set_option maxHeartbeats 1000000 in
theorem r9Mul_c (va vb : Value) (X Y : MZ) (w : World) (hX : DM w va 3 X) (hY : DM w vb 3 Y) :
    Calls Tryd.prog 15 #[va, vb] w fun e w' => ∃ v, e = .returned v ∧ DM w' v 3 (mzMul X Y) ∧ Below w.heap.size w w' := by
  obtain ⟨bx, cx, rfl, _, _⟩ := hX.at_
  obtain ⟨by0, cy, rfl, _, _⟩ := hY.at_
  have HX := hid hX
  have HY := hid hY
  have R0 := hid (RowT.new 40 w w.heap.size (Nat.le_refl _))
  have B0 := hid ((Below.refl w.heap.size w).alloc (Nat.le_refl _) (.cells #[] 40))
  clear hX hY
  go_enter Tryd.func15, Tryd.ntmps15
  go_wp2_with fail
  generalize (w.alloc _) = w0 at *
  go_loopw [5, 6] (fun v i wr => ∃ k : Nat, ∃ es : List Value, k ≤ 3 ∧ i = .int .i64 k ∧ Hid (es.length = k) ∧ RowT 40 wr w.heap.size v es ∧ AllV wr es 3 (mzMul X Y) ∧ Below w.heap.size w wr) (fun _ i _ => 3 - (intOf i).toNat)
  case atStart => exact ⟨0, [], by omega, rfl, hid rfl, R0.out, AllV.nil _ _ _, B0.out⟩
  case round =>
    clear R0 B0
    obtain ⟨k, es, hk, rfl, HL, hR, hA, hb⟩ := hrel
    by_cases hlt : k < 3
    · have i0 : (0 : Int) ≤ (k : Int) := by omega
      have i2 : (k : Int) < 3 := by omega
      have HR := hid hR
      have HA := hid hA
      have HB := hid hb
      clear hR hA hb
      obtain ⟨w1, rfl⟩ : ∃ x, x = wr := ⟨wr, rfl⟩
      have XM := hid (HX.out.up (bchain_b HB.out))
      have YM := hid (HY.out.up (bchain_b HB.out))
      have R1 := hid (RowT.new 43 w1 w1.heap.size (Nat.le_refl _))
      have B1 := hid ((Below.refl w1.heap.size w1).alloc (Nat.le_refl _) (.cells #[] 43))
      go_wp2_with fail
      generalize (w1.alloc _) = w2 at *
      go_loopw [7, 8] (fun v i wr => ∃ m : Nat, ∃ ds : List Value, m ≤ 3 ∧ i = .int .i64 m ∧ Hid (ds.length = m) ∧ RowT 43 wr w1.heap.size v ds ∧ AllZ wr ds (mzMul X Y k) ∧ Below w1.heap.size w1 wr) (fun _ i _ => 3 - (intOf i).toNat)
      case atStart => exact ⟨0, [], by omega, rfl, hid rfl, R1.out, AllZ.nil _ _, B1.out⟩
      case round =>
        clear R1 B1
        obtain ⟨m, ds, hm, rfl, HD, hr, ha, hb⟩ := hrel
        by_cases hltm : m < 3
        · have j0 : (0 : Int) ≤ (m : Int) := by omega
          have j2 : (m : Int) < 3 := by omega
          have hr1 := hid hr
          have ha1 := hid ha
          have hb1 := hid hb
          clear hr ha hb
          have HXM := hid ((XM.out.up hb1.out).up (Below.refl _ _))
          have HYM := hid ((YM.out.up hb1.out).up (Below.refl _ _))
          have S0 : Hid (Dz (wr.alloc (.cells #[] 27)) (.slice (some ⟨wr.heap.size, 0, none⟩) 0 0) (dotZ (X k) (fun r => Y r m) 0)) := Dz.empty _ _ _
          have SB := hid ((Below.refl wr.heap.size wr).alloc (Nat.le_refl _) (.cells #[] 27))
          go_wp2_with fail
          obtain ⟨w3, rfl⟩ : ∃ x, x = wr := ⟨wr, rfl⟩
          generalize (w3.alloc _) = w4' at *
          go_loopw [9, 10] (fun s i wr => ∃ q : Nat, q ≤ 3 ∧ i = .int .i64 q ∧ Dz wr s (dotZ (X k) (fun r => Y r m) q) ∧ Below w3.heap.size w3 wr) (fun _ i _ => 3 - (intOf i).toNat)
          case atStart => exact ⟨0, by omega, rfl, S0.out, SB.out⟩
          case round =>
            clear S0 SB
            obtain ⟨q, hq, rfl, hs, hb0⟩ := hrel
            by_cases hltq : q < 3
            · have l0 : (0 : Int) ≤ (q : Int) := by omega
              have l2 : (q : Int) < 3 := by omega
              obtain ⟨bx', cx', ex, hbx, hcx⟩ := (HXM.out.up hb0).at_
              obtain ⟨by', cy', ey, hby, hcy⟩ := (HYM.out.up hb0).at_
              injection ex with ex1 ex2 ex3
              injection ex1 with ex1
              injection ex1 with ex1
              injection ey with ey1 ey2 ey3
              injection ey1 with ey1
              injection ey1 with ey1
              subst ex1 ex3 ey1 ey3
              obtain ⟨d1, hd1, cd1⟩ := hcx k hlt
              obtain ⟨d3, hd3, cd3⟩ := hcy q hltq
              obtain ⟨b1, c1, rfl, hlb1, hcb1⟩ := hd1.at_
              obtain ⟨b3, c3, rfl, hlb3, hcb3⟩ := hd3.at_
              obtain ⟨d2, hd2, cd2⟩ := hcb1 q hltq
              obtain ⟨d4, hd4, cd4⟩ := hcb3 m hltm
              have OA : Hid (∀ v, Below wr.heap.size wr v → v.cell? ⟨bx, k, none⟩ = some (.slice (some ⟨b1, 0, none⟩) 3 c1)) := fun v hv => (hv.cell (p := ⟨bx, k, none⟩) hbx).trans cd1
              have OB : Hid (∀ v, Below wr.heap.size wr v → v.cell? ⟨b1, q, none⟩ = some d2) := fun v hv => (hv.cell (p := ⟨b1, q, none⟩) hlb1).trans cd2
              have OC : Hid (∀ v, Below wr.heap.size wr v → v.cell? ⟨by0, q, none⟩ = some (.slice (some ⟨b3, 0, none⟩) 3 c3)) := fun v hv => (hv.cell (p := ⟨by0, q, none⟩) hby).trans cd3
              have OD : Hid (∀ v, Below wr.heap.size wr v → v.cell? ⟨b3, m, none⟩ = some d4) := fun v hv => (hv.cell (p := ⟨b3, m, none⟩) hlb3).trans cd4
              have EB := hid hd2
              have ED := hid hd4
              have HS := hid hs
              clear hd1 hd3 hcb1 hcb3 hcx hcy cd1 cd2 cd3 cd4 hd2 hd4 hs ex2 ey2 HXM HYM XM YM hr1 ha1 hb1 HR HA HB
              go_wp2_with fail
              have hb00 : Below wr.heap.size wr wr.drew := (Below.refl _ _).drew
              refine wp_region_held_drew (S := fun v => Below wr.heap.size wr v) (by kernel_rfl) hb00 (fun hHeld => ?_)
              refine wpAnyH_take (i := 0) (v := ?_) rfl (by kernel_rfl) (by kernel_rfl) (by kernel_rfl) (fun _ _ _ h => h) (Or.inl ⟨by rfl, fun v hv => ?_⟩) (by with_reducible assumption) ?_
              rotate_left
              · go_simp
                try with_reducible rfl
              simp only [Act.put, List.setIfInBounds_toArray, List.set_cons_zero, List.set_cons_succ, List.getElem_toArray, List.getElem_cons_zero, List.getElem_cons_succ]
              refine wpAnyH_take (i := 1) (v := ?_) rfl (by kernel_rfl) (by kernel_rfl) (by kernel_rfl) (fun _ _ _ h => h) (Or.inl ⟨by rfl, fun v hv => ?_⟩) (by with_reducible assumption) ?_
              rotate_left
              · go_simp
                try with_reducible rfl
              simp only [Act.put, List.setIfInBounds_toArray, List.set_cons_zero, List.set_cons_succ, List.getElem_toArray, List.getElem_cons_zero, List.getElem_cons_succ]
              refine wpAnyH_take (i := 2) (v := ?_) rfl (by kernel_rfl) (by kernel_rfl) (by kernel_rfl) (fun _ _ _ h => h) (Or.inl ⟨by rfl, fun v hv => ?_⟩) (by with_reducible assumption) ?_
              rotate_left
              · go_simp
                try with_reducible rfl
              simp only [Act.put, List.setIfInBounds_toArray, List.set_cons_zero, List.set_cons_succ, List.getElem_toArray, List.getElem_cons_zero, List.getElem_cons_succ]
              refine wpAnyH_take (i := 3) (v := ?_) rfl (by kernel_rfl) (by kernel_rfl) (by kernel_rfl) (fun _ _ _ h => h) (Or.inl ⟨by rfl, fun v hv => ?_⟩) (by with_reducible assumption) ?_
              rotate_left
              · go_simp
                try with_reducible rfl
              simp only [Act.put, List.setIfInBounds_toArray, List.set_cons_zero, List.set_cons_succ, List.getElem_toArray, List.getElem_cons_zero, List.getElem_cons_succ]
              refine wpAnyH_take (i := 4) (v := ?_) rfl (by kernel_rfl) (by kernel_rfl) (by kernel_rfl) (fun _ _ _ h => h) (Or.inl ⟨by rfl, fun v hv => ?_⟩) (by with_reducible assumption) ?_
              rotate_left
              · have hcc := OA.out v hv
                go_simp
                try with_reducible rfl
              simp only [Act.put, List.setIfInBounds_toArray, List.set_cons_zero, List.set_cons_succ, List.getElem_toArray, List.getElem_cons_zero, List.getElem_cons_succ]
              refine wpAnyH_take (i := 5) (v := ?_) rfl (by kernel_rfl) (by kernel_rfl) (by kernel_rfl) (fun _ _ _ h => h) (Or.inl ⟨by rfl, fun v hv => ?_⟩) (by with_reducible assumption) ?_
              rotate_left
              · go_simp
                try with_reducible rfl
              simp only [Act.put, List.setIfInBounds_toArray, List.set_cons_zero, List.set_cons_succ, List.getElem_toArray, List.getElem_cons_zero, List.getElem_cons_succ]
              refine wpAnyH_take (i := 6) (v := ?_) rfl (by kernel_rfl) (by kernel_rfl) (by kernel_rfl) (fun _ _ _ h => h) (Or.inl ⟨by rfl, fun v hv => ?_⟩) (by with_reducible assumption) ?_
              rotate_left
              · go_simp
                try with_reducible rfl
              simp only [Act.put, List.setIfInBounds_toArray, List.set_cons_zero, List.set_cons_succ, List.getElem_toArray, List.getElem_cons_zero, List.getElem_cons_succ]
              refine wpAnyH_take (i := 7) (v := ?_) rfl (by kernel_rfl) (by kernel_rfl) (by kernel_rfl) (fun _ _ _ h => h) (Or.inl ⟨by rfl, fun v hv => ?_⟩) (by with_reducible assumption) ?_
              rotate_left
              · have hcc := OB.out v hv
                go_simp
                try with_reducible rfl
              simp only [Act.put, List.setIfInBounds_toArray, List.set_cons_zero, List.set_cons_succ, List.getElem_toArray, List.getElem_cons_zero, List.getElem_cons_succ]
              refine wpAnyH_take (i := 8) (v := ?_) rfl (by kernel_rfl) (by kernel_rfl) (by kernel_rfl) (fun _ _ _ h => h) (Or.inl ⟨by rfl, fun v hv => ?_⟩) (by with_reducible assumption) ?_
              rotate_left
              · go_simp
                try with_reducible rfl
              simp only [Act.put, List.setIfInBounds_toArray, List.set_cons_zero, List.set_cons_succ, List.getElem_toArray, List.getElem_cons_zero, List.getElem_cons_succ]
              refine wpAnyH_take (i := 9) (v := ?_) rfl (by kernel_rfl) (by kernel_rfl) (by kernel_rfl) (fun _ _ _ h => h) (Or.inl ⟨by rfl, fun v hv => ?_⟩) (by with_reducible assumption) ?_
              rotate_left
              · go_simp
                try with_reducible rfl
              simp only [Act.put, List.setIfInBounds_toArray, List.set_cons_zero, List.set_cons_succ, List.getElem_toArray, List.getElem_cons_zero, List.getElem_cons_succ]
              refine wpAnyH_take (i := 10) (v := ?_) rfl (by kernel_rfl) (by kernel_rfl) (by kernel_rfl) (fun _ _ _ h => h) (Or.inl ⟨by rfl, fun v hv => ?_⟩) (by with_reducible assumption) ?_
              rotate_left
              · go_simp
                try with_reducible rfl
              simp only [Act.put, List.setIfInBounds_toArray, List.set_cons_zero, List.set_cons_succ, List.getElem_toArray, List.getElem_cons_zero, List.getElem_cons_succ]
              refine wpAnyH_take (i := 11) (v := ?_) rfl (by kernel_rfl) (by kernel_rfl) (by kernel_rfl) (fun _ _ _ h => h) (Or.inl ⟨by rfl, fun v hv => ?_⟩) (by with_reducible assumption) ?_
              rotate_left
              · have hcc := OC.out v hv
                go_simp
                try with_reducible rfl
              simp only [Act.put, List.setIfInBounds_toArray, List.set_cons_zero, List.set_cons_succ, List.getElem_toArray, List.getElem_cons_zero, List.getElem_cons_succ]
              refine wpAnyH_take (i := 12) (v := ?_) rfl (by kernel_rfl) (by kernel_rfl) (by kernel_rfl) (fun _ _ _ h => h) (Or.inl ⟨by rfl, fun v hv => ?_⟩) (by with_reducible assumption) ?_
              rotate_left
              · go_simp
                try with_reducible rfl
              simp only [Act.put, List.setIfInBounds_toArray, List.set_cons_zero, List.set_cons_succ, List.getElem_toArray, List.getElem_cons_zero, List.getElem_cons_succ]
              refine wpAnyH_take (i := 13) (v := ?_) rfl (by kernel_rfl) (by kernel_rfl) (by kernel_rfl) (fun _ _ _ h => h) (Or.inl ⟨by rfl, fun v hv => ?_⟩) (by with_reducible assumption) ?_
              rotate_left
              · go_simp
                try with_reducible rfl
              simp only [Act.put, List.setIfInBounds_toArray, List.set_cons_zero, List.set_cons_succ, List.getElem_toArray, List.getElem_cons_zero, List.getElem_cons_succ]
              refine wpAnyH_take (i := 14) (v := ?_) rfl (by kernel_rfl) (by kernel_rfl) (by kernel_rfl) (fun _ _ _ h => h) (Or.inl ⟨by rfl, fun v hv => ?_⟩) (by with_reducible assumption) ?_
              rotate_left
              · have hcc := OD.out v hv
                go_simp
                try with_reducible rfl
              simp only [Act.put, List.setIfInBounds_toArray, List.set_cons_zero, List.set_cons_succ, List.getElem_toArray, List.getElem_cons_zero, List.getElem_cons_succ]
              refine wpAnyH_ready (rs := [15]) (by kernel_rfl) (by simp) ?_
              refine (AllReadyH.cons rfl (fun K hK => ?_) AllReadyH.nil)
              go_simp
              go_at_call 34
              with_reducible refine (dMulZ_c _ _ _ _ wr.drew (EB.out.up (hb00)) (ED.out.up (hb00))).mono ?_
              rintro e wq1 ⟨_, rfl, he1, hbq1⟩
              have b_q1 := bchain hb00 hbq1
              try dsimp only
              refine hK.out _ _ (b_q1) (fun hHeld => ?_)
              clear hK K
              try simp only [Act.put, List.setIfInBounds_toArray, List.set_cons_zero, List.set_cons_succ, List.getElem_toArray, List.getElem_cons_zero, List.getElem_cons_succ]
              refine wpAnyH_ready (rs := [16]) (by kernel_rfl) (by simp) ?_
              refine (AllReadyH.cons rfl (fun K hK => ?_) AllReadyH.nil)
              go_simp
              go_at_call 33
              with_reducible refine (dAddZ_c _ _ _ _ wq1 (HS.out.up (b_q1)) he1).mono ?_
              rintro e wq2 ⟨_, rfl, hsum, hbq2⟩
              have b_q2 := bchain b_q1 hbq2
              try dsimp only
              refine hK.out _ _ (b_q2) (fun hHeld => ?_)
              clear hK K
              try simp only [Act.put, List.setIfInBounds_toArray, List.set_cons_zero, List.set_cons_succ, List.getElem_toArray, List.getElem_cons_zero, List.getElem_cons_succ]
              refine wpAnyH_take (i := 17) (v := ?_) rfl (by kernel_rfl) (by kernel_rfl) (by kernel_rfl) (fun _ _ _ h => h) (Or.inl ⟨by rfl, fun v hv => ?_⟩) (by with_reducible assumption) ?_
              rotate_left
              · go_simp
                try with_reducible rfl
              simp only [Act.put, List.setIfInBounds_toArray, List.set_cons_zero, List.set_cons_succ, List.getElem_toArray, List.getElem_cons_zero, List.getElem_cons_succ]
              refine wpAnyH_done (by kernel_rfl) ?_ _
              go_wp2_with fail
              go_roundw
              case rel => exact ⟨q + 1, by omega, by go_num, hsum, hb0.trans ((b_q2).mono hb0.size)⟩
              case measure => simp [intOf]; omega
            · obtain rfl : q = 3 := by omega
              have hd := hs.eq (dotZ_mul X Y k m)
              have BB := hb0
              obtain ⟨d, rfl⟩ : ∃ d, d = u9 := ⟨_, rfl⟩
              clear hs hb0 HXM HYM
              have HR2 := hid (hr1.out.below BB)
              have HA2 := hid (ha1.out.up BB)
              have HB2 := hid (hb1.out.trans (BB.mono hb1.out.size))
              have HDD := hid hd
              have hds := hd.sl
              obtain ⟨dA, dn, dc, rfl⟩ := hd.form
              have hl : ds.length ≤ 1000 := by rw [HD.out]; omega
              clear BB hd hr1 ha1 hb1
              go_wp2_with (at_builtin; refine app_rowT 43 40 Tryd.underlying40 sl_info rfl (.tmp 43) (.tmp 45) rfl u7 w1.heap.size ds (.slice dA dn dc) rfl rfl HR2.out hl HB2.out.size hds ?_)
              intro v5 w5 hR5 hM5
              have g1 := HA2.out.snoc (by rw [HD.out]; exact HDD.out) HR2.out hM5
              have g2 := HB2.out.trans (HR2.out.moved hM5 HB2.out.size)
              have G0 := hid hR5
              have G1 := hid g1
              have G2 := hid g2
              have GL : Hid ((ds ++ [Value.slice dA dn dc]).length = m + 1) := by show _ = _; rw [List.length_append, HD.out]; rfl
              clear hR5 hM5 g1 g2 HR2 HA2 HB2 HDD hl
              go_wp2_with fail
              go_roundw
              case rel => exact ⟨m + 1, _, by omega, by go_num, GL, G0.out, G1.out, G2.out⟩
              case measure => simp [intOf]; omega
        · obtain rfl : m = 3 := by omega
          have hdv := hr.dv ha
          rw [HD.out] at hdv
          have HDV := hid hdv
          have hds := hdv.sl
          have HR2 := hid (HR.out.below hb)
          have HA2 := hid (HA.out.up hb)
          have HB2 := hid (HB.out.trans (hb.mono HB.out.size))
          obtain ⟨bb, cb, rfl, _, _⟩ := hdv.at_
          have hl : es.length ≤ 1000 := by rw [HL.out]; omega
          clear hr ha hb hdv HR HA HB
          go_wp2_with (at_builtin; refine app_rowT 40 36 Tryd.underlying36 rr_info rfl (.tmp 47) (.tmp 49) rfl u5 w.heap.size es (.slice (some ⟨bb, 0, none⟩) 3 cb) rfl rfl HR2.out hl HB2.out.size hds ?_)
          intro v5 w5 hR5 hM5
          have g1 := HA2.out.snoc (by rw [HL.out]; exact HDV.out) HR2.out hM5
          have g2 := HB2.out.trans (HR2.out.moved hM5 HB2.out.size)
          have G0 := hid hR5
          have G1 := hid g1
          have G2 := hid g2
          have GL : Hid ((es ++ [Value.slice (some ⟨bb, 0, none⟩) 3 cb]).length = k + 1) := by show _ = _; rw [List.length_append, HL.out]; rfl
          clear hR5 hM5 g1 g2 HR2 HA2 HB2 HDV hl
          go_wp2_with fail
          go_roundw
          case rel => exact ⟨k + 1, _, by omega, by go_num, GL, G0.out, G1.out, G2.out⟩
          case measure => simp [intOf]; omega
    · obtain rfl : k = 3 := by omega
      have hdm : DM wr _ es.length (mzMul X Y) := hR.dm (by rw [HL.out]; exact hA)
      rw [HL.out] at hdm
      have HDM := hid hdm
      have HB := hid hb
      clear hR hA hb hdm
      go_wp2
      go_ret
      exact ⟨_, rfl, HDM.out, HB.out⟩
end Go.Proofs.YtlpccdbcaffmmaaDoor
