/-
  avouchref09.Apply, Without: what each call does.
-/
import Derived.Test.YtlpccdbcaffmmaaDoorMrC
namespace Go.Proofs.YtlpccdbcaffmmaaDoor
open Go.RowKit
set_option linter.unusedVariables false
set_option linter.unusedSimpArgs false

theorem dotZ_apply (X : MZ) (V : Nat → Int) (i : Nat) : dotZ (X i) V 3 = mzApply X V i := by
  show 0 + X i 0 * V 0 + X i 1 * V 1 + X i 2 * V 2 = X i 0 * V 0 + X i 1 * V 1 + X i 2 * V 2
  rw [Int.zero_add]
set_option maxRecDepth 40000 in
set_option maxHeartbeats 1000000 in
theorem r9Apply_c (va vb : Value) (X : MZ) (V : Nat → Int) (w : World) (hX : DM w va 3 X) (hV : DV w vb 3 V) :
    Calls Tryd.prog 11 #[va, vb] w fun e w' => ∃ v, e = .returned v ∧ DV w' v 3 (mzApply X V) ∧ Below w.heap.size w w' := by
  obtain ⟨bx, cx, rfl, _, _⟩ := hX.at_
  obtain ⟨bv, cv, rfl, _, _⟩ := hV.at_
  obtain ⟨w1, rfl⟩ : ∃ x, x = w := ⟨w, rfl⟩
  have HX := hid hX
  have HV := hid hV
  have R1 := hid (RowT.new 43 w1 w1.heap.size (Nat.le_refl _))
  have B1 := hid ((Below.refl w1.heap.size w1).alloc (Nat.le_refl _) (.cells #[] 43))
  clear hX hV
  go_enter Tryd.func11, Tryd.ntmps11
  go_wp2_with fail
  generalize (w1.alloc _) = w2 at *
  go_loopw [5, 6] (fun v i wr => ∃ m : Nat, ∃ ds : List Value, m ≤ 3 ∧ i = .int .i64 m ∧ Hid (ds.length = m) ∧ RowT 43 wr w1.heap.size v ds ∧ AllZ wr ds (mzApply X V) ∧ Below w1.heap.size w1 wr) (fun _ i _ => 3 - (intOf i).toNat)
  case atStart => exact ⟨0, [], by omega, rfl, hid rfl, R1.out, AllZ.nil _ _, B1.out⟩
  case round =>
    clear R1 B1
    obtain ⟨m, ds, hm, rfl, HD, hr, ha, hb⟩ := hrel
    by_cases hltm : m < 3
    · have j0 : (0 : Int) ≤ (m : Int) := by omega
      have j2 : (m : Int) < 3 := by omega
      have hr1 := hid hr
      have ha1 := hid ha
      have hb1 := hid hb
      clear hr ha hb
      have HXM := hid (HX.out.up hb1.out)
      have HVM := hid (HV.out.up hb1.out)
      have S0 : Hid (Dz (wr.alloc (.cells #[] 27)) (.slice (some ⟨wr.heap.size, 0, none⟩) 0 0) (dotZ (X m) V 0)) := Dz.empty _ _ _
      have SB := hid ((Below.refl wr.heap.size wr).alloc (Nat.le_refl _) (.cells #[] 27))
      go_wp2_with fail
      obtain ⟨w3, rfl⟩ : ∃ x, x = wr := ⟨wr, rfl⟩
      generalize (w3.alloc _) = w4' at *
      go_loopw [7, 8] (fun s i wr => ∃ q : Nat, q ≤ 3 ∧ i = .int .i64 q ∧ Dz wr s (dotZ (X m) V q) ∧ Below w3.heap.size w3 wr) (fun _ i _ => 3 - (intOf i).toNat)
      case atStart => exact ⟨0, by omega, rfl, S0.out, SB.out⟩
      case round =>
        clear S0 SB
        obtain ⟨q, hq, rfl, hs, hb0⟩ := hrel
        by_cases hltq : q < 3
        · have l0 : (0 : Int) ≤ (q : Int) := by omega
          have l2 : (q : Int) < 3 := by omega
          obtain ⟨bx', cx', ex, hbx, hcx⟩ := (HXM.out.up hb0).at_
          obtain ⟨bv', cv', ev, hbv, hcv⟩ := (HVM.out.up hb0).at_
          injection ex with ex1 ex2 ex3
          injection ex1 with ex1
          injection ex1 with ex1
          injection ev with ev1 ev2 ev3
          injection ev1 with ev1
          injection ev1 with ev1
          subst ex1 ex3 ev1 ev3
          obtain ⟨d1, hd1, cd1⟩ := hcx m hltm
          obtain ⟨d3, hd3, cd3⟩ := hcv q hltq
          obtain ⟨b1, c1, rfl, hlb1, hcb1⟩ := hd1.at_
          obtain ⟨d2, hd2, cd2⟩ := hcb1 q hltq
          have OA : Hid (∀ v, Below wr.heap.size wr v → v.cell? ⟨bx, m, none⟩ = some (.slice (some ⟨b1, 0, none⟩) 3 c1)) := fun v hv => (hv.cell (p := ⟨bx, m, none⟩) hbx).trans cd1
          have OB : Hid (∀ v, Below wr.heap.size wr v → v.cell? ⟨b1, q, none⟩ = some d2) := fun v hv => (hv.cell (p := ⟨b1, q, none⟩) hlb1).trans cd2
          have OC : Hid (∀ v, Below wr.heap.size wr v → v.cell? ⟨bv, q, none⟩ = some d3) := fun v hv => (hv.cell (p := ⟨bv, q, none⟩) hbv).trans cd3
          have EB := hid hd2
          have ED := hid hd3
          have HS := hid hs
          clear hd1 hd3 hcb1 hcx hcv cd1 cd2 cd3 hd2 hs ex2 ev2 HXM HVM hr1 ha1 hb1
          go_wp2_with fail
          have hb00 : Below wr.heap.size wr wr.drew := (Below.refl _ _).drew
          refine wp_region_held_drew (S := fun v => Below wr.heap.size wr v) (by kernel_rfl) hb00 (fun hHeld => ?_)
          refine wpAnyH_take (i := 0) (v := ?_) rfl (by kernel_rfl) (by kernel_rfl) (by kernel_rfl) (fun _ _ _ h => h) (Or.inl ⟨by rfl, fun v hv => ?_⟩) (by with_reducible assumption) ?_
          rotate_left
          · go_simp
            try with_reducible rfl
          simp only [Act.put, List.setIfInBounds_toArray, List.set_cons_zero, List.set_cons_succ, List.getElem_toArray, List.getElem_cons_zero, List.getElem_cons_succ]
          refine wpAnyH_take (i := 1) (v := ?_) rfl (by kernel_rfl) (by kernel_rfl) (by kernel_rfl) (fun _ _ _ h => h) (Or.inl ⟨by rfl, fun v hv => ?_⟩) (by with_reducible assumption) ?_
          rotate_left
          · go_simp
            try with_reducible rfl
          simp only [Act.put, List.setIfInBounds_toArray, List.set_cons_zero, List.set_cons_succ, List.getElem_toArray, List.getElem_cons_zero, List.getElem_cons_succ]
          refine wpAnyH_take (i := 2) (v := ?_) rfl (by kernel_rfl) (by kernel_rfl) (by kernel_rfl) (fun _ _ _ h => h) (Or.inl ⟨by rfl, fun v hv => ?_⟩) (by with_reducible assumption) ?_
          rotate_left
          · go_simp
            try with_reducible rfl
          simp only [Act.put, List.setIfInBounds_toArray, List.set_cons_zero, List.set_cons_succ, List.getElem_toArray, List.getElem_cons_zero, List.getElem_cons_succ]
          refine wpAnyH_take (i := 3) (v := ?_) rfl (by kernel_rfl) (by kernel_rfl) (by kernel_rfl) (fun _ _ _ h => h) (Or.inl ⟨by rfl, fun v hv => ?_⟩) (by with_reducible assumption) ?_
          rotate_left
          · go_simp
            try with_reducible rfl
          simp only [Act.put, List.setIfInBounds_toArray, List.set_cons_zero, List.set_cons_succ, List.getElem_toArray, List.getElem_cons_zero, List.getElem_cons_succ]
          refine wpAnyH_take (i := 4) (v := ?_) rfl (by kernel_rfl) (by kernel_rfl) (by kernel_rfl) (fun _ _ _ h => h) (Or.inl ⟨by rfl, fun v hv => ?_⟩) (by with_reducible assumption) ?_
          rotate_left
          · have hcc := OA.out v hv
            go_simp
            try with_reducible rfl
          simp only [Act.put, List.setIfInBounds_toArray, List.set_cons_zero, List.set_cons_succ, List.getElem_toArray, List.getElem_cons_zero, List.getElem_cons_succ]
          refine wpAnyH_take (i := 5) (v := ?_) rfl (by kernel_rfl) (by kernel_rfl) (by kernel_rfl) (fun _ _ _ h => h) (Or.inl ⟨by rfl, fun v hv => ?_⟩) (by with_reducible assumption) ?_
          rotate_left
          · go_simp
            try with_reducible rfl
          simp only [Act.put, List.setIfInBounds_toArray, List.set_cons_zero, List.set_cons_succ, List.getElem_toArray, List.getElem_cons_zero, List.getElem_cons_succ]
          refine wpAnyH_take (i := 6) (v := ?_) rfl (by kernel_rfl) (by kernel_rfl) (by kernel_rfl) (fun _ _ _ h => h) (Or.inl ⟨by rfl, fun v hv => ?_⟩) (by with_reducible assumption) ?_
          rotate_left
          · go_simp
            try with_reducible rfl
          simp only [Act.put, List.setIfInBounds_toArray, List.set_cons_zero, List.set_cons_succ, List.getElem_toArray, List.getElem_cons_zero, List.getElem_cons_succ]
          refine wpAnyH_take (i := 7) (v := ?_) rfl (by kernel_rfl) (by kernel_rfl) (by kernel_rfl) (fun _ _ _ h => h) (Or.inl ⟨by rfl, fun v hv => ?_⟩) (by with_reducible assumption) ?_
          rotate_left
          · have hcc := OB.out v hv
            go_simp
            try with_reducible rfl
          simp only [Act.put, List.setIfInBounds_toArray, List.set_cons_zero, List.set_cons_succ, List.getElem_toArray, List.getElem_cons_zero, List.getElem_cons_succ]
          refine wpAnyH_take (i := 8) (v := ?_) rfl (by kernel_rfl) (by kernel_rfl) (by kernel_rfl) (fun _ _ _ h => h) (Or.inl ⟨by rfl, fun v hv => ?_⟩) (by with_reducible assumption) ?_
          rotate_left
          · go_simp
            try with_reducible rfl
          simp only [Act.put, List.setIfInBounds_toArray, List.set_cons_zero, List.set_cons_succ, List.getElem_toArray, List.getElem_cons_zero, List.getElem_cons_succ]
          refine wpAnyH_take (i := 9) (v := ?_) rfl (by kernel_rfl) (by kernel_rfl) (by kernel_rfl) (fun _ _ _ h => h) (Or.inl ⟨by rfl, fun v hv => ?_⟩) (by with_reducible assumption) ?_
          rotate_left
          · go_simp
            try with_reducible rfl
          simp only [Act.put, List.setIfInBounds_toArray, List.set_cons_zero, List.set_cons_succ, List.getElem_toArray, List.getElem_cons_zero, List.getElem_cons_succ]
          refine wpAnyH_take (i := 10) (v := ?_) rfl (by kernel_rfl) (by kernel_rfl) (by kernel_rfl) (fun _ _ _ h => h) (Or.inl ⟨by rfl, fun v hv => ?_⟩) (by with_reducible assumption) ?_
          rotate_left
          · go_simp
            try with_reducible rfl
          simp only [Act.put, List.setIfInBounds_toArray, List.set_cons_zero, List.set_cons_succ, List.getElem_toArray, List.getElem_cons_zero, List.getElem_cons_succ]
          refine wpAnyH_take (i := 11) (v := ?_) rfl (by kernel_rfl) (by kernel_rfl) (by kernel_rfl) (fun _ _ _ h => h) (Or.inl ⟨by rfl, fun v hv => ?_⟩) (by with_reducible assumption) ?_
          rotate_left
          · have hcc := OC.out v hv
            go_simp
            try with_reducible rfl
          simp only [Act.put, List.setIfInBounds_toArray, List.set_cons_zero, List.set_cons_succ, List.getElem_toArray, List.getElem_cons_zero, List.getElem_cons_succ]
          refine wpAnyH_ready (rs := [12]) (by kernel_rfl) (by simp) ?_
          refine (AllReadyH.cons rfl (fun K hK => ?_) AllReadyH.nil)
          go_simp
          go_at_call 34
          with_reducible refine (dMulZ_c _ _ _ _ wr.drew (EB.out.up (hb00)) (ED.out.up (hb00))).mono ?_
          rintro e wq1 ⟨_, rfl, he1, hbq1⟩
          have b_q1 := bchain hb00 hbq1
          try dsimp only
          refine hK.out _ _ (b_q1) (fun hHeld => ?_)
          clear hK K
          try simp only [Act.put, List.setIfInBounds_toArray, List.set_cons_zero, List.set_cons_succ, List.getElem_toArray, List.getElem_cons_zero, List.getElem_cons_succ]
          refine wpAnyH_ready (rs := [13]) (by kernel_rfl) (by simp) ?_
          refine (AllReadyH.cons rfl (fun K hK => ?_) AllReadyH.nil)
          go_simp
          go_at_call 33
          with_reducible refine (dAddZ_c _ _ _ _ wq1 (HS.out.up (b_q1)) he1).mono ?_
          rintro e wq2 ⟨_, rfl, hsum, hbq2⟩
          have b_q2 := bchain b_q1 hbq2
          try dsimp only
          refine hK.out _ _ (b_q2) (fun hHeld => ?_)
          clear hK K
          try simp only [Act.put, List.setIfInBounds_toArray, List.set_cons_zero, List.set_cons_succ, List.getElem_toArray, List.getElem_cons_zero, List.getElem_cons_succ]
          refine wpAnyH_take (i := 14) (v := ?_) rfl (by kernel_rfl) (by kernel_rfl) (by kernel_rfl) (fun _ _ _ h => h) (Or.inl ⟨by rfl, fun v hv => ?_⟩) (by with_reducible assumption) ?_
          rotate_left
          · go_simp
            try with_reducible rfl
          simp only [Act.put, List.setIfInBounds_toArray, List.set_cons_zero, List.set_cons_succ, List.getElem_toArray, List.getElem_cons_zero, List.getElem_cons_succ]
          refine wpAnyH_done (by kernel_rfl) ?_ _
          go_wp2_with fail
          go_roundw
          case rel => exact ⟨q + 1, by omega, by go_num, hsum, hb0.trans ((b_q2).mono hb0.size)⟩
          case measure => simp [intOf]; omega
        · obtain rfl : q = 3 := by omega
          have hd := hs.eq (dotZ_apply X V m)
          have BB := hb0
          clear hs hb0 HXM HVM
          have HR2 := hid (hr1.out.below BB)
          have HA2 := hid (ha1.out.up BB)
          have HB2 := hid (hb1.out.trans (BB.mono hb1.out.size))
          have HDD := hid hd
          have hds := hd.sl
          obtain ⟨dA, dn, dc, rfl⟩ := hd.form
          have hl : ds.length ≤ 1000 := by rw [HD.out]; omega
          clear BB hd hr1 ha1 hb1
          go_wp2_with (at_builtin; refine app_rowT 43 40 Tryd.underlying40 sl_info rfl (.tmp 33) (.tmp 35) rfl u5 w1.heap.size ds (.slice dA dn dc) rfl rfl HR2.out hl HB2.out.size hds ?_)
          intro v5 w5 hR5 hM5
          have g1 := HA2.out.snoc (by rw [HD.out]; exact HDD.out) HR2.out hM5
          have g2 := HB2.out.trans (HR2.out.moved hM5 HB2.out.size)
          have G0 := hid hR5
          have G1 := hid g1
          have G2 := hid g2
          have GL : Hid ((ds ++ [Value.slice dA dn dc]).length = m + 1) := by show _ = _; rw [List.length_append, HD.out]; rfl
          clear hR5 hM5 g1 g2 HR2 HA2 HB2 HDD hl
          go_wp2_with fail
          go_roundw
          case rel => exact ⟨m + 1, _, by omega, by go_num, GL, G0.out, G1.out, G2.out⟩
          case measure => simp [intOf]; omega
    · obtain rfl : m = 3 := by omega
      have hdv := hr.dv ha
      rw [HD.out] at hdv
      have HDV := hid hdv
      have HB := hid hb
      clear hr ha hb hdv
      go_wp2
      go_ret
      exact ⟨_, rfl, HDV.out, HB.out⟩

/-- What is left without a row and a column. -/
def skp (r i : Nat) : Nat := if i < r then i else i + 1
def mzSkip (X : MZ) (r c : Nat) : MZ := fun i j => X (skp r i) (skp c j)
set_option maxRecDepth 40000 in
set_option maxHeartbeats 1000000 in
theorem r9Without_c (va : Value) (X : MZ) (n r c : Nat) (w : World) (hX : DM w va n X) (hn : n ≤ 3) (hr : r < n) (hc : c < n) :
    Calls Tryd.prog 47 #[va, .int .i64 (r : Int), .int .i64 (c : Int)] w fun e w' => ∃ v, e = .returned v ∧ DM w' v (n - 1) (mzSkip X r c) ∧ Below w.heap.size w w' := by
  obtain ⟨bx, cx, rfl, _, _⟩ := hX.at_
  have HX := hid hX
  have R0 := hid (RowT.new 40 w w.heap.size (Nat.le_refl _))
  have B0 := hid ((Below.refl w.heap.size w).alloc (Nat.le_refl _) (.cells #[] 40))
  clear hX
  go_enter Tryd.func47, Tryd.ntmps47
  go_wp2_with fail
  generalize (w.alloc _) = w0 at *
  go_loopw [7, 8] (fun v i wr => ∃ k : Nat, ∃ es : List Value, k ≤ n ∧ i = .int .i64 k ∧ Hid (es.length = if k ≤ r then k else k - 1) ∧ RowT 40 wr w.heap.size v es ∧ AllV wr es (n - 1) (mzSkip X r c) ∧ Below w.heap.size w wr) (fun _ i _ => n - (intOf i).toNat)
  case atStart => exact ⟨0, [], by omega, rfl, by show _ = _; rw [if_pos (Nat.zero_le _)]; rfl, R0.out, AllV.nil _ _ _, B0.out⟩
  case round =>
    clear R0 B0
    obtain ⟨k, es, hk, rfl, HL, hR, hA, hb⟩ := hrel
    by_cases hlt : k < n
    · have i0 : (0 : Int) ≤ (k : Int) := by omega
      have i2 : (k : Int) < (n : Int) := by omega
      by_cases hkr : k = r
      · have hd : ((k : Int) == (r : Int)) = true := by simp; omega
        have HL1 : Hid (es.length = if k + 1 ≤ r then k + 1 else k + 1 - 1) := by show _ = _; rw [HL.out, if_pos (by omega), if_neg (by omega)]; omega
        have HR := hid hR
        have HA := hid hA
        have HB := hid hb
        clear hR hA hb HL
        subst hkr
        go_wp2_with fail
        go_roundw
        case rel => exact ⟨k + 1, es, by omega, by go_num, HL1, HR.out, HA.out, HB.out⟩
        case measure => simp [intOf]; omega
      · have hd : decide ((k : Int) = (r : Int)) = false := decide_eq_false (by omega)
        have hd' : ((k : Int) == (r : Int)) = false := by simp; omega
        have HSK : Hid (skp r es.length = k) := by show _ = _; unfold skp; rw [HL.out]; split <;> split <;> omega
        have HR := hid hR
        have HA := hid hA
        have HB := hid hb
        have HLE : Hid (es.length ≤ 1000) := by show _ ≤ _; rw [HL.out]; split <;> omega
        have HL1 : Hid (es.length + 1 = if k + 1 ≤ r then k + 1 else k + 1 - 1) := by show _ = _; rw [HL.out]; split <;> split <;> omega
        clear hR hA hb HL
        obtain ⟨w1, rfl⟩ : ∃ x, x = wr := ⟨wr, rfl⟩
        have R1 := hid (RowT.new 43 w1 w1.heap.size (Nat.le_refl _))
        have B1 := hid ((Below.refl w1.heap.size w1).alloc (Nat.le_refl _) (.cells #[] 43))
        have XM := hid (HX.out.up HB.out)
        go_wp2_with fail
        clear hd hd'
        generalize (w1.alloc _) = w2 at *
        go_loopw [9, 10] (fun v i wr => ∃ m : Nat, ∃ ds : List Value, m ≤ n ∧ i = .int .i64 m ∧ Hid (ds.length = if m ≤ c then m else m - 1) ∧ RowT 43 wr w1.heap.size v ds ∧ AllZ wr ds (fun j => X k (skp c j)) ∧ Below w1.heap.size w1 wr) (fun _ i _ => n - (intOf i).toNat)
        case atStart => exact ⟨0, [], by omega, rfl, by show _ = _; rw [if_pos (Nat.zero_le _)]; rfl, R1.out, AllZ.nil _ _, B1.out⟩
        case round =>
          clear R1 B1
          obtain ⟨m, ds, hm, rfl, HD, hr2, ha, hb⟩ := hrel
          by_cases hltm : m < n
          · have j0 : (0 : Int) ≤ (m : Int) := by omega
            have j2 : (m : Int) < (n : Int) := by omega
            by_cases hmc : m = c
            · have hd : ((m : Int) == (c : Int)) = true := by simp; omega
              have HD1 : Hid (ds.length = if m + 1 ≤ c then m + 1 else m + 1 - 1) := by show _ = _; rw [HD.out, if_pos (by omega), if_neg (by omega)]; omega
              have HR2 := hid hr2
              have HA2 := hid ha
              have HB2 := hid hb
              clear hr2 ha hb HD
              subst hmc
              go_wp2_with fail
              go_roundw
              case rel => exact ⟨m + 1, ds, by omega, by go_num, HD1, HR2.out, HA2.out, HB2.out⟩
              case measure => simp [intOf]; omega
            · have hd : decide ((m : Int) = (c : Int)) = false := decide_eq_false (by omega)
              have hd' : ((m : Int) == (c : Int)) = false := by simp; omega
              have HSC : Hid (skp c ds.length = m) := by show _ = _; unfold skp; rw [HD.out]; split <;> split <;> omega
              have hl : ds.length ≤ 1000 := by rw [HD.out]; split <;> omega
              have HD1 : Hid (ds.length + 1 = if m + 1 ≤ c then m + 1 else m + 1 - 1) := by show _ = _; rw [HD.out]; split <;> split <;> omega
              obtain ⟨bx', cx', ex, hbx, hcx⟩ := (XM.out.up hb).at_
              injection ex with ex1 ex2 ex3
              injection ex1 with ex1
              injection ex1 with ex1
              subst ex1 ex3
              obtain ⟨d1, hd1, cd1⟩ := hcx k hlt
              obtain ⟨b1, c1, rfl, hlb1, hcb1⟩ := hd1.at_
              obtain ⟨d, hdz, cd2⟩ := hcb1 m hltm
              have hds := hdz.sl
              obtain ⟨dA, dn, dc, rfl⟩ := hdz.form
              have HDD := hid hdz
              have HR2 := hid hr2
              have HA2 := hid ha
              have HB2 := hid hb
              clear hr2 ha hb hdz hcb1 hcx hd1 ex2 HD
              go_wp2_with (at_builtin; refine app_rowT 43 40 Tryd.underlying40 sl_info rfl (.tmp 31) (.tmp 39) rfl u9 w1.heap.size ds (.slice dA dn dc) rfl rfl HR2.out hl HB2.out.size hds ?_)
              intro v5 w5 hR5 hM5
              have g1 := HA2.out.snoc (by show Dz wr _ (X k (skp c ds.length)); rw [HSC.out]; exact HDD.out) HR2.out hM5
              have g2 := HB2.out.trans (HR2.out.moved hM5 HB2.out.size)
              have G0 := hid hR5
              have G1 := hid g1
              have G2 := hid g2
              have GL : Hid ((ds ++ [Value.slice dA dn dc]).length = if m + 1 ≤ c then m + 1 else m + 1 - 1) := by show _ = _; rw [List.length_append]; exact HD1.out
              clear hR5 hM5 g1 g2 HR2 HA2 HB2 HDD hl cd1 cd2 hd hd'
              go_wp2_with fail
              go_roundw
              case rel => exact ⟨m + 1, _, by omega, by go_num, GL, G0.out, G1.out, G2.out⟩
              case measure => simp [intOf]; omega
          · obtain rfl : m = n := by omega
            have hdv := hr2.dv ha
            have e : ds.length = m - 1 := by rw [HD.out, if_neg (by omega)]
            rw [e] at hdv
            have HDV := hid (hdv.eq (Z := mzSkip X r c es.length) (fun j hj => by show X k (skp c j) = X (skp r es.length) (skp c j); rw [HSK.out]))
            have hds := hdv.sl
            have HR2 := hid (HR.out.below hb)
            have HA2 := hid (HA.out.up hb)
            have HB2 := hid (HB.out.trans (hb.mono HB.out.size))
            obtain ⟨bb, cb, rfl, _, _⟩ := hdv.at_
            have hl := HLE.out
            clear hr2 ha hb hdv HR HA HB
            go_wp2_with (at_builtin; refine app_rowT 40 36 Tryd.underlying36 rr_info rfl (.tmp 41) (.tmp 43) rfl u7 w.heap.size es (.slice (some ⟨bb, 0, none⟩) (m - 1) cb) rfl rfl HR2.out hl HB2.out.size hds ?_)
            intro v5 w5 hR5 hM5
            have g1 := HA2.out.snoc HDV.out HR2.out hM5
            have g2 := HB2.out.trans (HR2.out.moved hM5 HB2.out.size)
            have G0 := hid hR5
            have G1 := hid g1
            have G2 := hid g2
            have GL : Hid ((es ++ [Value.slice (some ⟨bb, 0, none⟩) (m - 1) cb]).length = if k + 1 ≤ r then k + 1 else k + 1 - 1) := by show _ = _; rw [List.length_append]; exact HL1.out
            clear hR5 hM5 g1 g2 HR2 HA2 HB2 HDV hl
            go_wp2_with fail
            go_roundw
            case rel => exact ⟨k + 1, _, by omega, by go_num, GL, G0.out, G1.out, G2.out⟩
            case measure => simp [intOf]; omega
    · obtain rfl : k = n := by omega
      have e : es.length = k - 1 := by rw [HL.out, if_neg (by omega)]
      have hdm : DM wr _ es.length (mzSkip X r c) := hR.dm (by rw [e]; exact hA)
      rw [e] at hdm
      have HDM := hid hdm
      have HB := hid hb
      clear hR hA hb hdm e
      go_wp2
      go_ret
      exact ⟨_, rfl, HDM.out, HB.out⟩
end Go.Proofs.YtlpccdbcaffmmaaDoor
