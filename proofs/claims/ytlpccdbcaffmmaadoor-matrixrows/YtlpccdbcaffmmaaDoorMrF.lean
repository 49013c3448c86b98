import Derived.Test.YtlpccdbcaffmmaaDoorMrD
/-
  avouchref09.Determinant: what the call does.
-/
namespace Go.Proofs.YtlpccdbcaffmmaaDoor
open Go.RowKit
set_option linter.unusedVariables false
set_option linter.unusedSimpArgs false


/-- The sum of the first j products, by turns of both signs. -/
def dsum (D : MZ → Int) (X : MZ) : Nat → Int
  | 0 => 0
  | j + 1 => if j % 2 = 0 then dsum D X j + X 0 j * D (mzSkip X 0 j) else dsum D X j - X 0 j * D (mzSkip X 0 j)
def det1 (X : MZ) : Int := X 0 0
def det2 (X : MZ) : Int := dsum det1 X 2
def det3 (X : MZ) : Int := dsum det2 X 3
theorem det2_eq (X : MZ) : det2 X = X 0 0 * X 1 1 - X 0 1 * X 1 0 := by
  show 0 + X 0 0 * X 1 1 - X 0 1 * X 1 0 = _
  rw [Int.zero_add]
theorem det2_wo (X : MZ) {i j : Nat} (hi : i < 3) (hj : j < 3) : det2 (mzSkip X i j) = mzWo X i j := by
  rw [det2_eq]
  match i, hi, j, hj with
  | 0, _, 0, _ => rfl
  | 0, _, 1, _ => rfl
  | 0, _, 2, _ => rfl
  | 1, _, 0, _ => rfl
  | 1, _, 1, _ => rfl
  | 1, _, 2, _ => rfl
  | 2, _, 0, _ => rfl
  | 2, _, 1, _ => rfl
  | 2, _, 2, _ => rfl
theorem det3_eq (X : MZ) : det3 X = mzDet X := by
  rw [← mzDet_P]
  show 0 + X 0 0 * det2 (mzSkip X 0 0) - X 0 1 * det2 (mzSkip X 0 1) + X 0 2 * det2 (mzSkip X 0 2) = _
  rw [det2_wo X (by decide) (by decide), det2_wo X (by decide) (by decide), det2_wo X (by decide) (by decide), Int.zero_add]
  rfl
/-- What the call does of matrices of n rows. -/
def DetC (n : Nat) (D : MZ → Int) : Prop := ∀ (v : Value) (X : MZ) (w : World), DM w v n X → Calls Tryd.prog 21 #[v] w fun e w' => ∃ r, e = .returned r ∧ Dz w' r (D X) ∧ Below w.heap.size w w'
theorem r9Without0_c (va : Value) (X : MZ) (n c : Nat) (w : World) (hX : DM w va n X) (hn : n ≤ 3) (hr : 0 < n) (hc : c < n) :
    Calls Tryd.prog 47 #[va, .int .i64 0, .int .i64 (c : Int)] w fun e w' => ∃ v, e = .returned v ∧ DM w' v (n - 1) (mzSkip X 0 c) ∧ Below w.heap.size w w' :=
  r9Without_c va X n 0 c w hX hn hr hc
set_option maxRecDepth 20000 in
set_option maxHeartbeats 1000000 in
theorem detC1 : DetC 1 det1 := by
  intro v X w hX
  obtain ⟨bx, cx, rfl, hbx, hcx⟩ := hX.at_
  obtain ⟨d1, hd1, cd1⟩ := hcx 0 (by decide)
  obtain ⟨b1, c1, rfl, hlb1, hcb1⟩ := hd1.at_
  obtain ⟨d2, hd2, cd2⟩ := hcb1 0 (by decide)
  have HD := hid hd2
  clear hX hcx hd1 hcb1 hd2
  go_enter Tryd.func21, Tryd.ntmps21
  go_wp2_with fail
  refine (dTrim_c _ _ w HD.out).mono ?_
  rintro e w1 ⟨r, rfl, hr, b1'⟩
  have HR := hid hr
  have HB := hid b1'
  clear hr b1'
  go_wp2
  go_ret
  exact ⟨_, rfl, HR.out, HB.out⟩
set_option maxRecDepth 40000 in
set_option maxHeartbeats 1000000 in
theorem detCS (n : Nat) (D : MZ → Int) (hn2 : 2 ≤ n) (hn3 : n ≤ 3) (IH : DetC (n - 1) D) : DetC n (fun X => dsum D X n) := by
  intro v X w hX
  unfold DetC at IH
  have HI := hid IH
  clear IH
  obtain ⟨bx, cx, rfl, _, _⟩ := hX.at_
  have HX := hid hX
  have S0 : Hid (Dz (w.alloc (.cells #[] 27)) (.slice (some ⟨w.heap.size, 0, none⟩) 0 0) (dsum D X 0)) := Dz.empty _ _ _
  have SB := hid ((Below.refl w.heap.size w).alloc (Nat.le_refl _) (.cells #[] 27))
  have hn1 : ((n : Int) == 1) = false := by simp; omega
  have hn1' : decide ((n : Int) = 1) = false := decide_eq_false (by omega)
  have hn1'' : decide (n = 1) = false := decide_eq_false (by omega)
  clear hX
  go_enter Tryd.func21, Tryd.ntmps21
  go_wp2_with fail
  clear hn1 hn1' hn1''
  generalize (w.alloc _) = w0 at *
  go_loopw [3, 4] (fun s i wr => ∃ j : Nat, j ≤ n ∧ i = .int .i64 j ∧ Dz wr s (dsum D X j) ∧ Below w.heap.size w wr) (fun _ i _ => n - (intOf i).toNat)
  case atStart => exact ⟨0, by omega, rfl, S0.out, SB.out⟩
  case round =>
    clear S0 SB
    obtain ⟨j, hj, rfl, hs, hb0⟩ := hrel
    by_cases hltj : j < n
    · have l0 : (0 : Int) ≤ (j : Int) := by omega
      have l2 : (j : Int) < (n : Int) := by omega
      have n0 : (0 : Int) < (n : Int) := by omega
      have n0n : 0 < n := by omega
      obtain ⟨bx', cx', ex, hbx, hcx⟩ := (HX.out.up hb0).at_
      injection ex with ex1 ex2 ex3
      injection ex1 with ex1
      injection ex1 with ex1
      subst ex1 ex3
      obtain ⟨d1, hd1, cd1⟩ := hcx 0 (by omega)
      obtain ⟨b1, c1, rfl, hlb1, hcb1⟩ := hd1.at_
      obtain ⟨d2, hd2, cd2⟩ := hcb1 j hltj
      have OA : Hid (∀ v, Below wr.heap.size wr v → v.cell? ⟨bx, 0, none⟩ = some (.slice (some ⟨b1, 0, none⟩) n c1)) := fun v hv => (hv.cell (p := ⟨bx, 0, none⟩) hbx).trans cd1
      have OB : Hid (∀ v, Below wr.heap.size wr v → v.cell? ⟨b1, j, none⟩ = some d2) := fun v hv => (hv.cell (p := ⟨b1, j, none⟩) hlb1).trans cd2
      have EB := hid hd2
      have HS := hid hs
      have HXM := hid HX.out
      have hb0' := hb0
      clear hd1 hcb1 hcx cd1 cd2 hd2 hs ex2
      by_cases hj2 : j % 2 = 0
      · have HE : Hid (dsum D X j + X 0 j * D (mzSkip X 0 j) = dsum D X (j + 1)) := (if_pos hj2).symm
        have hp1 : ((j : Int) % 2 == 0) = true := by simp; omega
        have hp2 : ((j : Int).tmod 2 == 0) = true := by rw [Int.tmod_eq_emod_of_nonneg l0]; exact hp1
        have hp3 : decide ((j : Int) % 2 = 0) = true := by simp; omega
        go_wp2_with fail
        have hb00 : Below wr.heap.size wr wr.drew := (Below.refl _ _).drew
        refine wp_region_held_drew (S := fun v => Below wr.heap.size wr v) (by kernel_rfl) hb00 (fun hHeld => ?_)
        refine wpAnyH_take (i := 0) (v := ?_) rfl (by kernel_rfl) (by kernel_rfl) (by kernel_rfl) (fun _ _ _ h => h) (Or.inl ⟨by rfl, fun v hv => ?_⟩) (by with_reducible assumption) ?_
        rotate_left
        · go_simp
          try with_reducible rfl
        simp only [Act.put, List.setIfInBounds_toArray, List.set_cons_zero, List.set_cons_succ, List.getElem_toArray, List.getElem_cons_zero, List.getElem_cons_succ]
        refine wpAnyH_take (i := 1) (v := ?_) rfl (by kernel_rfl) (by kernel_rfl) (by kernel_rfl) (fun _ _ _ h => h) (Or.inl ⟨by rfl, fun v hv => ?_⟩) (by with_reducible assumption) ?_
        rotate_left
        · go_simp
          try with_reducible rfl
        simp only [Act.put, List.setIfInBounds_toArray, List.set_cons_zero, List.set_cons_succ, List.getElem_toArray, List.getElem_cons_zero, List.getElem_cons_succ]
        refine wpAnyH_take (i := 2) (v := ?_) rfl (by kernel_rfl) (by kernel_rfl) (by kernel_rfl) (fun _ _ _ h => h) (Or.inl ⟨by rfl, fun v hv => ?_⟩) (by with_reducible assumption) ?_
        rotate_left
        · have hcc := OA.out v hv
          go_simp
          try with_reducible rfl
        simp only [Act.put, List.setIfInBounds_toArray, List.set_cons_zero, List.set_cons_succ, List.getElem_toArray, List.getElem_cons_zero, List.getElem_cons_succ]
        refine wpAnyH_take (i := 3) (v := ?_) rfl (by kernel_rfl) (by kernel_rfl) (by kernel_rfl) (fun _ _ _ h => h) (Or.inl ⟨by rfl, fun v hv => ?_⟩) (by with_reducible assumption) ?_
        rotate_left
        · go_simp
          try with_reducible rfl
        simp only [Act.put, List.setIfInBounds_toArray, List.set_cons_zero, List.set_cons_succ, List.getElem_toArray, List.getElem_cons_zero, List.getElem_cons_succ]
        refine wpAnyH_take (i := 4) (v := ?_) rfl (by kernel_rfl) (by kernel_rfl) (by kernel_rfl) (fun _ _ _ h => h) (Or.inl ⟨by rfl, fun v hv => ?_⟩) (by with_reducible assumption) ?_
        rotate_left
        · go_simp
          try with_reducible rfl
        simp only [Act.put, List.setIfInBounds_toArray, List.set_cons_zero, List.set_cons_succ, List.getElem_toArray, List.getElem_cons_zero, List.getElem_cons_succ]
        refine wpAnyH_take (i := 5) (v := ?_) rfl (by kernel_rfl) (by kernel_rfl) (by kernel_rfl) (fun _ _ _ h => h) (Or.inl ⟨by rfl, fun v hv => ?_⟩) (by with_reducible assumption) ?_
        rotate_left
        · have hcc := OB.out v hv
          go_simp
          try with_reducible rfl
        simp only [Act.put, List.setIfInBounds_toArray, List.set_cons_zero, List.set_cons_succ, List.getElem_toArray, List.getElem_cons_zero, List.getElem_cons_succ]
        refine wpAnyH_take (i := 6) (v := ?_) rfl (by kernel_rfl) (by kernel_rfl) (by kernel_rfl) (fun _ _ _ h => h) (Or.inl ⟨by rfl, fun v hv => ?_⟩) (by with_reducible assumption) ?_
        rotate_left
        · go_simp
          try with_reducible rfl
        simp only [Act.put, List.setIfInBounds_toArray, List.set_cons_zero, List.set_cons_succ, List.getElem_toArray, List.getElem_cons_zero, List.getElem_cons_succ]
        refine wpAnyH_take (i := 7) (v := ?_) rfl (by kernel_rfl) (by kernel_rfl) (by kernel_rfl) (fun _ _ _ h => h) (Or.inl ⟨by rfl, fun v hv => ?_⟩) (by with_reducible assumption) ?_
        rotate_left
        · go_simp
          try with_reducible rfl
        simp only [Act.put, List.setIfInBounds_toArray, List.set_cons_zero, List.set_cons_succ, List.getElem_toArray, List.getElem_cons_zero, List.getElem_cons_succ]
        refine wpAnyH_ready (rs := [8]) (by kernel_rfl) (by simp) ?_
        refine (AllReadyH.cons rfl (fun K hK => ?_) AllReadyH.nil)
        go_simp
        go_at_call 47
        with_reducible refine (r9Without0_c _ X n j wr.drew (HXM.out.up (bchain hb0' (hb00))) hn3 (by omega) hltj).mono ?_
        rintro e wq1 ⟨_, rfl, he1, hbq1⟩
        have b_q1 := bchain hb00 hbq1
        try dsimp only
        refine hK.out _ _ (b_q1) (fun hHeld => ?_)
        clear hK K
        try simp only [Act.put, List.setIfInBounds_toArray, List.set_cons_zero, List.set_cons_succ, List.getElem_toArray, List.getElem_cons_zero, List.getElem_cons_succ]
        refine wpAnyH_ready (rs := [9]) (by kernel_rfl) (by simp) ?_
        refine (AllReadyH.cons rfl (fun K hK => ?_) AllReadyH.nil)
        go_simp
        go_at_call 21
        with_reducible refine (HI.out _ _ wq1 he1).mono ?_
        rintro e wq2 ⟨_, rfl, he2, hbq2⟩
        have b_q2 := bchain b_q1 hbq2
        try dsimp only
        refine hK.out _ _ (b_q2) (fun hHeld => ?_)
        clear hK K
        try simp only [Act.put, List.setIfInBounds_toArray, List.set_cons_zero, List.set_cons_succ, List.getElem_toArray, List.getElem_cons_zero, List.getElem_cons_succ]
        refine wpAnyH_ready (rs := [10]) (by kernel_rfl) (by simp) ?_
        refine (AllReadyH.cons rfl (fun K hK => ?_) AllReadyH.nil)
        go_simp
        go_at_call 34
        with_reducible refine (dMulZ_c _ _ _ _ wq2 (EB.out.up (b_q2)) he2).mono ?_
        rintro e wq3 ⟨_, rfl, he3, hbq3⟩
        have b_q3 := bchain b_q2 hbq3
        try dsimp only
        refine hK.out _ _ (b_q3) (fun hHeld => ?_)
        clear hK K
        try simp only [Act.put, List.setIfInBounds_toArray, List.set_cons_zero, List.set_cons_succ, List.getElem_toArray, List.getElem_cons_zero, List.getElem_cons_succ]
        refine wpAnyH_take (i := 11) (v := ?_) rfl (by kernel_rfl) (by kernel_rfl) (by kernel_rfl) (fun _ _ _ h => h) (Or.inl ⟨by rfl, fun v hv => ?_⟩) (by with_reducible assumption) ?_
        rotate_left
        · go_simp
          try with_reducible rfl
        simp only [Act.put, List.setIfInBounds_toArray, List.set_cons_zero, List.set_cons_succ, List.getElem_toArray, List.getElem_cons_zero, List.getElem_cons_succ]
        refine wpAnyH_done (by kernel_rfl) ?_ _
        go_wp2_with fail
        refine (dAddZ_c _ _ _ _ wq3 (HS.out.up (b_q3)) he3).mono ?_
        rintro e wz ⟨rz, rfl, hz, bz⟩
        have HZ : Hid (Dz wz rz (dsum D X (j + 1))) := hz.eq HE.out
        have HBZ := hid (hb0.trans ((bchain (b_q3) bz).mono hb0.size))
        clear hz bz
        go_wp2_with fail
        go_roundw
        case rel => exact ⟨j + 1, by omega, by go_num, HZ.out, HBZ.out⟩
        case measure => simp [intOf]; omega
      · have HE : Hid (dsum D X j - X 0 j * D (mzSkip X 0 j) = dsum D X (j + 1)) := (if_neg hj2).symm
        have hp1 : ((j : Int) % 2 == 0) = false := by simp; omega
        have hp2 : ((j : Int).tmod 2 == 0) = false := by rw [Int.tmod_eq_emod_of_nonneg l0]; exact hp1
        have hp3 : decide ((j : Int) % 2 = 0) = false := by simp; omega
        go_wp2_with fail
        have hb00 : Below wr.heap.size wr wr.drew := (Below.refl _ _).drew
        refine wp_region_held_drew (S := fun v => Below wr.heap.size wr v) (by kernel_rfl) hb00 (fun hHeld => ?_)
        refine wpAnyH_take (i := 0) (v := ?_) rfl (by kernel_rfl) (by kernel_rfl) (by kernel_rfl) (fun _ _ _ h => h) (Or.inl ⟨by rfl, fun v hv => ?_⟩) (by with_reducible assumption) ?_
        rotate_left
        · go_simp
          try with_reducible rfl
        simp only [Act.put, List.setIfInBounds_toArray, List.set_cons_zero, List.set_cons_succ, List.getElem_toArray, List.getElem_cons_zero, List.getElem_cons_succ]
        refine wpAnyH_take (i := 1) (v := ?_) rfl (by kernel_rfl) (by kernel_rfl) (by kernel_rfl) (fun _ _ _ h => h) (Or.inl ⟨by rfl, fun v hv => ?_⟩) (by with_reducible assumption) ?_
        rotate_left
        · go_simp
          try with_reducible rfl
        simp only [Act.put, List.setIfInBounds_toArray, List.set_cons_zero, List.set_cons_succ, List.getElem_toArray, List.getElem_cons_zero, List.getElem_cons_succ]
        refine wpAnyH_take (i := 2) (v := ?_) rfl (by kernel_rfl) (by kernel_rfl) (by kernel_rfl) (fun _ _ _ h => h) (Or.inl ⟨by rfl, fun v hv => ?_⟩) (by with_reducible assumption) ?_
        rotate_left
        · have hcc := OA.out v hv
          go_simp
          try with_reducible rfl
        simp only [Act.put, List.setIfInBounds_toArray, List.set_cons_zero, List.set_cons_succ, List.getElem_toArray, List.getElem_cons_zero, List.getElem_cons_succ]
        refine wpAnyH_take (i := 3) (v := ?_) rfl (by kernel_rfl) (by kernel_rfl) (by kernel_rfl) (fun _ _ _ h => h) (Or.inl ⟨by rfl, fun v hv => ?_⟩) (by with_reducible assumption) ?_
        rotate_left
        · go_simp
          try with_reducible rfl
        simp only [Act.put, List.setIfInBounds_toArray, List.set_cons_zero, List.set_cons_succ, List.getElem_toArray, List.getElem_cons_zero, List.getElem_cons_succ]
        refine wpAnyH_take (i := 4) (v := ?_) rfl (by kernel_rfl) (by kernel_rfl) (by kernel_rfl) (fun _ _ _ h => h) (Or.inl ⟨by rfl, fun v hv => ?_⟩) (by with_reducible assumption) ?_
        rotate_left
        · go_simp
          try with_reducible rfl
        simp only [Act.put, List.setIfInBounds_toArray, List.set_cons_zero, List.set_cons_succ, List.getElem_toArray, List.getElem_cons_zero, List.getElem_cons_succ]
        refine wpAnyH_take (i := 5) (v := ?_) rfl (by kernel_rfl) (by kernel_rfl) (by kernel_rfl) (fun _ _ _ h => h) (Or.inl ⟨by rfl, fun v hv => ?_⟩) (by with_reducible assumption) ?_
        rotate_left
        · have hcc := OB.out v hv
          go_simp
          try with_reducible rfl
        simp only [Act.put, List.setIfInBounds_toArray, List.set_cons_zero, List.set_cons_succ, List.getElem_toArray, List.getElem_cons_zero, List.getElem_cons_succ]
        refine wpAnyH_take (i := 6) (v := ?_) rfl (by kernel_rfl) (by kernel_rfl) (by kernel_rfl) (fun _ _ _ h => h) (Or.inl ⟨by rfl, fun v hv => ?_⟩) (by with_reducible assumption) ?_
        rotate_left
        · go_simp
          try with_reducible rfl
        simp only [Act.put, List.setIfInBounds_toArray, List.set_cons_zero, List.set_cons_succ, List.getElem_toArray, List.getElem_cons_zero, List.getElem_cons_succ]
        refine wpAnyH_take (i := 7) (v := ?_) rfl (by kernel_rfl) (by kernel_rfl) (by kernel_rfl) (fun _ _ _ h => h) (Or.inl ⟨by rfl, fun v hv => ?_⟩) (by with_reducible assumption) ?_
        rotate_left
        · go_simp
          try with_reducible rfl
        simp only [Act.put, List.setIfInBounds_toArray, List.set_cons_zero, List.set_cons_succ, List.getElem_toArray, List.getElem_cons_zero, List.getElem_cons_succ]
        refine wpAnyH_ready (rs := [8]) (by kernel_rfl) (by simp) ?_
        refine (AllReadyH.cons rfl (fun K hK => ?_) AllReadyH.nil)
        go_simp
        go_at_call 47
        with_reducible refine (r9Without0_c _ X n j wr.drew (HXM.out.up (bchain hb0' (hb00))) hn3 (by omega) hltj).mono ?_
        rintro e wr1 ⟨_, rfl, he1, hbr1⟩
        have b_r1 := bchain hb00 hbr1
        try dsimp only
        refine hK.out _ _ (b_r1) (fun hHeld => ?_)
        clear hK K
        try simp only [Act.put, List.setIfInBounds_toArray, List.set_cons_zero, List.set_cons_succ, List.getElem_toArray, List.getElem_cons_zero, List.getElem_cons_succ]
        refine wpAnyH_ready (rs := [9]) (by kernel_rfl) (by simp) ?_
        refine (AllReadyH.cons rfl (fun K hK => ?_) AllReadyH.nil)
        go_simp
        go_at_call 21
        with_reducible refine (HI.out _ _ wr1 he1).mono ?_
        rintro e wr2 ⟨_, rfl, he2, hbr2⟩
        have b_r2 := bchain b_r1 hbr2
        try dsimp only
        refine hK.out _ _ (b_r2) (fun hHeld => ?_)
        clear hK K
        try simp only [Act.put, List.setIfInBounds_toArray, List.set_cons_zero, List.set_cons_succ, List.getElem_toArray, List.getElem_cons_zero, List.getElem_cons_succ]
        refine wpAnyH_ready (rs := [10]) (by kernel_rfl) (by simp) ?_
        refine (AllReadyH.cons rfl (fun K hK => ?_) AllReadyH.nil)
        go_simp
        go_at_call 34
        with_reducible refine (dMulZ_c _ _ _ _ wr2 (EB.out.up (b_r2)) he2).mono ?_
        rintro e wr3 ⟨_, rfl, he3, hbr3⟩
        have b_r3 := bchain b_r2 hbr3
        try dsimp only
        refine hK.out _ _ (b_r3) (fun hHeld => ?_)
        clear hK K
        try simp only [Act.put, List.setIfInBounds_toArray, List.set_cons_zero, List.set_cons_succ, List.getElem_toArray, List.getElem_cons_zero, List.getElem_cons_succ]
        refine wpAnyH_take (i := 11) (v := ?_) rfl (by kernel_rfl) (by kernel_rfl) (by kernel_rfl) (fun _ _ _ h => h) (Or.inl ⟨by rfl, fun v hv => ?_⟩) (by with_reducible assumption) ?_
        rotate_left
        · go_simp
          try with_reducible rfl
        simp only [Act.put, List.setIfInBounds_toArray, List.set_cons_zero, List.set_cons_succ, List.getElem_toArray, List.getElem_cons_zero, List.getElem_cons_succ]
        refine wpAnyH_done (by kernel_rfl) ?_ _
        go_wp2_with fail
        refine (dSubZ_c _ _ _ _ wr3 (HS.out.up (b_r3)) he3).mono ?_
        rintro e wz ⟨rz, rfl, hz, bz⟩
        have HZ : Hid (Dz wz rz (dsum D X (j + 1))) := hz.eq HE.out
        have HBZ := hid (hb0.trans ((bchain (b_r3) bz).mono hb0.size))
        clear hz bz
        go_wp2_with fail
        go_roundw
        case rel => exact ⟨j + 1, by omega, by go_num, HZ.out, HBZ.out⟩
        case measure => simp [intOf]; omega
    · obtain rfl : j = n := by omega
      have HS := hid hs
      have HB := hid hb0
      clear hs hb0
      go_wp2
      go_ret
      exact ⟨_, rfl, HS.out, HB.out⟩
theorem r9Det2_c : DetC 2 det2 := detCS 2 det1 (by decide) (by decide) detC1
theorem r9Det_c (v : Value) (X : MZ) (w : World) (h : DM w v 3 X) : Calls Tryd.prog 21 #[v] w fun e w' => ∃ r, e = .returned r ∧ Dz w' r (mzDet X) ∧ Below w.heap.size w w' := by
  have k := detCS 3 det2 (by decide) (by decide) r9Det2_c v X w h
  rw [← det3_eq]
  exact k
end Go.Proofs.YtlpccdbcaffmmaaDoor
/-
  avouchref09.Minors: what the call does.
-/
namespace Go.Proofs.YtlpccdbcaffmmaaDoor
open Go.RowKit
set_option linter.unusedVariables false
set_option linter.unusedSimpArgs false


theorem minors_a (X : MZ) {k m : Nat} (hk : k < 3) (hm : m < 3) : (minorsL X).getD (3 * k + m) 0 = X k m := by
  match k, hk, m, hm with
  | 0, _, 0, _ => rfl
  | 0, _, 1, _ => rfl
  | 0, _, 2, _ => rfl
  | 1, _, 0, _ => rfl
  | 1, _, 1, _ => rfl
  | 1, _, 2, _ => rfl
  | 2, _, 0, _ => rfl
  | 2, _, 1, _ => rfl
  | 2, _, 2, _ => rfl
theorem minors_b (X : MZ) {k m : Nat} (hk : k < 3) (hm : m < 3) : (minorsL X).getD (9 + 3 * k + m) 0 = mzWo X k m := by
  match k, hk, m, hm with
  | 0, _, 0, _ => rfl
  | 0, _, 1, _ => rfl
  | 0, _, 2, _ => rfl
  | 1, _, 0, _ => rfl
  | 1, _, 1, _ => rfl
  | 1, _, 2, _ => rfl
  | 2, _, 0, _ => rfl
  | 2, _, 1, _ => rfl
  | 2, _, 2, _ => rfl
theorem minors_e (X : MZ) : (minorsL X).getD 18 0 = mzDet X := rfl
/-- The nineteen numbers, by place. -/
def minF (X : MZ) (i : Nat) : Int := (minorsL X).getD i 0
theorem detC2 (v : Value) (X : MZ) (w : World) (h : DM w v 2 X) : Calls Tryd.prog 21 #[v] w fun e w' => ∃ r, e = .returned r ∧ Dz w' r (det2 X) ∧ Below w.heap.size w w' := r9Det2_c v X w h
set_option maxRecDepth 40000 in
set_option maxHeartbeats 1000000 in
theorem r9Minors_c (va : Value) (X : MZ) (w : World) (hX : DM w va 3 X) :
    Calls Tryd.prog 19 #[va] w fun e w' => ∃ v, e = .returned v ∧ DV w' v 19 (minF X) ∧ Below w.heap.size w w' := by
  obtain ⟨bx, cx, rfl, _, _⟩ := hX.at_
  have HX := hid hX
  have R0 := hid (RowT.new 43 w w.heap.size (Nat.le_refl _))
  have B0 := hid ((Below.refl w.heap.size w).alloc (Nat.le_refl _) (.cells #[] 43))
  have A0 := hid (AllZ.nil (w.alloc (.cells #[] 43)) (minF X))
  have L0 : Hid (([] : List Value).length = 3 * 0) := rfl
  clear hX
  go_enter Tryd.func19, Tryd.ntmps19
  go_wp2_with fail
  generalize (w.alloc _) = w0 at *
  go_loopw [3, 4] (fun v i wr => ∃ k : Nat, ∃ ds : List Value, k ≤ 3 ∧ i = .int .i64 k ∧ Hid (ds.length = 3 * k) ∧ RowT 43 wr w.heap.size v ds ∧ AllZ wr ds (minF X) ∧ Below w.heap.size w wr) (fun _ i _ => 3 - (intOf i).toNat)
  case atStart => exact ⟨0, _, by omega, rfl, L0, R0.out, A0.out, B0.out⟩
  case round =>
    clear R0 A0 B0 L0
    obtain ⟨k, ds, hk, rfl, HD, hR, hA, hb⟩ := hrel
    by_cases hlt : k < 3
    · have i0 : (0 : Int) ≤ (k : Int) := by omega
      have i2 : (k : Int) < 3 := by omega
      have HR := hid hR
      have HA := hid hA
      have HB := hid hb
      have HDm : Hid (ds.length = 3 * k + 0) := HD
      clear hR hA hb HD
      obtain ⟨w1, rfl⟩ : ∃ x, x = wr := ⟨wr, rfl⟩
      go_wp2_with fail
      go_loopw [3, 5] (fun v i wr => ∃ m : Nat, ∃ ds : List Value, m ≤ 3 ∧ i = .int .i64 m ∧ Hid (ds.length = 3 * k + m) ∧ RowT 43 wr w.heap.size v ds ∧ AllZ wr ds (minF X) ∧ Below w.heap.size w wr) (fun _ i _ => 3 - (intOf i).toNat)
      case atStart => exact ⟨0, ds, by omega, rfl, HDm, HR.out, HA.out, HB.out⟩
      case round =>
        clear HR HA HB HDm
        obtain ⟨m, ds, hm, rfl, HD, hr, ha, hb⟩ := hrel
        by_cases hltm : m < 3
        · have j0 : (0 : Int) ≤ (m : Int) := by omega
          have j2 : (m : Int) < 3 := by omega
          have hr1 := hid hr
          have ha1 := hid ha
          have hb1 := hid hb
          clear hr ha hb
          obtain ⟨bx', cx', ex, hbx, hcx⟩ := (HX.out.up hb1.out).at_
          injection ex with ex1 ex2 ex3
          injection ex1 with ex1
          injection ex1 with ex1
          subst ex1 ex3
          obtain ⟨d1, hd1, cd1⟩ := hcx k hlt
          obtain ⟨b1, c1, rfl, hlb1, hcb1⟩ := hd1.at_
          obtain ⟨d2, hd2, cd2⟩ := hcb1 m hltm
          have HZ := hid hd2
          clear hcx hd1 hcb1 hd2 ex2
          go_wp2_with fail
          refine (dTrim_c _ _ wr HZ.out).mono ?_
          rintro e wq ⟨d, rfl, hd, BB⟩
          clear cd1 cd2 HZ
          have HR2 := hid (hr1.out.below BB)
          have HA2 := hid (ha1.out.up BB)
          have HB2 := hid (hb1.out.trans (BB.mono hb1.out.size))
          have HDD := hid hd
          have hds := hd.sl
          obtain ⟨dA, dn, dc, rfl⟩ := hd.form
          have hl : ds.length ≤ 1000 := by rw [HD.out]; omega
          clear BB hd hr1 ha1 hb1
          go_wp2_with (at_builtin; refine app_rowT 43 40 Tryd.underlying40 sl_info rfl (.tmp 17) (.tmp 26) rfl u3 w.heap.size ds (.slice dA dn dc) rfl rfl HR2.out hl HB2.out.size hds ?_)
          intro v5 w5 hR5 hM5
          have g1 := HA2.out.snoc (by rw [HD.out]; exact HDD.out.eq (minors_a X hlt hltm).symm) HR2.out hM5
          have g2 := HB2.out.trans (HR2.out.moved hM5 HB2.out.size)
          have G0 := hid hR5
          have G1 := hid g1
          have G2 := hid g2
          have GL : Hid ((ds ++ [Value.slice dA dn dc]).length = 3 * k + m + 1) := by show _ = _; rw [List.length_append, HD.out]; rfl
          clear hR5 hM5 g1 g2 HR2 HA2 HB2 HDD hl
          go_wp2_with fail
          go_roundw
          case rel => exact ⟨m + 1, _, by omega, by go_num, GL, G0.out, G1.out, G2.out⟩
          case measure => simp [intOf]; omega
        · obtain rfl : m = 3 := by omega
          have HR := hid hr
          have HA := hid ha
          have HB := hid hb
          have HL2 : Hid (ds.length = 3 * (k + 1)) := by show _ = _; rw [HD.out]; omega
          clear hr ha hb HD
          go_wp2_with fail
          go_roundw
          case rel => exact ⟨k + 1, ds, by omega, by go_num, HL2, HR.out, HA.out, HB.out⟩
          case measure => simp [intOf]; omega
    · have HK : Hid (k = 3) := hid (by omega)
      have hd3 : decide ((k : Int) < 3) = false := by simp; omega
      have HD9 : Hid (ds.length = 9 + 3 * 0) := by show _ = _; rw [HD.out, HK.out]
      have R0 := hid hR
      have A0 := hid hA
      have B0 := hid hb
      have L0 := HD9
      clear hR hA hb HD HK
      go_wp2_with fail
      clear hd3
      go_loopw [3, 6] (fun v i wr => ∃ k : Nat, ∃ ds : List Value, k ≤ 3 ∧ i = .int .i64 k ∧ Hid (ds.length = 9 + 3 * k) ∧ RowT 43 wr w.heap.size v ds ∧ AllZ wr ds (minF X) ∧ Below w.heap.size w wr) (fun _ i _ => 3 - (intOf i).toNat)
      case atStart => exact ⟨0, _, by omega, rfl, L0, R0.out, A0.out, B0.out⟩
      case round =>
        clear R0 A0 B0 L0
        obtain ⟨k, ds, hk, rfl, HD, hR, hA, hb⟩ := hrel
        by_cases hlt : k < 3
        · have i0 : (0 : Int) ≤ (k : Int) := by omega
          have i2 : (k : Int) < 3 := by omega
          have HR := hid hR
          have HA := hid hA
          have HB := hid hb
          have HDm : Hid (ds.length = 9 + 3 * k + 0) := HD
          clear hR hA hb HD
          obtain ⟨w1, rfl⟩ : ∃ x, x = wr := ⟨wr, rfl⟩
          go_wp2_with fail
          go_loopw [3, 7] (fun v i wr => ∃ m : Nat, ∃ ds : List Value, m ≤ 3 ∧ i = .int .i64 m ∧ Hid (ds.length = 9 + 3 * k + m) ∧ RowT 43 wr w.heap.size v ds ∧ AllZ wr ds (minF X) ∧ Below w.heap.size w wr) (fun _ i _ => 3 - (intOf i).toNat)
          case atStart => exact ⟨0, ds, by omega, rfl, HDm, HR.out, HA.out, HB.out⟩
          case round =>
            clear HR HA HB HDm
            obtain ⟨m, ds, hm, rfl, HD, hr, ha, hb⟩ := hrel
            by_cases hltm : m < 3
            · have j0 : (0 : Int) ≤ (m : Int) := by omega
              have j2 : (m : Int) < 3 := by omega
              have hr1 := hid hr
              have ha1 := hid ha
              have hb1 := hid hb
              clear hr ha hb
              have HXM := hid (HX.out.up hb1.out)
              go_wp2_with fail
              refine (r9Without_c _ X 3 k m wr HXM.out (by decide) hlt hltm).mono ?_
              rintro e wp ⟨vp, rfl, hp, bp⟩
              have HP := hid hp
              have BP := hid bp
              clear hp bp
              go_wp2_with fail
              refine (detC2 vp (mzSkip X k m) wp HP.out).mono ?_
              rintro e wq ⟨d, rfl, hd, bq⟩
              have BB := bchain BP.out bq
              clear bq HXM HP BP
              have HR2 := hid (hr1.out.below BB)
              have HA2 := hid (ha1.out.up BB)
              have HB2 := hid (hb1.out.trans (BB.mono hb1.out.size))
              have HDD := hid hd
              have hds := hd.sl
              obtain ⟨dA, dn, dc, rfl⟩ := hd.form
              have hl : ds.length ≤ 1000 := by rw [HD.out]; omega
              clear BB hd hr1 ha1 hb1
              go_wp2_with (at_builtin; refine app_rowT 43 40 Tryd.underlying40 sl_info rfl (.tmp 36) (.tmp 42) rfl u3 w.heap.size ds (.slice dA dn dc) rfl rfl HR2.out hl HB2.out.size hds ?_)
              intro v5 w5 hR5 hM5
              have g1 := HA2.out.snoc (by rw [HD.out]; exact HDD.out.eq ((det2_wo X hlt hltm).trans (minors_b X hlt hltm).symm)) HR2.out hM5
              have g2 := HB2.out.trans (HR2.out.moved hM5 HB2.out.size)
              have G0 := hid hR5
              have G1 := hid g1
              have G2 := hid g2
              have GL : Hid ((ds ++ [Value.slice dA dn dc]).length = 9 + 3 * k + m + 1) := by show _ = _; rw [List.length_append, HD.out]; rfl
              clear hR5 hM5 g1 g2 HR2 HA2 HB2 HDD hl
              go_wp2_with fail
              go_roundw
              case rel => exact ⟨m + 1, _, by omega, by go_num, GL, G0.out, G1.out, G2.out⟩
              case measure => simp [intOf]; omega
            · obtain rfl : m = 3 := by omega
              have HR := hid hr
              have HA := hid ha
              have HB := hid hb
              have HL2 : Hid (ds.length = 9 + 3 * (k + 1)) := by show _ = _; rw [HD.out]; omega
              clear hr ha hb HD
              go_wp2_with fail
              go_roundw
              case rel => exact ⟨k + 1, ds, by omega, by go_num, HL2, HR.out, HA.out, HB.out⟩
              case measure => simp [intOf]; omega
        · obtain rfl : k = 3 := by omega
          have hr1 := hid hR
          have ha1 := hid hA
          have hb1 := hid hb
          have HXM := hid (HX.out.up hb)
          clear hR hA hb
          go_wp2_with fail
          refine (r9Det_c _ X wr HXM.out).mono ?_
          rintro e wq ⟨d, rfl, hd, BB⟩
          have HR2 := hid (hr1.out.below BB)
          have HA2 := hid (ha1.out.up BB)
          have HB2 := hid (hb1.out.trans (BB.mono hb1.out.size))
          have HDD := hid hd
          have hds := hd.sl
          obtain ⟨dA, dn, dc, rfl⟩ := hd.form
          have hl : ds.length ≤ 1000 := by rw [HD.out]; omega
          clear BB hd hr1 ha1 hb1
          go_wp2_with (at_builtin; refine app_rowT 43 40 Tryd.underlying40 sl_info rfl (.tmp 44) (.tmp 47) rfl u3 w.heap.size ds (.slice dA dn dc) rfl rfl HR2.out hl HB2.out.size hds ?_)
          intro v5 w5 hR5 hM5
          have g1 := HA2.out.snoc (by rw [HD.out]; exact HDD.out.eq (minors_e X).symm) HR2.out hM5
          have g2 := HB2.out.trans (HR2.out.moved hM5 HB2.out.size)
          have G0 := hid hR5
          have G1 := hid g1
          have G2 := hid g2
          have GL : Hid ((ds ++ [Value.slice dA dn dc]).length = 19) := by show _ = _; rw [List.length_append, HD.out]; rfl
          clear hR5 hM5 g1 g2 HR2 HA2 HB2 HDD hl
          go_wp2_with fail
          have hdv := G0.out.dv G1.out
          rw [GL.out] at hdv
          have HV := hid hdv
          clear hdv G0 G1
          go_ret
          exact ⟨_, rfl, HV.out, G2.out⟩
end Go.Proofs.YtlpccdbcaffmmaaDoor
