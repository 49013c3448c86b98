/-
  avouchlaw05.GroupReads: the walk.
-/
import Derived.Test.YtfonpmahcdmajaaDoorGrpU
import Derived.BigQuiet
import Derived.Deep.QuietTactic
namespace Go.Proofs.YtfonpmahcdmajaaDoor
open Go.RowKit
set_option linter.unusedVariables false
set_option linter.unusedSimpArgs false

/-- What is kept: the bytes, the element in memory, its digits. -/
structure EnvR5 (w : World) (A : Option Addr) (n : Nat) (bs : List Nat) (ba N : Nat) (dv : Value) (v : World) : Prop where
  a : Rd8 v v.heap.size A n bs
  x : BlkW v ba 35 (ds N)
  d : Dg v dv N
  b : Below w.heap.size w v
theorem EnvR5.up {w : World} {A : Option Addr} {n : Nat} {bs : List Nat} {ba N : Nat} {dv : Value} {v v' : World} (h : EnvR5 w A n bs ba N dv v) (hb : Below v.heap.size v v') : EnvR5 w A n bs ba N dv v' :=
  ⟨h.a.up hb (Nat.le_refl _), blk_up h.x hb, h.d.up hb, bchain h.b hb⟩
theorem EnvR5.drew {w : World} {A : Option Addr} {n : Nat} {bs : List Nat} {ba N : Nat} {dv : Value} {v : World} (h : EnvR5 w A n bs ba N dv v) : EnvR5 w A n bs ba N dv v.drew := h.up (Below.refl _ _).drew
theorem eN_lt12 (bs : List Nat) : eN bs < W12 := by
  unfold eN
  split
  · exact rdN_lt12 true bs
  · decide
/-- No error: the bytes are 96, and the number is theirs. -/
theorem eE_zero {bs : List Nat} (h : eE bs = 0) : bs.length = 96 ∧ val 256 bs = eN bs := by
  have hE : rdE true bs = 0 := by
    apply Classical.byContradiction
    intro c
    unfold eE at h
    rw [if_neg c] at h
    exact c h
  have hN : eN bs = rdN true bs := by unfold eN; rw [if_pos h]
  rw [hN]
  rcases rd_cases true bs with ⟨_, _, e⟩ | ⟨_, _, _, e⟩ | ⟨h1, _, e, _⟩
  · rw [e] at hE; cases hE
  · rw [e] at hE; cases hE
  · exact ⟨h1, e.symm⟩

set_option maxRecDepth 100000 in
set_option maxHeartbeats 8000000 in
theorem groupReads_w (A : Option Addr) (n c : Nat) (bs : List Nat) (w : World) (ha : Rd8 w w.heap.size A n bs) (hG : GlobW w) :
    Calls Tryd.prog 4 #[.slice A n c] w fun e w' => e = .returned (.bool true) ∧ Below w.heap.size w w' := by
  have HA := hid ha
  have HG := hid hG
  clear ha hG
  go_enter Tryd.func4, Tryd.ntmps4
  go_wp2_with fail
  refine (speaks5_c w HG.out).mono ?_
  rintro e w1 ⟨rfl, b1⟩
  by_cases hn : 100 < n
  · have i0 : (100 : Int) < (n : Int) := by omega
    go_wp2_with fail
    refine (speaks5_c w1 (HG.out.up b1)).mono ?_
    rintro e w2 ⟨rfl, b2⟩
    clear i0
    go_wp2
    go_ret
    exact ⟨rfl, bchain b1 b2⟩
  have i0 : decide ((100 : Int) < (n : Int)) = false := by simp; omega
  clear hn
  go_wp2_with fail
  refine (gRead_c A n c bs w1 (HA.out.up b1 (Nat.le_refl _)) (HG.out.up b1)).mono ?_
  rintro e w2 ⟨rfl, b2⟩
  have b02 := bchain b1 b2
  obtain ⟨N, hN⟩ : ∃ N, N = eN bs := ⟨_, rfl⟩
  obtain ⟨E, hE⟩ : ∃ E, E = eE bs := ⟨_, rfl⟩
  rw [← hN, ← hE]
  have HNN := hid hN
  have HEE := hid hE
  obtain ⟨w3, s3, x3, b3⟩ := layT w2 35 N
  have hlen := dsc_len N
  have b03 := bchain b02 b3
  have HX3 := hid x3
  clear hN hE b02 b2 b3 x3 b1 i0
  unfold num z12 at *
  go_wp2_with fail
  refine (r5Read_c A n c bs w3 (HA.out.up b03 (Nat.le_refl _))).mono ?_
  rintro e w4 ⟨dv, rfl, hd, b4⟩
  rw [← HEE.out]
  rw [← HNN.out] at hd
  have E4 : EnvR5 w A n bs w2.heap.size N dv w4 := ⟨(HA.out.up b03 (Nat.le_refl _)).up b4 (Nat.le_refl _), blk_up HX3.out b4, hd, bchain b03 b4⟩
  clear hd b4 b03 HX3 s3 hlen
  have hEE : ((E : Int) != E) = false := by simp
  go_wp2_with fail
  generalize w2.heap.size = ba at *
  have E5 := hid E4.drew
  have EQ := hid E4
  clear E4
  go_cut [49] (fun s wx => s = .bool false ∧ EnvR5 w A n bs ba N dv wx)
  case first =>
    by_cases hE0 : E = 0
    · subst hE0
      have HZ := hid (eE_zero HEE.out.symm)
      have HLN : Hid (n = 96) := hid (by have h1 := E5.out.a.len; have h2 := HZ.out.1; omega)
      have E6 := E5.out
      obtain ⟨n12, hn12⟩ : ∃ n : Nat, n = 12 := ⟨_, rfl⟩
      have L1 : ∀ v, EnvR5 w A n bs ba N dv v → (loadCellsFrom ⟨ba, 0, none⟩ 0 n12 #[]).run Tryd.prog v = .ok (cellsOf64 (ds N)).toArray v := fun v h => by rw [hn12]; exact cells_numT h.x
      have CI : ∀ v, EnvR5 w A n bs ba N dv v → Calls Tryd.prog 18 #[.agg (cellsOf64 (ds N)).toArray, dv] v fun e w' => e = .returned (.bool true) ∧ Below v.heap.size v w' := fun v h => by
        have := isEl_c dv N N v (hid (by rw [HNN.out]; exact eN_lt12 bs)) h.d (by rw [HNN.out]; exact eN_lt12 bs)
        rw [decide_eq_true rfl] at this
        exact this
      have CB : ∀ v, EnvR5 w A n bs ba N dv v → Calls Tryd.prog 19 #[dv] v fun e w' => ∃ A2 c2 l2, e = .returned (.slice A2 96 c2) ∧ Rd8 w' w'.heap.size A2 96 l2 ∧ val 256 l2 = N ∧ Below v.heap.size v w' := fun v h => by
        refine (refBytes96_c dv N v h.d).mono ?_
        rintro e w2 ⟨A2, c2, l2, rfl, hc2, r2, v2, b2⟩
        exact ⟨A2, c2, l2, rfl, r2, by rw [v2, Nat.mod_eq_of_lt (by rw [HNN.out]; exact eN_lt12 bs)], b2⟩
      have CV : ∀ A2 c2 l2 (v : World), Rd8 v v.heap.size A2 96 l2 → (convert 33 9 (.slice A2 96 c2)).run Tryd.prog v = .ok (.string (strOfNums (l2.map fun (x : Nat) => (x : Int)))) v := fun A2 c2 l2 v h => conv8l h (by decide) c2
      have CA : ∀ (v : World), EnvR5 w A n bs ba N dv v → (convert 33 9 (.slice A n c)).run Tryd.prog v = .ok (.string (strOfNums (bs.map fun (x : Nat) => (x : Int)))) v := fun v h => conv8l h.a (by rw [HLN.out]; decide) c
      have SE : ∀ l2 A2 (v : World), Rd8 v v.heap.size A2 96 l2 → val 256 l2 = N → ((strOfNums (l2.map fun (x : Nat) => (x : Int))).toList == (strOfNums (bs.map fun (x : Nat) => (x : Int))).toList) = true := fun l2 A2 v h hv => by
        rw [str_val (by rw [h.len, HZ.out.1]) h.lt E5.out.a.lt, hv, HZ.out.2, HNN.out]
        exact decide_eq_true rfl
      have G1 := agg_el
      have G2 : ∀ v, (sizeOf 35).run Tryd.prog v = .ok n12 v := by rw [hn12]; exact size_el
      have N1 := Tryd.call18
      have N2 := Tryd.call19
      clear hn12 EQ E5 HEE HNN HZ HLN hEE
      have HM : Tryd.prog.follows .mixedOrders = true := by kernel_rfl
      generalize Tryd.prog = P at CI CB CV CA L1 G1 G2 N1 N2 HM ⊢
      refine wp_region_held_drew (S := fun w' => EnvR5 w A n bs ba N dv w') HM E6 (fun hHeld => ?_)
      refine wpAnyH_take (i := 0) (v := ?_) rfl (by kernel_rfl) (by kernel_rfl) (by kernel_rfl) (fun _ _ _ h => h) (Or.inl ⟨by rfl, fun v hv => ?_⟩) (by with_reducible assumption) ?_
      rotate_left
      · go_simp
        try with_reducible rfl
      simp only [Act.put, List.setIfInBounds_toArray, List.set_cons_zero, List.set_cons_succ, List.getElem_toArray, List.getElem_cons_zero, List.getElem_cons_succ]
      refine wpAnyH_take (i := 1) (v := ?_) rfl (by kernel_rfl) (by kernel_rfl) (by kernel_rfl) (fun _ _ _ h => h) (Or.inl ⟨by rfl, fun v hv => ?_⟩) (by with_reducible assumption) ?_
      rotate_left
      · go_simp
        try with_reducible rfl
      simp only [Act.put, List.setIfInBounds_toArray, List.set_cons_zero, List.set_cons_succ, List.getElem_toArray, List.getElem_cons_zero, List.getElem_cons_succ]
      refine wpAnyH_take (i := 2) (v := ?_) rfl (by kernel_rfl) (by kernel_rfl) (by kernel_rfl) (fun _ _ _ h => h) (Or.inl ⟨by rfl, fun v hv => ?_⟩) (by with_reducible assumption) ?_
      rotate_left
      · go_simp
        try with_reducible rfl
      simp only [Act.put, List.setIfInBounds_toArray, List.set_cons_zero, List.set_cons_succ, List.getElem_toArray, List.getElem_cons_zero, List.getElem_cons_succ]
      refine wpAnyH_take (i := 3) (v := ?_) rfl (by kernel_rfl) (by kernel_rfl) (by kernel_rfl) (fun _ _ _ h => h) (Or.inl ⟨by rfl, fun v hv => ?_⟩) (by with_reducible assumption) ?_
      rotate_left
      · go_simp
        try with_reducible rfl
      simp only [Act.put, List.setIfInBounds_toArray, List.set_cons_zero, List.set_cons_succ, List.getElem_toArray, List.getElem_cons_zero, List.getElem_cons_succ]
      refine wpAnyH_take (i := 4) (v := ?_) rfl (by kernel_rfl) (by kernel_rfl) (by kernel_rfl) (fun _ _ _ h => h) (Or.inl ⟨by rfl, fun v hv => ?_⟩) (by with_reducible assumption) ?_
      rotate_left
      · go_simp
        try with_reducible rfl
      simp only [Act.put, List.setIfInBounds_toArray, List.set_cons_zero, List.set_cons_succ, List.getElem_toArray, List.getElem_cons_zero, List.getElem_cons_succ]
      refine wpAnyH_take (i := 5) (v := ?_) rfl (by kernel_rfl) (by kernel_rfl) (by kernel_rfl) (fun _ _ _ h => h) (Or.inl ⟨by rfl, fun v hv => ?_⟩) (by with_reducible assumption) ?_
      rotate_left
      · go_simp
        try with_reducible rfl
      simp only [Act.put, List.setIfInBounds_toArray, List.set_cons_zero, List.set_cons_succ, List.getElem_toArray, List.getElem_cons_zero, List.getElem_cons_succ]
      refine wpAnyH_take (i := 6) (v := ?_) rfl (by kernel_rfl) (by kernel_rfl) (by kernel_rfl) (fun _ _ _ h => h) (Or.inl ⟨by rfl, fun v hv => ?_⟩) (by with_reducible assumption) ?_
      rotate_left
      · go_simp
        try with_reducible rfl
      simp only [Act.put, List.setIfInBounds_toArray, List.set_cons_zero, List.set_cons_succ, List.getElem_toArray, List.getElem_cons_zero, List.getElem_cons_succ]
      refine wpAnyH_take (i := 7) (v := ?_) rfl (by kernel_rfl) (by kernel_rfl) (by kernel_rfl) (fun _ _ _ h => h) (Or.inl ⟨by rfl, fun v hv => ?_⟩) (by with_reducible assumption) ?_
      rotate_left
      · go_simp
        try with_reducible rfl
      simp only [Act.put, List.setIfInBounds_toArray, List.set_cons_zero, List.set_cons_succ, List.getElem_toArray, List.getElem_cons_zero, List.getElem_cons_succ]
      refine wpAnyH_take (i := 8) (v := ?_) rfl (by kernel_rfl) (by kernel_rfl) (by kernel_rfl) (fun _ _ _ h => h) (Or.inl ⟨by rfl, fun v hv => ?_⟩) (by with_reducible assumption) ?_
      rotate_left
      · go_simp
        try with_reducible rfl
      simp only [Act.put, List.setIfInBounds_toArray, List.set_cons_zero, List.set_cons_succ, List.getElem_toArray, List.getElem_cons_zero, List.getElem_cons_succ]
      refine wpAnyH_ready (rs := [9]) (by kernel_rfl) (by simp) ?_
      refine AllReadyH.cons rfl (fun K hK => ?_) AllReadyH.nil
      go_simp
      go_at_call 18
      with_reducible refine (CI _ (by with_reducible assumption)).mono ?_
      rintro e v ⟨rfl, hb⟩
      have hE := EnvR5.up (by with_reducible assumption) hb
      dsimp only
      refine hK.out _ _ hE (fun hHeld => ?_)
      clear hK K
      try simp only [Act.put, List.setIfInBounds_toArray, List.set_cons_zero, List.set_cons_succ, List.getElem_toArray, List.getElem_cons_zero, List.getElem_cons_succ]
      refine wpAnyH_take (i := 10) (v := ?_) rfl (by kernel_rfl) (by kernel_rfl) (by kernel_rfl) (fun _ _ _ h => h) (Or.inl ⟨by rfl, fun v hv => ?_⟩) (by with_reducible assumption) ?_
      rotate_left
      · go_simp
        try with_reducible rfl
      simp only [Act.put, List.setIfInBounds_toArray, List.set_cons_zero, List.set_cons_succ, List.getElem_toArray, List.getElem_cons_zero, List.getElem_cons_succ]
      refine wpAnyH_take (i := 11) (v := ?_) rfl (by kernel_rfl) (by kernel_rfl) (by kernel_rfl) (fun _ _ _ h => h) (Or.inl ⟨by rfl, fun v hv => ?_⟩) (by with_reducible assumption) ?_
      rotate_left
      · go_simp
        try with_reducible rfl
      simp only [Act.put, List.setIfInBounds_toArray, List.set_cons_zero, List.set_cons_succ, List.getElem_toArray, List.getElem_cons_zero, List.getElem_cons_succ]
      refine wpAnyH_take (i := 12) (v := ?_) rfl (by kernel_rfl) (by kernel_rfl) (by kernel_rfl) (fun _ _ _ h => h) (Or.inl ⟨by rfl, fun v hv => ?_⟩) (by with_reducible assumption) ?_
      rotate_left
      · go_simp
        try with_reducible rfl
      simp only [Act.put, List.setIfInBounds_toArray, List.set_cons_zero, List.set_cons_succ, List.getElem_toArray, List.getElem_cons_zero, List.getElem_cons_succ]
      refine wpAnyH_take (i := 15) (v := ?_) rfl (by kernel_rfl) (by kernel_rfl) (by kernel_rfl) (fun _ _ _ h => h) (Or.inl ⟨by rfl, fun v hv => ?_⟩) (by with_reducible assumption) ?_
      rotate_left
      · go_simp
        try with_reducible rfl
      simp only [Act.put, List.setIfInBounds_toArray, List.set_cons_zero, List.set_cons_succ, List.getElem_toArray, List.getElem_cons_zero, List.getElem_cons_succ]
      refine wpAnyH_take (i := 16) (v := ?_) rfl (by kernel_rfl) (by kernel_rfl) (by kernel_rfl) (fun _ _ _ h => h) (Or.inl ⟨by rfl, fun v hv => ?_⟩) (by with_reducible assumption) ?_
      rotate_left
      · go_simp
        try with_reducible rfl
      simp only [Act.put, List.setIfInBounds_toArray, List.set_cons_zero, List.set_cons_succ, List.getElem_toArray, List.getElem_cons_zero, List.getElem_cons_succ]
      refine wpAnyH_ready (rs := [13]) (by kernel_rfl) (by simp) ?_
      refine AllReadyH.cons rfl (fun K hK => ?_) AllReadyH.nil
      go_simp
      go_at_call 19
      with_reducible refine (CB _ (by with_reducible assumption)).mono ?_
      rintro e v2 ⟨A2, c2, l2, rfl, r2, hv2, hb2⟩
      have hE2 := EnvR5.up (by with_reducible assumption) hb2
      have cv := CV A2 c2 l2 v2 r2
      have se := SE l2 A2 v2 r2 hv2
      dsimp only
      refine hK.out _ _ hE2 (fun hHeld => ?_)
      clear hK K
      try simp only [Act.put, List.setIfInBounds_toArray, List.set_cons_zero, List.set_cons_succ, List.getElem_toArray, List.getElem_cons_zero, List.getElem_cons_succ]
      refine wpAnyH_ready (rs := [14]) (by kernel_rfl) (by simp) ?_
      refine AllReadyH.cons rfl (fun K hK => ?_) AllReadyH.nil
      go_simp
      refine hK.out _ _ hE2 (fun hHeld => ?_)
      clear hK K
      try simp only [Act.put, List.setIfInBounds_toArray, List.set_cons_zero, List.set_cons_succ, List.getElem_toArray, List.getElem_cons_zero, List.getElem_cons_succ]
      refine wpAnyH_take (i := 17) (v := ?_) rfl (by kernel_rfl) (by kernel_rfl) (by kernel_rfl) (fun _ _ _ h => h) (Or.inl ⟨by rfl, fun v hv => ?_⟩) (by with_reducible assumption) ?_
      rotate_left
      · go_simp
        try with_reducible rfl
      simp only [Act.put, List.setIfInBounds_toArray, List.set_cons_zero, List.set_cons_succ, List.getElem_toArray, List.getElem_cons_zero, List.getElem_cons_succ]
      refine wpAnyH_take (i := 18) (v := ?_) rfl (by kernel_rfl) (by kernel_rfl) (by kernel_rfl) (fun _ _ _ h => h) (Or.inl ⟨by rfl, fun v hv => ?_⟩) (by with_reducible assumption) ?_
      rotate_left
      · go_simp
        try with_reducible rfl
      simp only [Act.put, List.setIfInBounds_toArray, List.set_cons_zero, List.set_cons_succ, List.getElem_toArray, List.getElem_cons_zero, List.getElem_cons_succ]
      refine wpAnyH_take (i := 19) (v := ?_) rfl (by kernel_rfl) (by kernel_rfl) (by kernel_rfl) (fun _ _ _ h => h) (Or.inl ⟨by rfl, fun v hv => ?_⟩) (by with_reducible assumption) ?_
      rotate_left
      · go_simp
        try with_reducible rfl
      simp only [Act.put, List.setIfInBounds_toArray, List.set_cons_zero, List.set_cons_succ, List.getElem_toArray, List.getElem_cons_zero, List.getElem_cons_succ]
      refine wpAnyH_take (i := 20) (v := ?_) rfl (by kernel_rfl) (by kernel_rfl) (by kernel_rfl) (fun _ _ _ h => h) (Or.inl ⟨by rfl, fun v hv => ?_⟩) (by with_reducible assumption) ?_
      rotate_left
      · go_simp
        try with_reducible rfl
      simp only [Act.put, List.setIfInBounds_toArray, List.set_cons_zero, List.set_cons_succ, List.getElem_toArray, List.getElem_cons_zero, List.getElem_cons_succ]
      refine wpAnyH_done (by kernel_rfl) ?_ _
      go_wp2_with fail
      go_meet
      exact ⟨rfl, hE2⟩
    · have hE1 : ((E : Int) == 0) = false := by simpa using hE0
      clear hE0 HEE HNN E5
      go_quiet (fail)
      have hR : EnvR5 w A n bs ba N dv (w4.drewN nq) := EQ.out.up (below_drewN (Below.refl _ _) nq)
      go_wp2_with fail
      go_meet
      exact ⟨rfl, hR⟩
  case rest =>
    obtain ⟨rfl, hE⟩ := hcut
    have HE := hid hE
    obtain ⟨v0, hv0⟩ : ∃ v, v = wc := ⟨_, rfl⟩
    rw [← hv0] at HE ⊢
    clear hE E5 EQ HEE HNN hEE hv0
    obtain ⟨N2, hN2⟩ : ∃ N2, N2 = rdN false bs := ⟨_, rfl⟩
    obtain ⟨E2, hE2⟩ : ∃ E2, E2 = rdE false bs := ⟨_, rfl⟩
    have HNN := hid hN2
    have HEE := hid hE2
    clear hN2 hE2
    go_wp2_with fail
    refine (readScalar_c A n c bs v0 HE.out.a (HG.out.up HE.out.b)).mono ?_
    rintro e w6 ⟨rfl, b6⟩
    rw [← HNN.out, ← HEE.out]
    obtain ⟨w7, s7, x7, b7⟩ := layT w6 44 N2
    have hlen := dsc_len N2
    have b07 := bchain b6 b7
    have HX7 := hid x7
    have HA7 := hid (HE.out.a.up b07 (Nat.le_refl _))
    have HB7 := hid (bchain HE.out.b b07)
    clear b6 b7 x7 b07 HE
    unfold num z12 at *
    go_wp2_with fail
    refine (refRead_c false A n c bs w7 HA7.out).mono ?_
    rintro e w8 ⟨xv, rfl, hd, b8⟩
    rw [← HEE.out]
    rw [← HNN.out] at hd
    have hEE : ((E2 : Int) == E2) = true := by simp
    have HX8 := hid (blk_up HX7.out b8).range
    have HD8 := hid hd
    have HB8 := hid (bchain HB7.out b8)
    have I := hid (sizeSc.trans (congrArg some hlen.symm))
    have HLT : Hid (N2 < W12) := hid (by rw [HNN.out]; exact rdN_lt12 false bs)
    clear hd b8 s7 HX7 HA7 HB7 HEE HNN
    generalize w6.heap.size = b7 at *
    go_wp2_with (refine wpList_load_g (by rfl) 44 (.tmp 7) rfl b7 0 rfl (cellsOf64 (ds N2)) _ HX8.out Tryd.underlying44 rfl I.out ?_)
    have CI := isSc_c xv N2 N2 w8 HLT HD8.out HLT.out
    rw [decide_eq_true rfl] at CI
    refine CI.mono ?_
    rintro e w9 ⟨rfl, b9⟩
    have HB9 := hid (bchain HB8.out b9)
    clear CI b9 HX8 HD8 HB8 I HLT
    go_wp2
    go_ret
    exact ⟨rfl, HB9.out⟩
end Go.Proofs.YtfonpmahcdmajaaDoor
