import Derived.Test.YtdepkfdceidikaaDoorMxI
/-
  matrix.Matrix.Minors: what the call does.
-/
namespace Go.Proofs.YtdepkfdceidikaaDoor
open Go.RowKit
set_option linter.unusedVariables false
set_option linter.unusedSimpArgs false


/-- All nineteen determinants. -/
def minorsL (M : MZ) : List Int := rowsL M 3 ++ rowsL (mzWo M) 3 ++ [mzDet M]
theorem BlkV.moved {w w' : World} {b base : Nat} {t : TypeId} {vs : List Value} {v v' : Value} {Xs : List Int} (h : BlkV w b t vs) (hP : PZ w base v Xs) (hm : Moved w w' v v') (hb : b < base) (hB : base ≤ w.heap.size) : BlkV w' b t vs :=
  h.below (hP.moved hm hB) hb
theorem PZ.cells_of {w : World} {b : Nat} {v : Value} {Xs : List Int} (h : PZ w b v Xs) (hn : 0 < Xs.length) : ∃ g cap, v = .slice (some ⟨g, 0, none⟩) Xs.length cap ∧ b ≤ g ∧ ∃ L : List Qd, L.length = Xs.length ∧ (∀ i, i < Xs.length → Ez (qv (L.getD i q0)) (Xs.getD i 0)) ∧ ∀ j u, (flat L)[j]? = some u → w.cell? ((⟨g, 0, none⟩ : Addr).add j) = some u := by
  obtain ⟨L, h1, h2, h3⟩ := h.ex
  rcases id h1.2 with ⟨rfl, h0⟩ | ⟨g, cap, cur, rfl, hbg, hg, _⟩
  · omega
  · exact ⟨g, cap, by rw [h2], hbg, L, h2, h3, h1.cells rfl⟩
set_option maxRecDepth 20000 in
set_option maxHeartbeats 1000000 in
theorem minors_c (f : Nat → Int) (M : MZ) (w : World) (hM : MatZ f M) (hG : Glob w) :
    Calls Tryd.prog 52 #[.agg (wds 36 f).toArray] w fun e w' => ∃ v, e = .returned v ∧ PZ w' w.heap.size v (minorsL M) ∧ Below w.heap.size w w' := by
  have hlm := wds_len 36 f
  have hmf : ∀ (fn : Fn) (first cap : Array Value) (w : World), (Instr.makeFunc fn first cap).run Tryd.prog w = .ok (.func fn first cap) w := fun _ _ _ _ => rfl
  have H1 := hid (oF_new w 40 36 f)
  have HW := hid ((Below.refl w.heap.size w).alloc (Nat.le_refl _) (oF 40 36 f))
  have e1 : (w.alloc (oF 40 36 f)).heap.size = w.heap.size + 1 := by simp
  have HS1 := hid e1
  have HM := hid hM
  have HG := hid hG
  clear hM hG e1
  unfold oF at H1 HW HS1
  go_enter Tryd.func52, Tryd.ntmps52
  go_wp2_with fail
  obtain ⟨w0, hw0⟩ : ∃ v, v = w.alloc (.cells (wds 36 f).toArray 40) := ⟨_, rfl⟩
  rw [← hw0] at H1 HW HS1 ⊢
  clear hw0
  have hs1 := HS1.out
  have hx0 := H1.out.up (Below.refl _ _).drew
  have b0 := bchain HW.out (Below.refl _ _).drew
  have hd0 : w0.drew.heap.size = w.heap.size + 1 := hs1
  go_cut [3] (fun s wx => PZ wx (w.heap.size + 1) s (rowsL M 3 ++ rowsL (mzWo M) 3) ∧ BlkV wx w.heap.size 40 (wds 36 f) ∧ Below w.heap.size w wx ∧ w.heap.size + 1 ≤ wx.heap.size)
  case first =>
    refine wp_region_held_drew (S := fun v => BlkV v w.heap.size 40 (wds 36 f)) (by kernel_rfl) hx0 (fun hHeld => ?_)
    refine wpAnyH_take (i := 0) (v := .agg (wds 36 f).toArray) rfl (by kernel_rfl) (by kernel_rfl) (by kernel_rfl) (fun _ _ _ h => h) (yieldsIf_load_mid (by rfl) 40 (.tmp 1) rfl (w.heap.size) (0) rfl (wds 36 f) _ (fun v hv => hv.range) Tryd.underlying40 rfl (sizeM _)) (by with_reducible assumption) ?_
    simp only [Act.put, List.setIfInBounds_toArray, List.set_cons_zero, List.set_cons_succ, List.getElem_toArray, List.getElem_cons_zero, List.getElem_cons_succ]
    refine wpAnyH_take (i := 1) (v := ?_) rfl (by kernel_rfl) (by kernel_rfl) (by kernel_rfl) (fun _ _ _ h => h) (Or.inl ⟨by rfl, fun v hv => ?_⟩) (by with_reducible assumption) ?_
    rotate_left
    · go_simp
      try with_reducible rfl
    simp only [Act.put, List.setIfInBounds_toArray, List.set_cons_zero, List.set_cons_succ, List.getElem_toArray, List.getElem_cons_zero, List.getElem_cons_succ]
    refine wpAnyH_take (i := 3) (v := .agg (wds 36 f).toArray) rfl (by kernel_rfl) (by kernel_rfl) (by kernel_rfl) (fun _ _ _ h => h) (yieldsIf_load_mid (by rfl) 40 (.tmp 1) rfl (w.heap.size) (0) rfl (wds 36 f) _ (fun v hv => hv.range) Tryd.underlying40 rfl (sizeM _)) (by with_reducible assumption) ?_
    simp only [Act.put, List.setIfInBounds_toArray, List.set_cons_zero, List.set_cons_succ, List.getElem_toArray, List.getElem_cons_zero, List.getElem_cons_succ]
    refine wpAnyH_take (i := 4) (v := ?_) rfl (by kernel_rfl) (by kernel_rfl) (by kernel_rfl) (fun _ _ _ h => h) (Or.inl ⟨by rfl, fun v hv => ?_⟩) (by with_reducible assumption) ?_
    rotate_left
    · go_simp
      try with_reducible rfl
    simp only [Act.put, List.setIfInBounds_toArray, List.set_cons_zero, List.set_cons_succ, List.getElem_toArray, List.getElem_cons_zero, List.getElem_cons_succ]
    refine wpAnyH_ready (rs := [2]) (by kernel_rfl) (by simp) ?_
    refine (AllReadyH.cons rfl (fun K hK => ?_) AllReadyH.nil)
    go_simp
    go_at_call 71
    with_reducible refine (everywhere_c 72 #[.agg (wds 36 f).toArray] #[] M w0.drew (fun A v => by kernel_rfl) (fun v i j hi hj hv => (by simp only [List.append_toArray, List.cons_append, List.nil_append, List.append_nil]; exact at_c f M i j hi hj v HM.out))).mono ?_
    rintro e wq1 ⟨va, rfl, hPa, hbq1⟩
    have hx_q1 := (hx0).up hbq1
    have b_q1 := bchain b0 hbq1
    have hq1 := hPa.mono (b' := w.heap.size + 1) (by omega)
    try dsimp only
    refine hK.out _ _ (hx_q1) (fun hHeld => ?_)
    clear hK K
    try simp only [Act.put, List.setIfInBounds_toArray, List.set_cons_zero, List.set_cons_succ, List.getElem_toArray, List.getElem_cons_zero, List.getElem_cons_succ]
    refine wpAnyH_ready (rs := [5]) (by kernel_rfl) (by simp) ?_
    refine (AllReadyH.cons rfl (fun K hK => ?_) AllReadyH.nil)
    go_simp
    go_at_call 71
    with_reducible refine (everywhere_c 37 #[.agg (wds 36 f).toArray] #[] (mzWo M) wq1 (fun A v => by kernel_rfl) (fun v i j hi hj hv => (by simp only [List.append_toArray, List.cons_append, List.nil_append, List.append_nil]; exact without_c f M i j hi hj v HM.out (HG.out.up (bchain b_q1 hv))))).mono ?_
    rintro e wq2 ⟨vb, rfl, hPb, hbq2⟩
    have hx_q2 := (hx_q1).up hbq2
    have b_q2 := bchain b_q1 hbq2
    have hp_q2 := (hq1).up hbq2
    try dsimp only
    refine hK.out _ _ (hx_q2) (fun hHeld => ?_)
    clear hK K
    try simp only [Act.put, List.setIfInBounds_toArray, List.set_cons_zero, List.set_cons_succ, List.getElem_toArray, List.getElem_cons_zero, List.getElem_cons_succ]
    refine wpAnyH_ready (rs := [6]) (by kernel_rfl) (by simp) ?_
    refine (AllReadyH.cons rfl (fun K hK => ?_) AllReadyH.nil)
    obtain ⟨ga, ca, rfl, hga, La, hLa, hEa, hCa⟩ := PZ.cells_of hPb (by rw [rowsL_len]; decide)
    have hl2 : (rowsL M 3).length + (rowsL (mzWo M) 3).length ≤ 1000000 := by rw [rowsL_len, rowsL_len]; decide
    have hsz := (b_q2).size
    have hsz2 := (hx_q2).size
    have hLp : 0 < La.length := by rw [hLa, rowsL_len]; decide
    refine ready_go (by rfl) ?_
    refine wp_app_pz (.tmp 6) (.tmp 9) rfl va (w.heap.size + 1) (rowsL M 3) (rowsL (mzWo M) 3) ⟨ga, 0, none⟩ _ ca La rfl rfl hLa.symm hp_q2 hLp hLa hEa hCa hl2 (by omega) ?_
    intro v3 w3 hPP hMM
    have hx3 := BlkV.moved hx_q2 hp_q2 hMM (by omega) (by omega)
    have hbb := PZ.moved hp_q2 hMM (by omega)
    have b3 := (b_q2).trans (hbb.mono (by omega))
    have hSS := Nat.le_trans hsz2 hbb.size
    refine hK.out _ _ hx3 (fun hHeld => ?_)
    clear hK K
    try simp only [Act.put, List.setIfInBounds_toArray, List.set_cons_zero, List.set_cons_succ, List.getElem_toArray, List.getElem_cons_zero, List.getElem_cons_succ]
    refine wpAnyH_take (i := 7) (v := ?_) rfl (by kernel_rfl) (by kernel_rfl) (by kernel_rfl) (fun _ _ _ h => h) (Or.inl ⟨by rfl, fun v hv => ?_⟩) (by with_reducible assumption) ?_
    rotate_left
    · go_simp
      try with_reducible rfl
    simp only [Act.put, List.setIfInBounds_toArray, List.set_cons_zero, List.set_cons_succ, List.getElem_toArray, List.getElem_cons_zero, List.getElem_cons_succ]
    refine wpAnyH_done (by kernel_rfl) ?_ _
    go_wp2_with fail
    go_meet
    exact ⟨hPP, hx3, b3, hSS⟩
  case rest =>
    obtain ⟨hP, hx, hb, hsz⟩ := hcut
    have HP := hid hP
    have HX := hid hx
    have HB := hid hb
    have HS := hid hsz
    clear hP hx hb hsz HW H1 HS1 hs1 hx0 b0 hd0
    go_wp2_with (first
    | with_reducible refine wpList_load_mid rfl 40 (.tmp 1) rfl (w.heap.size) (0) rfl (wds 36 f) _ (by with_reducible exact HX.out.range) Tryd.underlying40 rfl (sizeM _) ?_)
    refine (det_c f M wc HM.out (HG.out.up HB.out)).mono ?_
    rintro e wq4 ⟨r, rfl, he, b4⟩
    obtain ⟨r0, r1, r2, r3, rfl⟩ := he.words
    have HP4 := hid (HP.out.up b4)
    have HB4 := hid (bchain HB.out b4)
    have HS4 := hid (Nat.le_trans HS.out b4.size)
    have HL : Hid ((rowsL M 3 ++ rowsL (mzWo M) 3).length + [mzDet M].length ≤ 1000000) := by show _ ≤ _; rw [List.length_append, rowsL_len, rowsL_len]; exact (by decide : 3 * 3 + 3 * 3 + 1 ≤ 1000000)
    have HE : Hid (∀ i, i < [mzDet M].length → Ez (qv ([(r0, r1, r2, r3, 0)].getD i q0)) ([mzDet M].getD i 0)) := fun i hi => match i, hi with | 0, _ => he
    have HC : Hid (∀ j u, (flat [(r0, r1, r2, r3, 0)])[j]? = some u → (wq4.alloc (.cells #[.int .u64 r0, .int .u64 r1, .int .u64 r2, .int .u64 r3] 27)).cell? ((⟨wq4.heap.size, 0, none⟩ : Addr).add j) = some u) := lit_cells wq4 (r0, r1, r2, r3, 0)
    have HPL := hid (HP4.out.up ((Below.refl _ _).alloc (Nat.le_refl _) (.cells #[.int .u64 r0, .int .u64 r1, .int .u64 r2, .int .u64 r3] 27)))
    have HBL := hid (bchain HB4.out ((Below.refl _ _).alloc (Nat.le_refl _) (.cells #[.int .u64 r0, .int .u64 r1, .int .u64 r2, .int .u64 r3] 27)))
    have HSL : Hid (w.heap.size + 1 ≤ (wq4.alloc (.cells #[.int .u64 r0, .int .u64 r1, .int .u64 r2, .int .u64 r3] 27)).heap.size) := by
      show _ ≤ _
      have := HS4.out
      simp
      omega
    clear he b4
    unfold w4
    go_wp2_with (at_builtin; (refine wpList_app_pz rfl (.tmp 11) (.tmp 14) rfl u3 (w.heap.size + 1) (rowsL M 3 ++ rowsL (mzWo M) 3) [mzDet M] ⟨wq4.heap.size, 0, none⟩ 1 1 [(r0, r1, r2, r3, 0)] rfl rfl rfl (by with_reducible exact HPL.out) (Nat.succ_pos _) rfl HE.out (by with_reducible exact HC.out) HL.out (by with_reducible exact HSL.out) ?_))
    intro v5 w5 g1 g2
    have g3 := HBL.out.trans ((HPL.out.moved g2 HSL.out).mono (Nat.le_succ _))
    have G1 := hid (g1.mono (Nat.le_succ w.heap.size))
    have G3 := hid g3
    clear HPL HBL HSL g1 g2 g3 HP4 HB4 HS4 HP HB HS
    go_wp2
    go_ret
    exact ⟨_, rfl, G1.out, G3.out⟩
end Go.Proofs.YtdepkfdceidikaaDoor
/-
  slices.IndexFunc and ContainsFunc over elements, matrix.Matrix.Good: what each call does.
-/
namespace Go.Proofs.YtdepkfdceidikaaDoor
open Go.RowKit
set_option linter.unusedVariables false
set_option linter.unusedSimpArgs false


/-- The slice of n elements at A reads as the integers Xs, and lies below block B. -/
structure RdZ (w : World) (B : Nat) (A : Option Addr) (n : Nat) (Xs : List Int) : Prop where
  len : Xs.length = n
  cells : 0 < n → ∃ b off, A = some ⟨b, off, none⟩ ∧ b < B ∧ ∀ i, i < n → ∃ g, Ez (.agg (wds 4 g).toArray) (Xs.getD i 0) ∧ w.rangeAt b (off + i * 4) (wds 4 g)
theorem RdZ.below {w w' : World} {B B' n : Nat} {A : Option Addr} {l : List Int} (h : RdZ w B A n l) (hb : Below B' w w') (hB : B ≤ B') : RdZ w' B A n l :=
  ⟨h.len, fun hn => by
    obtain ⟨b, off, e, hbB, hc⟩ := h.cells hn
    refine ⟨b, off, e, hbB, fun i hi => ?_⟩
    obtain ⟨g, h0, h1⟩ := hc i hi
    exact ⟨g, h0, fun j v hj => (hb.cell (p := ⟨b, off + i * 4 + j, none⟩) (Nat.lt_of_lt_of_le hbB hB)).trans (h1 j v hj)⟩⟩
theorem PZ.rd {w : World} {b : Nat} {v : Value} {Xs : List Int} (h : PZ w b v Xs) (hn : 0 < Xs.length) : ∃ A c, v = .slice A Xs.length c ∧ RdZ w w.heap.size A Xs.length Xs := by
  obtain ⟨g, cap, e, hg, L, hL, hE, hC⟩ := h.cells_of hn
  have hlt := (h.lt g (by rw [e]; rfl)).2
  refine ⟨_, cap, e, rfl, fun _ => ⟨g, 0, rfl, hlt, fun i hi => ?_⟩⟩
  have hi2 : i < L.length := by omega
  have hq : L[i]? = some L[i] := List.getElem?_eq_getElem hi2
  have hd : L.getD i q0 = L[i] := by simp [List.getD_eq_getElem?_getD, hq]
  have he := hE i hi
  rw [hd] at he
  refine ⟨g4 L[i].1 L[i].2.1 L[i].2.2.1 L[i].2.2.2.1, by rw [← w4_g]; exact he, fun j u hj => ?_⟩
  have hj4 : j < 4 := by
    have := (List.getElem?_eq_some_iff.1 hj).1
    rwa [wds_len] at this
  have h1 := hC (i * 4 + j) u (by rw [flat_get L i _ hq j hj4, ← hj, wds_4]; rfl)
  rw [Addr.add_mid] at h1
  rw [Nat.zero_add]
  rw [Nat.zero_add] at h1
  exact h1
/-- Is one of the first k 0? -/
def anyZ (Xs : List Int) : Nat → Bool
  | 0 => false
  | k + 1 => anyZ Xs k || decide (Xs.getD k 0 % pZ = 0)
theorem anyZ_more (Xs : List Int) {k n : Nat} (h : k ≤ n) (hk : anyZ Xs k = true) : anyZ Xs n = true := by
  induction n with
  | zero => obtain rfl : k = 0 := by omega
            exact hk
  | succ n ih =>
    rcases Nat.lt_or_ge n k with h1 | h1
    · obtain rfl : k = n + 1 := by omega
      exact hk
    · show (anyZ Xs n || _) = true
      rw [ih h1]
      rfl
set_option maxRecDepth 20000 in
set_option maxHeartbeats 1000000 in
theorem index_c (A : Option Addr) (n c : Nat) (Xs : List Int) (w : World) (ha : RdZ w w.heap.size A n Xs) (hn : n ≤ 1000) :
    Calls Tryd.prog 70 #[.slice A n c, .func (.func 21) #[] #[]] w fun e w' => ∃ r : Int, e = .returned (.int .i64 r) ∧ decide (0 ≤ r) = anyZ Xs n ∧ Below w.heap.size w w' := by
  have HA := hid ha
  clear ha
  go_enter Tryd.func70, Tryd.ntmps70
  go_wp2
  go_loopw [8] (fun i wr => ∃ k : Nat, k ≤ n ∧ i = .int .i64 k ∧ Hid (anyZ Xs k = false) ∧ Below w.heap.size w wr) (fun i _ => n - (intOf i).toNat)
  case atStart => exact ⟨0, by omega, rfl, hid rfl, Below.refl _ _⟩
  case round =>
    obtain ⟨k, hk, rfl, HZ, hb⟩ := hrel
    by_cases hlt : k < n
    · obtain ⟨b, off, rfl, hbB, hc⟩ := (HA.out.below hb (Nat.le_refl _)).cells (by omega)
      obtain ⟨g, he, hr⟩ := hc k hlt
      have HE := hid he
      have HR := hid hr
      have HB := hid hb
      have k0 : (0 : Int) ≤ (k : Int) := by omega
      have k1 : (k : Int) < (n : Int) := by omega
      clear he hr hb hc
      go_wp2_with (first
        | with_reducible refine wpList_load_mid rfl 27 (.tmp 14) rfl b (off + k * 4) rfl (wds 4 g) _ (by with_reducible exact HR.out) Tryd.underlying27 rfl (sizeE _) ?_
        | fail)
      refine (eisZeroZ_c _ _ wr HE.out).mono ?_
      rintro e w1 ⟨rfl, b1⟩
      have HB1 := hid (HB.out.trans (b1.mono HB.out.size))
      by_cases hz : Xs.getD k 0 % pZ = 0
      · have hd : decide (Xs.getD k 0 % pZ = 0) = true := decide_eq_true hz
        have HY : Hid (true = anyZ Xs n) := (anyZ_more Xs (k := k + 1) hlt (by show (anyZ Xs k || decide (Xs.getD k 0 % pZ = 0)) = true; rw [hd, Bool.or_true])).symm
        have hk0 : decide ((0 : Int) ≤ (k : Int)) = true := decide_eq_true k0
        rw [hd]
        clear hz hd b1 HB
        go_wp2
        go_ret
        exact ⟨_, rfl, by rw [← HY.out]; exact hk0, HB1.out⟩
      · have hd : decide (Xs.getD k 0 % pZ = 0) = false := decide_eq_false hz
        have HZ1 : Hid (anyZ Xs (k + 1) = false) := by show (anyZ Xs k || decide (Xs.getD k 0 % pZ = 0)) = false; rw [HZ.out, hd]; rfl
        rw [hd]
        clear hz hd b1 HB
        go_wp2
        go_roundw
        case rel => exact ⟨k + 1, by omega, by go_num, HZ1, HB1.out⟩
        case measure => simp [intOf]; omega
    · obtain rfl : k = n := by omega
      have HB := hid hb
      clear hb
      go_wp2
      go_ret
      exact ⟨_, rfl, by rw [HZ.out]; rfl, HB.out⟩
set_option maxRecDepth 20000 in
set_option maxHeartbeats 1000000 in
theorem contains_c (A : Option Addr) (n c : Nat) (Xs : List Int) (w : World) (ha : RdZ w w.heap.size A n Xs) (hn : n ≤ 1000) :
    Calls Tryd.prog 51 #[.slice A n c, .func (.func 21) #[] #[]] w fun e w' => e = .returned (.bool (anyZ Xs n)) ∧ Below w.heap.size w w' := by
  go_enter Tryd.func51, Tryd.ntmps51
  go_wp2_with fail
  refine (index_c A n c Xs w ha hn).mono ?_
  rintro e w1 ⟨r, rfl, hr, b1⟩
  have HR := hid hr
  have HB := hid b1
  clear hr b1
  go_wp2
  go_ret
  refine ⟨?_, HB.out⟩
  rw [← HR.out]
  rfl
set_option maxRecDepth 20000 in
set_option maxHeartbeats 1000000 in
theorem good_c (f : Nat → Int) (M : MZ) (w : World) (hM : MatZ f M) (hG : Glob w) :
    Calls Tryd.prog 29 #[.agg (wds 36 f).toArray] w fun e w' => e = .returned (.bool (!anyZ (minorsL M) 19)) ∧ Below w.heap.size w w' := by
  have hlm := wds_len 36 f
  have h1 := oF_new w 40 36 f
  have HO := hid h1.range
  have HW := hid ((Below.refl w.heap.size w).alloc (Nat.le_refl _) (oF 40 36 f))
  have HM := hid hM
  have HG := hid hG
  have HL : Hid ((minorsL M).length = 19) := by show _ = _; unfold minorsL; rw [List.length_append, List.length_append, rowsL_len, rowsL_len]; rfl
  clear hM hG h1
  unfold oF at HO HW
  go_enter Tryd.func29, Tryd.ntmps29
  go_wp2_with (first
    | with_reducible refine wpList_load_mid rfl 40 (.tmp 1) rfl (w.heap.size) (0) rfl (wds 36 f) _ (by with_reducible exact HO.out) Tryd.underlying40 rfl (sizeM _) ?_
    | fail)
  clear HO
  generalize (w.alloc _) = w0 at *
  refine (minors_c f M w0 HM.out (HG.out.up HW.out)).mono ?_
  rintro e w1 ⟨v, rfl, hP, b1⟩
  have HB1 := hid (bchain HW.out b1)
  obtain ⟨A, c, rfl, hR⟩ := hP.rd (by rw [HL.out]; decide)
  have HR := hid hR
  clear hP hR b1
  go_wp2_with fail
  refine (contains_c A _ c (minorsL M) w1 HR.out (by rw [HL.out]; decide)).mono ?_
  rintro e w2 ⟨rfl, b2⟩
  have HB2 := hid (bchain HB1.out b2)
  rw [HL.out]
  clear b2
  go_wp2
  go_ret
  exact ⟨rfl, HB2.out⟩
end Go.Proofs.YtdepkfdceidikaaDoor
