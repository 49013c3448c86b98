import Derived.Test.YtdepkfdceidikaaDoorMnC
import Derived.Test.YtdepkfdceidikaaDoorMrB
/-
  avouchlaw09.of: the walk.
-/
namespace Go.Proofs.YtdepkfdceidikaaDoor
open Go.RowKit
set_option linter.unusedVariables false
set_option linter.unusedSimpArgs false

set_option maxRecDepth 40000 in
set_option maxHeartbeats 2000000 in
theorem of9_c (A : Nat → Option Addr) (n c : Nat → Nat) (l : Nat → List Nat) (w : World) (hN : N9 w w.heap.size A n l) (hF : Few n) (hG : Glob w) :
    Calls Tryd.prog 12 #[.agg (sls A n c).toArray] w fun e w' => ∃ f r, e = .returned (.tuple #[.agg (wds 36 f).toArray, r]) ∧ MatZ f (nums l) ∧ DM w' r 3 (nums l) ∧ Below w.heap.size w w' := by
  have hz := zeroM
  have hlz := wds_len 36 z0
  have hls := sls_len A n c
  have e1 : (w.alloc (.cells (sls A n c).toArray 35)).heap.size = w.heap.size + 1 := by simp
  have e2 : ((w.alloc (.cells (sls A n c).toArray 35)).alloc (oF 40 36 z0)).heap.size = w.heap.size + 1 + 1 := by simp
  have e3 : (((w.alloc (.cells (sls A n c).toArray 35)).alloc (oF 40 36 z0)).alloc (oF 40 36 z0)).heap.size = w.heap.size + 3 := by simp
  have h1 := (((BlkV.new w 35 (sls A n c)).alloc (oF 40 36 z0)).alloc (oF 40 36 z0)).alloc (.cells #[] 60)
  have h2 := ((oF_new (w.alloc (.cells (sls A n c).toArray 35)) 40 36 z0).alloc (oF 40 36 z0)).alloc (.cells #[] 60)
  have h3 := (oF_new ((w.alloc (.cells (sls A n c).toArray 35)).alloc (oF 40 36 z0)) 40 36 z0).alloc (.cells #[] 60)
  have h4 := RowT.new 60 (((w.alloc (.cells (sls A n c).toArray 35)).alloc (oF 40 36 z0)).alloc (oF 40 36 z0)) (w.heap.size + 3) (by omega)
  rw [e1] at h2
  rw [e2] at h3
  rw [e3] at h4
  have hb := ((((Below.refl w.heap.size w).alloc (Nat.le_refl _) (.cells (sls A n c).toArray 35)).alloc (by omega) (oF 40 36 z0)).alloc (by omega) (oF 40 36 z0)).alloc (by omega) (.cells #[] 60)
  have R0 := hid (show OfO w (sls A n c) (nums l) 0 [] (.slice (some ⟨w.heap.size + 1 + 1 + 1, 0, none⟩) 0 0) _ from ⟨rfl, h4, fun i hi => absurd hi (Nat.not_lt_zero i), ⟨⟨z0, h3, MP.zero _ _⟩, h2, h1, hb⟩, by simp⟩)
  have HN := hid hN
  have HF := hid hF
  have HG0 := hid hG
  clear h1 h2 h3 h4 e1 e2 e3 hb hN hF hG
  unfold oF at R0
  go_enter Tryd.func12, Tryd.ntmps12
  go_wp2_with fail
  generalize ((((w.alloc _).alloc _).alloc _).alloc _) = w0 at *
  go_loopw [5, 10] (fun v i wr => ∃ k : Nat, ∃ es : List Value, k ≤ 3 ∧ i = .int .i64 k ∧ OfO w (sls A n c) (nums l) k es v wr) (fun _ i _ => 3 - (intOf i).toNat)
  case atStart => exact ⟨0, [], by omega, rfl, R0.out⟩
  case round =>
    clear R0
    obtain ⟨k, es, hk, rfl, hO⟩ := hrel
    by_cases hlt : k < 3
    · have i0 : (0 : Int) ≤ (k : Int) := by omega
      have i2 : (k : Int) < 3 := by omega
      have R1 := hid hO.begin
      obtain ⟨U, hU⟩ : ∃ U, U = wr.heap.size := ⟨_, rfl⟩
      rw [← hU] at R1
      clear hO
      go_wp2_with fail
      rw [← hU]
      clear hU
      generalize (wr.alloc _) = w2 at *
      go_loopw [7, 14] (fun v i wr => ∃ m : Nat, ∃ ds : List Value, m ≤ 3 ∧ i = .int .i64 m ∧ OfR w U (sls A n c) (nums l) k m es ds u5 v wr) (fun _ i _ => 3 - (intOf i).toNat)
      case atStart => exact ⟨0, [], by omega, rfl, R1.out⟩
      case round =>
        clear R1
        obtain ⟨m, ds, hm, rfl, hO⟩ := hrel
        by_cases hltm : m < 3
        · have j0 : (0 : Int) ≤ (m : Int) := by omega
          have j2 : (m : Int) < 3 := by omega
          obtain ⟨p, hpe⟩ : ∃ p, p = 3 * k + m := ⟨_, rfl⟩
          have hp : p < 9 := by omega
          have hn40 := HF.out p hp
          have hn1000 : n p ≤ 1000 := by omega
          have hw1 : IntKind.i64.wrap (3 * (k : Int)) = 3 * (k : Int) := by rw [IntKind.wrap_i64]; omega
          have hw2 : IntKind.i64.wrap (3 * (k : Int) + (m : Int)) = (p : Int) := by rw [IntKind.wrap_i64]; omega
          have hw3 : 3 * (k : Int) + (m : Int) = (p : Int) := by omega
          have hw4 : IntKind.i64.wrap (p : Int) = (p : Int) := by rw [IntKind.wrap_i64]; omega
          have p0 : (0 : Int) ≤ (p : Int) := by omega
          have p9 : (p : Int) < 9 := by omega
          have hvl : val 256 (l p) < 4294967296 ^ 30 := by
            have h := HN.out.at_ p hp
            exact val40 h.lt (by rw [h.len]; exact hn40)
          have HXE : Hid (((val 256 (l p) : Nat) : Int) = nums l k m) := by show _ = _; unfold nums; rw [hpe]
          have HC9 : Hid (∀ v, BlkV v w.heap.size 35 (sls A n c) → v.cell? ⟨w.heap.size, p, none⟩ = some (.slice (A p) (n p) (c p))) := fun v hv => by
            have h := hv.cell (i := p) (by rw [hls]; exact hp)
            have g := sls_get (A := A) (n := n) (c := c) hp
            rw [List.getElem?_eq_getElem (by rw [hls]; exact hp)] at g
            rw [h]
            exact g
          have HO := hid hO
          clear hO hpe
          go_wp2_with fail
          have hr0 := HO.out.up (Below.refl _ _).drew
          refine wp_region_held_drew (S := fun v => BlkV v w.heap.size 35 (sls A n c)) (by kernel_rfl) (hr0).fr.x (fun hHeld => ?_)
          refine wpAnyH_take (i := 0) (v := ?_) rfl (by kernel_rfl) (by kernel_rfl) (by kernel_rfl) (fun _ _ _ h => h) (Or.inl ⟨by rfl, fun v hv => ?_⟩) (by with_reducible assumption) ?_
          rotate_left
          · go_simp
            try with_reducible rfl
          simp only [Act.put, List.setIfInBounds_toArray, List.set_cons_zero, List.set_cons_succ, List.getElem_toArray, List.getElem_cons_zero, List.getElem_cons_succ]
          refine wpAnyH_take (i := 1) (v := ?_) rfl (by kernel_rfl) (by kernel_rfl) (by kernel_rfl) (fun _ _ _ h => h) (Or.inl ⟨by rfl, fun v hv => ?_⟩) (by with_reducible assumption) ?_
          rotate_left
          · go_simp
            try with_reducible rfl
          simp only [Act.put, List.setIfInBounds_toArray, List.set_cons_zero, List.set_cons_succ, List.getElem_toArray, List.getElem_cons_zero, List.getElem_cons_succ]
          refine wpAnyH_take (i := 2) (v := ?_) rfl (by kernel_rfl) (by kernel_rfl) (by kernel_rfl) (fun _ _ _ h => h) (Or.inl ⟨by rfl, fun v hv => ?_⟩) (by with_reducible assumption) ?_
          rotate_left
          · go_simp
            try with_reducible rfl
          simp only [Act.put, List.setIfInBounds_toArray, List.set_cons_zero, List.set_cons_succ, List.getElem_toArray, List.getElem_cons_zero, List.getElem_cons_succ]
          refine wpAnyH_take (i := 3) (v := ?_) rfl (by kernel_rfl) (by kernel_rfl) (by kernel_rfl) (fun _ _ _ h => h) (Or.inl ⟨by rfl, fun v hv => ?_⟩) (by with_reducible assumption) ?_
          rotate_left
          · go_simp
            try with_reducible rfl
          simp only [Act.put, List.setIfInBounds_toArray, List.set_cons_zero, List.set_cons_succ, List.getElem_toArray, List.getElem_cons_zero, List.getElem_cons_succ]
          refine wpAnyH_take (i := 4) (v := ?_) rfl (by kernel_rfl) (by kernel_rfl) (by kernel_rfl) (fun _ _ _ h => h) (Or.inl ⟨by rfl, fun v hv => ?_⟩) (by with_reducible assumption) ?_
          rotate_left
          · go_simp
            try with_reducible rfl
          simp only [Act.put, List.setIfInBounds_toArray, List.set_cons_zero, List.set_cons_succ, List.getElem_toArray, List.getElem_cons_zero, List.getElem_cons_succ]
          refine wpAnyH_take (i := 5) (v := ?_) rfl (by kernel_rfl) (by kernel_rfl) (by kernel_rfl) (fun _ _ _ h => h) (Or.inl ⟨by rfl, fun v hv => ?_⟩) (by with_reducible assumption) ?_
          rotate_left
          · go_simp
            try with_reducible rfl
          simp only [Act.put, List.setIfInBounds_toArray, List.set_cons_zero, List.set_cons_succ, List.getElem_toArray, List.getElem_cons_zero, List.getElem_cons_succ]
          refine wpAnyH_take (i := 6) (v := ?_) rfl (by kernel_rfl) (by kernel_rfl) (by kernel_rfl) (fun _ _ _ h => h) (Or.inl ⟨by rfl, fun v hv => ?_⟩) (by with_reducible assumption) ?_
          rotate_left
          · go_simp
            try with_reducible rfl
          simp only [Act.put, List.setIfInBounds_toArray, List.set_cons_zero, List.set_cons_succ, List.getElem_toArray, List.getElem_cons_zero, List.getElem_cons_succ]
          refine wpAnyH_take (i := 7) (v := ?_) rfl (by kernel_rfl) (by kernel_rfl) (by kernel_rfl) (fun _ _ _ h => h) (Or.inl ⟨by rfl, fun v hv => ?_⟩) (by with_reducible assumption) ?_
          rotate_left
          · have hcc := HC9.out v hv
            go_simp
            try with_reducible rfl
          simp only [Act.put, List.setIfInBounds_toArray, List.set_cons_zero, List.set_cons_succ, List.getElem_toArray, List.getElem_cons_zero, List.getElem_cons_succ]
          refine wpAnyH_take (i := 9) (v := ?_) rfl (by kernel_rfl) (by kernel_rfl) (by kernel_rfl) (fun _ _ _ h => h) (Or.inl ⟨by rfl, fun v hv => ?_⟩) (by with_reducible assumption) ?_
          rotate_left
          · go_simp
            try with_reducible rfl
          simp only [Act.put, List.setIfInBounds_toArray, List.set_cons_zero, List.set_cons_succ, List.getElem_toArray, List.getElem_cons_zero, List.getElem_cons_succ]
          refine wpAnyH_ready (rs := [8]) (by kernel_rfl) (by simp) ?_
          refine (AllReadyH.cons rfl (fun K hK => ?_) AllReadyH.nil)
          go_simp
          go_at_call 6
          with_reducible refine (fromWideZ_c (A p) (n p) (c p) (l p) wr.drew (((HN.out.at_ p hp).below (hr0).fr.b (Nat.le_refl _)).more (hr0).fr.b.size) hn1000 (HG0.out.up (hr0).fr.b)).mono ?_
          rintro e wq1 ⟨_, rfl, he0, hbq1⟩
          have hr_q1 := (hr0).up hbq1
          have he1 := he0.eq HXE.out
          obtain ⟨gr, rfl⟩ := he1.fn
          try dsimp only
          refine hK.out _ _ ((hr_q1).fr.x) (fun hHeld => ?_)
          clear hK K
          try simp only [Act.put, List.setIfInBounds_toArray, List.set_cons_zero, List.set_cons_succ, List.getElem_toArray, List.getElem_cons_zero, List.getElem_cons_succ]
          refine wpAnyH_take (i := 10) (v := ?_) rfl (by kernel_rfl) (by kernel_rfl) (by kernel_rfl) (fun _ _ _ h => h) (Or.inl ⟨by rfl, fun v hv => ?_⟩) (by with_reducible assumption) ?_
          rotate_left
          · go_simp
            try with_reducible rfl
          simp only [Act.put, List.setIfInBounds_toArray, List.set_cons_zero, List.set_cons_succ, List.getElem_toArray, List.getElem_cons_zero, List.getElem_cons_succ]
          refine wpAnyH_ready (rs := [11]) (by kernel_rfl) (by simp) ?_
          refine (AllReadyH.cons rfl (fun K hK => ?_) AllReadyH.nil)
          refine ready_go (by rfl) ?_
          refine wp_store_mid 27 (.tmp 27) (.tmp 25) rfl (w.heap.size + 1 + 1) (k * 12 + m * 4) (wds 4 gr).toArray rfl rfl ((hr_q1).fr.there (k * 12 + m * 4) 4 gr (by omega)) (sizeEA _) (wds_all _ _) ?_
          have hstq2 := (hr_q1).store hlt hltm (X := nums l) he1
          have hst2q2 : OfS w U (sls A n c) (nums l) k m es ds u5 u7 _ := hstq2
          refine hK.out _ _ ((hst2q2).fr.x) (fun hHeld => ?_)
          clear hK K
          try simp only [Act.put, List.setIfInBounds_toArray, List.set_cons_zero, List.set_cons_succ, List.getElem_toArray, List.getElem_cons_zero, List.getElem_cons_succ]
          refine wpAnyH_done (by kernel_rfl) ?_ _
          have hcc := HC9.out _ (hst2q2).fr.x
          go_wp2_with fail
          clear hcc
          refine (dOfBytes_c (A p) (n p) (c p) (l p) _ (((HN.out.at_ p hp).below (hst2q2).fr.b (Nat.le_refl _)).more (hst2q2).fr.b.size) hn1000).mono ?_
          rintro e wx ⟨rx, rfl, hx, bx⟩
          have hox := OfS.up hst2q2 bx
          have HOX := hid hox
          have HX := hid hx
          clear hx bx hox
          go_wp2_with fail
          refine (dModF_c rx _ wx HX.out hvl).mono ?_
          rintro e wy ⟨d, rfl, hd, bd⟩
          have hoy := HOX.out.up bd
          have hd2 := (hd.mono (B := w.heap.size + 3) (Nat.le_trans HOX.out.bu HOX.out.us)).eq HXE.out
          have HOY := hid hoy
          have HDD := hid hd2
          have hds := hd.dz.sl
          obtain ⟨dA, dn, dc, rfl⟩ := hd.dz.form
          have hl : ds.length ≤ 1000 := by rw [hoy.dl]; omega
          clear hoy hd hd2 bd HOX HX
          go_wp2_with (at_builtin; refine app_rowT 32 60 Tryd.underlying60 sl_info rfl (.tmp 28) (.tmp 37) rfl u7 U ds (.slice dA dn dc) rfl rfl HOY.out.ri hl HOY.out.us hds ?_)
          intro v5 w5 hR5 hM5
          have HG := hid (HOY.out.app HDD.out hR5 hM5)
          clear hR5 hM5 HOY HDD hl
          go_wp2_with fail
          go_roundw
          case rel => exact ⟨m + 1, _, by omega, by go_num, HG.out⟩
          case measure => simp [intOf]; omega
        · obtain rfl : m = 3 := by omega
          obtain ⟨bb, cb, rfl⟩ := hO.dvl
          have HO := hid hO
          have hl : es.length ≤ 1000 := by rw [hO.el]; omega
          clear hO
          go_wp2_with (at_builtin; refine app_rowT 60 42 Tryd.underlying42 rr_info rfl (.tmp 40) (.tmp 42) rfl u5 (w.heap.size + 3) es (.slice (some ⟨bb, 0, none⟩) 3 cb) rfl rfl HO.out.ro hl (Nat.le_trans HO.out.bu HO.out.us) rfl ?_)
          intro v5 w5 hR5 hM5
          have HG := hid (HO.out.next hR5 hM5)
          clear hR5 hM5 HO hl
          go_wp2_with fail
          go_roundw
          case rel => exact ⟨k + 1, _, by omega, by go_num, HG.out⟩
          case measure => simp [intOf]; omega
    · obtain rfl : k = 3 := by omega
      obtain ⟨⟨f, h1, h2⟩, h3, h4, h5⟩ := hO.fr
      have HV := hid (MP.end_ h2)
      have HO := hid h1.range
      have HT := hid (h3.thereW 0 36 f (by decide))
      have HR := hid (h3.lay0 f).range
      have ho : Only (w.heap.size + 1) wr (wr.setCells (w.heap.size + 1) 0 (wds 36 f)) := Only.sets _ _ _ (Only.refl _ _)
      have hro := hO.ro.only ho (by omega)
      have hdm := hro.dm (Y := nums l) (by rw [hO.el]; exact fun i hi => ((hO.ao i hi).only ho (by omega)).dv)
      rw [hO.el] at hdm
      have HDM := hid hdm
      have HB := hid (below_cells (show w.heap.size ≤ w.heap.size + 1 by omega) (wds 36 f) 0 _ h5)
      clear h1 h2 h3 h4 h5 hO ho hro hdm
      go_wp2_with (first
    | with_reducible refine wpList_load_mid rfl 40 (.tmp 4) rfl (w.heap.size + 1 + 1) (0) rfl (wds 36 f) _ (by with_reducible exact HO.out) Tryd.underlying40 rfl (sizeM _) ?_
    | with_reducible refine wpList_store_mid rfl 40 (.tmp 2) (.tmp 45) rfl (w.heap.size + 1) (0) (wds 36 f).toArray rfl rfl (by with_reducible exact HT.out) (sizeMA _) (wds_all _ _) ?_)
      refine bodyPost_ret (results_cell_tmp0 Tryd.results12 ⟨w.heap.size + 1, 0, none⟩ _ _ rfl (run_loadVar_mid _ (w.heap.size + 1) 0 40 (wds 36 f) _ HR.out Tryd.underlying40 rfl (sizeM _)) rfl) rfl ?_
      exact ⟨_, _, rfl, HV.out, HDM.out, HB.out⟩
end Go.Proofs.YtdepkfdceidikaaDoor
/-
  avouchref09.Mul: what the call does.
-/
namespace Go.Proofs.YtdepkfdceidikaaDoor
open Go.RowKit
set_option linter.unusedVariables false
set_option linter.unusedSimpArgs false

theorem bchain_b {w w' : World} (h : Below w.heap.size w w') : Below w.heap.size w w' := h
end Go.Proofs.YtdepkfdceidikaaDoor
/-
  avouchref09.Apply, Without: what each call does.
-/
namespace Go.Proofs.YtdepkfdceidikaaDoor
open Go.RowKit
set_option linter.unusedVariables false
set_option linter.unusedSimpArgs false

theorem dotZ_apply (X : MZ) (V : Nat → Int) (i : Nat) : dotZ (X i) V 3 = mzApply X V i := by
  show 0 + X i 0 * V 0 + X i 1 * V 1 + X i 2 * V 2 = X i 0 * V 0 + X i 1 * V 1 + X i 2 * V 2
  rw [Int.zero_add]
/-- What is left without a row and a column. -/
def skp (r i : Nat) : Nat := if i < r then i else i + 1
def mzSkip (X : MZ) (r c : Nat) : MZ := fun i j => X (skp r i) (skp c j)
end Go.Proofs.YtdepkfdceidikaaDoor
/-
  avouchref09.Determinant: what the call does.
-/
namespace Go.Proofs.YtdepkfdceidikaaDoor
open Go.RowKit
set_option linter.unusedVariables false
set_option linter.unusedSimpArgs false


/-- The sum of the first j products, by turns of both signs. -/
def dsum (D : MZ → Int) (X : MZ) : Nat → Int
  | 0 => 0
  | j + 1 => if j % 2 = 0 then dsum D X j + X 0 j * D (mzSkip X 0 j) else dsum D X j - X 0 j * D (mzSkip X 0 j)
def det1 (X : MZ) : Int := X 0 0
def det2 (X : MZ) : Int := dsum det1 X 2
def det3 (X : MZ) : Int := dsum det2 X 3
theorem det2_eq (X : MZ) : det2 X = X 0 0 * X 1 1 - X 0 1 * X 1 0 := by
  show 0 + X 0 0 * X 1 1 - X 0 1 * X 1 0 = _
  rw [Int.zero_add]
theorem det2_wo (X : MZ) {i j : Nat} (hi : i < 3) (hj : j < 3) : det2 (mzSkip X i j) = mzWo X i j := by
  rw [det2_eq]
  match i, hi, j, hj with
  | 0, _, 0, _ => rfl
  | 0, _, 1, _ => rfl
  | 0, _, 2, _ => rfl
  | 1, _, 0, _ => rfl
  | 1, _, 1, _ => rfl
  | 1, _, 2, _ => rfl
  | 2, _, 0, _ => rfl
  | 2, _, 1, _ => rfl
  | 2, _, 2, _ => rfl
theorem det3_eq (X : MZ) : det3 X = mzDet X := by
  rw [← mzDet_P]
  show 0 + X 0 0 * det2 (mzSkip X 0 0) - X 0 1 * det2 (mzSkip X 0 1) + X 0 2 * det2 (mzSkip X 0 2) = _
  rw [det2_wo X (by decide) (by decide), det2_wo X (by decide) (by decide), det2_wo X (by decide) (by decide), Int.zero_add]
  rfl
end Go.Proofs.YtdepkfdceidikaaDoor
/-
  avouchref09.Minors: what the call does.
-/
namespace Go.Proofs.YtdepkfdceidikaaDoor
open Go.RowKit
set_option linter.unusedVariables false
set_option linter.unusedSimpArgs false


theorem minors_a (X : MZ) {k m : Nat} (hk : k < 3) (hm : m < 3) : (minorsL X).getD (3 * k + m) 0 = X k m := by
  match k, hk, m, hm with
  | 0, _, 0, _ => rfl
  | 0, _, 1, _ => rfl
  | 0, _, 2, _ => rfl
  | 1, _, 0, _ => rfl
  | 1, _, 1, _ => rfl
  | 1, _, 2, _ => rfl
  | 2, _, 0, _ => rfl
  | 2, _, 1, _ => rfl
  | 2, _, 2, _ => rfl
theorem minors_b (X : MZ) {k m : Nat} (hk : k < 3) (hm : m < 3) : (minorsL X).getD (9 + 3 * k + m) 0 = mzWo X k m := by
  match k, hk, m, hm with
  | 0, _, 0, _ => rfl
  | 0, _, 1, _ => rfl
  | 0, _, 2, _ => rfl
  | 1, _, 0, _ => rfl
  | 1, _, 1, _ => rfl
  | 1, _, 2, _ => rfl
  | 2, _, 0, _ => rfl
  | 2, _, 1, _ => rfl
  | 2, _, 2, _ => rfl
theorem minors_e (X : MZ) : (minorsL X).getD 18 0 = mzDet X := rfl
/-- The nineteen numbers, by place. -/
def minF (X : MZ) (i : Nat) : Int := (minorsL X).getD i 0
end Go.Proofs.YtdepkfdceidikaaDoor
/-
  avouchlaw09.is, few, avouchlaw02.Is: as the laws want them.
-/
namespace Go.Proofs.YtdepkfdceidikaaDoor
open Go.RowKit
set_option linter.unusedVariables false
set_option linter.unusedSimpArgs false


/-- The load of a row among a plain region's operations, where it stands under a guard that lets it. -/
theorem wpList_load_midG {P : Program} {ops : Array Oper} {rest : List Oper} {op : Oper} {a : Act} {w : World} {Q : Exit → Act → World → Prop} (hw : Region.wanted op (yielded ops a.tmps) = true) (ty : TypeId) (x : Operand) (ho : op.op = .load ty x)
    (b o : Nat) (hx : a.eval x = .pointer (some ⟨b, o, none⟩)) (cs : List Value) (d : TypeDesc) (hc : w.rangeAt b o cs)
    (hu : P.underlying ty = some d) (hd : d.isRow = true) (hi : (P.info? ty).map (·.size) = some cs.length)
    (h : wpList P ops Q rest (a.put op.dst (.agg cs.toArray)) w) : wpList P ops Q (op :: rest) a w :=
  wpList_step fun K hK => by
    rw [if_pos hw]
    exact wp_load_mid ty x ho b o hx cs d hc hu hd hi (hK _ _ h)
theorem few_t (A : Nat → Option Addr) (n c : Nat → Nat) (w : World) (h : Few n) : Calls Tryd.prog 11 #[.agg (sls A n c).toArray] w fun e w' => e = .returned (.bool true) ∧ Below w.heap.size w w' := by
  have k := few_c A n c w
  rw [few9_t h] at k
  exact k
theorem few_f (A : Nat → Option Addr) (n c : Nat → Nat) (w : World) (h : ¬ Few n) : Calls Tryd.prog 11 #[.agg (sls A n c).toArray] w fun e w' => e = .returned (.bool false) ∧ Below w.heap.size w w' := by
  have k := few_c A n c w
  rw [few9_f h] at k
  exact k
end Go.Proofs.YtdepkfdceidikaaDoor
/-
  avouchlaw09.MatrixMinors: the walk.
-/
namespace Go.Proofs.YtdepkfdceidikaaDoor
open Go.RowKit
set_option linter.unusedVariables false
set_option linter.unusedSimpArgs false


/-- Digits of 0 are none, others are some. -/
theorem Dz.lenz {w : World} {A : Option Addr} {n c : Nat} {X : Int} (h : Dz w (.slice A n c) X) : decide (0 < n) = decide (¬ X % pZ = 0) := by
  obtain ⟨x, hx, hl, e⟩ := h.ex
  obtain ⟨A', c', l, e1, h1, h2, h3, h4, h5, h6⟩ := hx.ex
  injection e1 with q1 q2 q3
  subst q2
  rw [← e]
  apply decide_eq_decide.2
  constructor
  · intro h0 hc
    have hx0 : x = 0 := Int.ofNat.inj hc
    rcases h5 with h5 | h5
    · rw [h5] at h0
      exact absurd h0 (Nat.lt_irrefl 0)
    · have hp : 1 ≤ l.getD (l.length - 1) 0 := by omega
      have hv : val 4294967296 l = pv 4294967296 l (l.length - 1) + l.getD (l.length - 1) 0 * 4294967296 ^ (l.length - 1) := by
        unfold val
        conv => lhs; rw [show l.length = (l.length - 1) + 1 by omega]
        rw [pv_succ]
      have hpw : 0 < 4294967296 ^ (l.length - 1) := Nat.pow_pos (by decide)
      have : 1 * 4294967296 ^ (l.length - 1) ≤ l.getD (l.length - 1) 0 * 4294967296 ^ (l.length - 1) := Nat.mul_le_mul_right _ hp
      omega
  · intro hc
    rcases Nat.eq_zero_or_pos l.length with h0 | h0
    · exfalso
      have hl0 : l = [] := List.eq_nil_of_length_eq_zero h0
      rw [hl0] at h6
      apply hc
      rw [← h6]
      rfl
    · exact h0
theorem minors_len (M : MZ) : (minorsL M).length = 19 := by unfold minorsL; rw [List.length_append, List.length_append, rowsL_len, rowsL_len]; rfl
end Go.Proofs.YtdepkfdceidikaaDoor
/-
  avouchlaw09.MatrixReckons: the walk.
-/
namespace Go.Proofs.YtdepkfdceidikaaDoor
open Go.RowKit
set_option linter.unusedVariables false
set_option linter.unusedSimpArgs false


theorem cong_refl (X : MZ) : MCong X X := fun _ _ _ _ => rfl
end Go.Proofs.YtdepkfdceidikaaDoor
