import Derived.Test.YtdepkfdceidikaaGreatDoorPrA
/-
  avouchlaw10.Of: what the call does.
-/
namespace Go.Proofs.YtdepkfdceidikaaGreatDoor
open Go.RowKit
set_option linter.unusedVariables false
set_option linter.unusedSimpArgs false


/-- What Of's loop keeps: k elements, and m rows of digits. -/
structure OtR (w : World) (X : Nat → Int) (k m : Nat) (u : Value) (ds : List Value) (wr : World) : Prop where
  z : BlkV wr (w.heap.size + 1) 39 (wds 12 z0)
  x : ∃ s, BlkV wr (w.heap.size + 1 + 1) 39 (wds 12 s) ∧ VP X k s
  c : RowT 50 wr (w.heap.size + 3) u ds
  a : AllZF (w.heap.size + 3) wr ds X
  b : Below w.heap.size w wr
  el : ds.length = m
theorem OtR.up {w : World} {X : Nat → Int} {k m : Nat} {u : Value} {ds : List Value} {wr w' : World} (h : OtR w X k m u ds wr) (hb : Below wr.heap.size wr w') : OtR w X k m u ds w' := by
  obtain ⟨s, h1, h2⟩ := h.x
  exact ⟨h.z.up hb, ⟨s, h1.up hb, h2⟩, h.c.below hb, h.a.up hb, bchain h.b hb, h.el⟩
theorem OtR.there {w : World} {X : Nat → Int} {k m : Nat} {u : Value} {ds : List Value} {wr : World} (h : OtR w X k m u ds wr) (hk : k < 3) (g : Nat → Int) : wr.there (w.heap.size + 1 + 1) (k * 4) (wds 4 g).toArray.size := by
  obtain ⟨s, h1, h2⟩ := h.x
  exact h1.thereW (k * 4) 4 g (by omega)
theorem OtR.store {w : World} {X : Nat → Int} {k m : Nat} {u : Value} {ds : List Value} {wr : World} (h : OtR w X k m u ds wr) (hk : k < 3) {g : Nat → Int} (hg : Ez (.agg (wds 4 g).toArray) (X k)) : OtR w X (k + 1) m u ds (wr.setCells (w.heap.size + 1 + 1) (k * 4) (wds 4 g)) := by
  obtain ⟨s, h1, h2⟩ := h.x
  have ho : Only (w.heap.size + 1 + 1) wr (wr.setCells (w.heap.size + 1 + 1) (k * 4) (wds 4 g)) := (Only.refl _ _).sets _ _
  exact ⟨BlkV.put (by omega) _ _ _ h.z, ⟨_, h1.lay (k * 4) 4 g (by omega), h2.put hg⟩, h.c.only ho (by omega), h.a.only ho (by omega), below_cells (by omega) _ _ _ h.b, h.el⟩
theorem OtR.app {w : World} {X : Nat → Int} {k m : Nat} {u v' d : Value} {ds : List Value} {wr w' : World} (h : OtR w X k m u ds wr) (hd : DzF (w.heap.size + 3) wr d (X m)) (hr : RowT 50 w' (w.heap.size + 3) v' (ds ++ [d])) (hm : Moved wr w' u v') : OtR w X k (m + 1) v' (ds ++ [d]) w' := by
  obtain ⟨s, h1, h2⟩ := h.x
  have hs : w.heap.size + 3 ≤ wr.heap.size := by have := h.c.lt; have := h1.size; omega
  have hb := h.c.moved hm hs
  exact ⟨h.z.below hb (by omega), ⟨s, h1.below hb (by omega), h2⟩, hr, h.a.snoc (by rw [h.el]; exact hd) h.c hm, h.b.trans (hb.mono (by omega)), by rw [List.length_append, h.el]; rfl⟩
set_option maxRecDepth 20000 in
set_option maxHeartbeats 2000000 in
theorem of10_c (A : Nat → Option Addr) (n c : Nat → Nat) (l : Nat → List Nat) (w : World) (hN : N3 w w.heap.size A n l) (hF : Few3 n) (hG : Glob w) :
    Calls Tryz.prog 11 #[.agg #[.slice (A 0) (n 0) (c 0), .slice (A 1) (n 1) (c 1), .slice (A 2) (n 2) (c 2)]] w fun e w' => ∃ f r, e = .returned (.tuple #[.agg (wds 12 f).toArray, r]) ∧ VecZ f (num3 l) ∧ DV w' r 3 (num3 l) ∧ Below w.heap.size w w' := by
  have hz := zeroV
  have hlz := wds_len 12 z0
  have e1 : (w.alloc (.cells #[.slice (A 0) (n 0) (c 0), .slice (A 1) (n 1) (c 1), .slice (A 2) (n 2) (c 2)] 23)).heap.size = w.heap.size + 1 := by simp
  have e2 : ((w.alloc (.cells #[.slice (A 0) (n 0) (c 0), .slice (A 1) (n 1) (c 1), .slice (A 2) (n 2) (c 2)] 23)).alloc (oF 39 12 z0)).heap.size = w.heap.size + 1 + 1 := by simp
  have e3 : (((w.alloc (.cells #[.slice (A 0) (n 0) (c 0), .slice (A 1) (n 1) (c 1), .slice (A 2) (n 2) (c 2)] 23)).alloc (oF 39 12 z0)).alloc (oF 39 12 z0)).heap.size = w.heap.size + 3 := by simp
  have h2 := ((oF_new (w.alloc (.cells #[.slice (A 0) (n 0) (c 0), .slice (A 1) (n 1) (c 1), .slice (A 2) (n 2) (c 2)] 23)) 39 12 z0).alloc (oF 39 12 z0)).alloc (.cells #[] 50)
  have h3 := (oF_new ((w.alloc (.cells #[.slice (A 0) (n 0) (c 0), .slice (A 1) (n 1) (c 1), .slice (A 2) (n 2) (c 2)] 23)).alloc (oF 39 12 z0)) 39 12 z0).alloc (.cells #[] 50)
  have h4 := RowT.new 50 (((w.alloc (.cells #[.slice (A 0) (n 0) (c 0), .slice (A 1) (n 1) (c 1), .slice (A 2) (n 2) (c 2)] 23)).alloc (oF 39 12 z0)).alloc (oF 39 12 z0)) (w.heap.size + 3) (by omega)
  rw [e1] at h2
  rw [e2] at h3
  rw [e3] at h4
  have hb := ((((Below.refl w.heap.size w).alloc (Nat.le_refl _) (.cells #[.slice (A 0) (n 0) (c 0), .slice (A 1) (n 1) (c 1), .slice (A 2) (n 2) (c 2)] 23)).alloc (by omega) (oF 39 12 z0)).alloc (by omega) (oF 39 12 z0)).alloc (by omega) (.cells #[] 50)
  have R0 := hid (show OtR w (num3 l) 0 0 (.slice (some ⟨w.heap.size + 1 + 1 + 1, 0, none⟩) 0 0) [] _ from ⟨h2, ⟨z0, h3, VP.zero _ _⟩, h4, fun i hi => absurd hi (Nat.not_lt_zero i), hb, rfl⟩)
  have HN := hid hN
  have HF := hid hF
  have HG0 := hid hG
  clear h2 h3 h4 e1 e2 e3 hb hN hF hG
  unfold oF at R0
  go_enter Tryz.func11, Tryz.ntmps11
  go_wp2_with fail
  generalize ((((w.alloc _).alloc _).alloc _).alloc _) = w0 at *
  go_loopw [5, 10] (fun v i wr => ∃ k : Nat, ∃ ds : List Value, k ≤ 3 ∧ i = .int .i64 k ∧ OtR w (num3 l) k k v ds wr) (fun _ i _ => 3 - (intOf i).toNat)
  case atStart => exact ⟨0, [], by omega, rfl, R0.out⟩
  case round =>
    clear R0
    obtain ⟨k, ds, hk, rfl, hO⟩ := hrel
    by_cases hlt : k < 3
    · have i0 : (0 : Int) ≤ (k : Int) := by omega
      have i2 : (k : Int) < 3 := by omega
      have hix := fun v => index_3 v A n c hlt
      have hn40 := HF.out k hlt
      have hn1000 : n k ≤ 1000 := by omega
      have hvl : val 256 (l k) < 4294967296 ^ 30 := by
        have h := HN.out.at_ k hlt
        exact val40 h.lt (by rw [h.len]; exact hn40)
      have HO := hid hO
      clear hO
      go_wp2_with fail
      refine (fromWideZ_c (A k) (n k) (c k) (l k) wr (((HN.out.at_ k hlt).below HO.out.b (Nat.le_refl _)).more HO.out.b.size) hn1000 (HG0.out.up HO.out.b)).mono ?_
      rintro e w2 ⟨r1, rfl, he, b2⟩
      obtain ⟨gr, rfl⟩ := he.fn
      have h2 := HO.out.up b2
      have HT := hid (h2.there hlt gr)
      have H3 := hid (h2.store hlt (X := num3 l) he)
      clear h2 b2 HO he
      go_wp2_with (first
    | with_reducible refine wpList_store_mid rfl 37 (.tmp 17) (.tmp 16) rfl (w.heap.size + 1 + 1) (k * 4) (wds 4 gr).toArray rfl rfl (by with_reducible exact HT.out) (sizeEA _) (wds_all _ _) ?_
    | fail)
      obtain ⟨w3, hw3⟩ : ∃ x, x = w2.setCells (w.heap.size + 1 + 1) (k * 4) (wds 4 gr) := ⟨_, rfl⟩
      rw [← hw3] at H3 ⊢
      clear hw3 HT
      refine (dOfBytes_c (A k) (n k) (c k) (l k) w3 (((HN.out.at_ k hlt).below H3.out.b (Nat.le_refl _)).more H3.out.b.size) hn1000).mono ?_
      rintro e wx ⟨rx, rfl, hx, bx⟩
      have HOX := hid (H3.out.up bx)
      have HX := hid hx
      clear hx bx H3
      go_wp2_with fail
      refine (dModF_c rx _ wx HX.out hvl).mono ?_
      rintro e wy ⟨d, rfl, hd, bd⟩
      have hlow : w.heap.size + 3 ≤ wx.heap.size := by obtain ⟨s, q1, _⟩ := HOX.out.x; have := q1.size; omega
      have HOY := hid (HOX.out.up bd)
      have HDD := hid (hd.mono (B := w.heap.size + 3) hlow)
      have hds := hd.dz.sl
      obtain ⟨dA, dn, dc, rfl⟩ := hd.dz.form
      have hl : ds.length ≤ 1000 := by rw [HOY.out.el]; omega
      have hbase : Hid (w.heap.size + 3 ≤ wy.heap.size) := hid (by obtain ⟨s, q1, _⟩ := HOY.out.x; have := q1.size; omega)
      clear hd bd HOX HX hlow
      go_wp2_with (at_builtin; refine app_rowT 50 28 Tryz.underlying28 sl_info rfl (.tmp 18) (.tmp 22) rfl u5 (w.heap.size + 3) ds (.slice dA dn dc) rfl rfl HOY.out.c hl hbase.out hds ?_)
      intro v5 w5 hR5 hM5
      have HG := hid (HOY.out.app HDD.out hR5 hM5)
      clear hR5 hM5 HOY HDD hl hbase
      go_wp2_with fail
      go_roundw
      case rel => exact ⟨k + 1, _, by omega, by go_num, HG.out⟩
      case measure => simp [intOf]; omega
    · obtain rfl : k = 3 := by omega
      obtain ⟨f, h1, h2⟩ := hO.x
      have HV : Hid (VecZ f (num3 l)) := ⟨fun i hi => h2 i hi⟩
      have HO := hid h1.range
      have HT := hid (hO.z.thereW 0 12 f (by decide))
      have HR := hid (hO.z.lay0 f).range
      have ho : Only (w.heap.size + 1) wr (wr.setCells (w.heap.size + 1) 0 (wds 12 f)) := Only.sets _ _ _ (Only.refl _ _)
      have hro := hO.c.only ho (by omega)
      have hdv := hro.dv (Y := num3 l) (fun i hi => ((hO.a i hi).only ho (by omega)).dz)
      rw [hO.el] at hdv
      have HDV := hid hdv
      have HB := hid (below_cells (show w.heap.size ≤ w.heap.size + 1 by omega) (wds 12 f) 0 _ hO.b)
      have hlf := wds_len 12 f
      clear h1 h2 hO ho hro hdv
      go_wp2_with (first
    | with_reducible refine wpList_load_mid rfl 39 (.tmp 4) rfl (w.heap.size + 1 + 1) (0) rfl (wds 12 f) _ (by with_reducible exact HO.out) Tryz.underlying39 rfl (sizeV _) ?_
    | with_reducible refine wpList_store_mid rfl 39 (.tmp 2) (.tmp 25) rfl (w.heap.size + 1) (0) (wds 12 f).toArray rfl rfl (by with_reducible exact HT.out) (sizeVA _) (wds_all _ _) ?_
    | fail)
      refine bodyPost_ret (results_cell_tmp0 Tryz.results11 ⟨w.heap.size + 1, 0, none⟩ _ _ rfl (run_loadVar_mid _ (w.heap.size + 1) 0 39 (wds 12 f) _ HR.out Tryz.underlying39 rfl (sizeV _)) rfl) rfl ?_
      exact ⟨_, _, rfl, HV.out, HDV.out, HB.out⟩
end Go.Proofs.YtdepkfdceidikaaGreatDoor
/-
  avouchlaw10.is: what the call does.
-/
namespace Go.Proofs.YtdepkfdceidikaaGreatDoor
open Go.RowKit
set_option linter.unusedVariables false
set_option linter.unusedSimpArgs false

set_option maxRecDepth 20000 in
set_option maxHeartbeats 2000000 in
theorem is10_t (f : Nat → Int) (vr : Value) (X Y : Nat → Int) (w : World) (hM : VecZ f X) (hR : DV w vr 3 Y) (hG : Glob w) (hC : ∀ i, i < 3 → X i % pZ = Y i % pZ) :
    Calls Tryz.prog 12 #[.agg (wds 12 f).toArray, vr] w fun e w' => e = .returned (.bool true) ∧ Below w.heap.size w w' := by
  obtain ⟨bv, cv, rfl, hbv, hcv⟩ := hR.at_
  have hlf := wds_len 12 f
  have h0 := oF_new w 39 12 f
  have hb := (Below.refl w.heap.size w).alloc (Nat.le_refl _) (oF 39 12 f)
  have HG := hid hG
  obtain ⟨d0, hd0, cd0⟩ := hcv 0 (by decide)
  obtain ⟨dA0, dn0, dc0, rfl⟩ := hd0.form
  have ED0 := hid hd0
  have EX0 := hid (hM.at_ 0 (by decide)).out
  have C0 := hid (hC 0 (by decide))
  have OR0 : Hid (∀ v, Below w.heap.size w v → v.cell? ⟨bv, 0, none⟩ = some (.slice dA0 dn0 dc0)) := fun v hv => (hv.cell (p := ⟨bv, 0, none⟩) hbv).trans cd0
  obtain ⟨a0, ha0⟩ : ∃ a : Nat → Int, a = fun k => f (0 * 4 + k) := ⟨_, rfl⟩
  rw [← ha0] at EX0
  have OV0 : Hid (∀ v, BlkV v w.heap.size 39 (wds 12 f) → v.rangeAt w.heap.size 0 (wds 4 a0)) := fun v hv => by rw [ha0]; exact hv.sub (0 * 4) 4 (by decide)
  clear hd0 cd0 ha0
  obtain ⟨d1, hd1, cd1⟩ := hcv 1 (by decide)
  obtain ⟨dA1, dn1, dc1, rfl⟩ := hd1.form
  have ED1 := hid hd1
  have EX1 := hid (hM.at_ 1 (by decide)).out
  have C1 := hid (hC 1 (by decide))
  have OR1 : Hid (∀ v, Below w.heap.size w v → v.cell? ⟨bv, 1, none⟩ = some (.slice dA1 dn1 dc1)) := fun v hv => (hv.cell (p := ⟨bv, 1, none⟩) hbv).trans cd1
  obtain ⟨a1, ha1⟩ : ∃ a : Nat → Int, a = fun k => f (1 * 4 + k) := ⟨_, rfl⟩
  rw [← ha1] at EX1
  have OV1 : Hid (∀ v, BlkV v w.heap.size 39 (wds 12 f) → v.rangeAt w.heap.size 4 (wds 4 a1)) := fun v hv => by rw [ha1]; exact hv.sub (1 * 4) 4 (by decide)
  clear hd1 cd1 ha1
  obtain ⟨d2, hd2, cd2⟩ := hcv 2 (by decide)
  obtain ⟨dA2, dn2, dc2, rfl⟩ := hd2.form
  have ED2 := hid hd2
  have EX2 := hid (hM.at_ 2 (by decide)).out
  have C2 := hid (hC 2 (by decide))
  have OR2 : Hid (∀ v, Below w.heap.size w v → v.cell? ⟨bv, 2, none⟩ = some (.slice dA2 dn2 dc2)) := fun v hv => (hv.cell (p := ⟨bv, 2, none⟩) hbv).trans cd2
  obtain ⟨a2, ha2⟩ : ∃ a : Nat → Int, a = fun k => f (2 * 4 + k) := ⟨_, rfl⟩
  rw [← ha2] at EX2
  have OV2 : Hid (∀ v, BlkV v w.heap.size 39 (wds 12 f) → v.rangeAt w.heap.size 8 (wds 4 a2)) := fun v hv => by rw [ha2]; exact hv.sub (2 * 4) 4 (by decide)
  clear hd2 cd2 ha2
  clear hcv hM hR hG hC hbv
  unfold oF at h0 hb
  go_enter Tryz.func12, Tryz.ntmps12
  go_wp2_with fail
  generalize (w.alloc _) = w0 at *
  have x0 := h0.up (Below.refl _ _).drew
  have b0 := bchain hb (Below.refl _ _).drew
  clear h0 hb
  refine wp_region_held_drew (S := fun v => BlkV v w.heap.size 39 (wds 12 f) ∧ Below w.heap.size w v) (by kernel_rfl) ⟨x0, b0⟩ (fun hHeld => ?_)
  refine wpAnyH_take (i := 0) (v := ?_) rfl (by kernel_rfl) (by kernel_rfl) (by kernel_rfl) (fun _ _ _ h => h) (Or.inl ⟨by rfl, fun v hv => ?_⟩) (by with_reducible assumption) ?_
  rotate_left
  · go_simp
    try with_reducible rfl
  simp only [Act.put, List.setIfInBounds_toArray, List.set_cons_zero, List.set_cons_succ, List.getElem_toArray, List.getElem_cons_zero, List.getElem_cons_succ]
  refine wpAnyH_take (i := 1) (v := .agg (wds 4 a0).toArray) rfl (by kernel_rfl) (by kernel_rfl) (by kernel_rfl) (fun _ _ _ h => h) (yieldsIf_load_mid (by rfl) 37 (.tmp 5) rfl (w.heap.size) (0) rfl (wds 4 a0) _ (fun v hv => OV0.out v hv.1) Tryz.underlying37 rfl (sizeE _)) (by with_reducible assumption) ?_
  simp only [Act.put, List.setIfInBounds_toArray, List.set_cons_zero, List.set_cons_succ, List.getElem_toArray, List.getElem_cons_zero, List.getElem_cons_succ]
  refine wpAnyH_take (i := 2) (v := ?_) rfl (by kernel_rfl) (by kernel_rfl) (by kernel_rfl) (fun _ _ _ h => h) (Or.inl ⟨by rfl, fun v hv => ?_⟩) (by with_reducible assumption) ?_
  rotate_left
  · go_simp
    try with_reducible rfl
  simp only [Act.put, List.setIfInBounds_toArray, List.set_cons_zero, List.set_cons_succ, List.getElem_toArray, List.getElem_cons_zero, List.getElem_cons_succ]
  refine wpAnyH_take (i := 3) (v := ?_) rfl (by kernel_rfl) (by kernel_rfl) (by kernel_rfl) (fun _ _ _ h => h) (Or.inl ⟨by rfl, fun v hv => ?_⟩) (by with_reducible assumption) ?_
  rotate_left
  · go_simp
    try with_reducible rfl
  simp only [Act.put, List.setIfInBounds_toArray, List.set_cons_zero, List.set_cons_succ, List.getElem_toArray, List.getElem_cons_zero, List.getElem_cons_succ]
  refine wpAnyH_take (i := 4) (v := ?_) rfl (by kernel_rfl) (by kernel_rfl) (by kernel_rfl) (fun _ _ _ h => h) (Or.inl ⟨by rfl, fun v hv => ?_⟩) (by with_reducible assumption) ?_
  rotate_left
  · have hcc := OR0.out v hv.2
    go_simp
    try with_reducible rfl
  simp only [Act.put, List.setIfInBounds_toArray, List.set_cons_zero, List.set_cons_succ, List.getElem_toArray, List.getElem_cons_zero, List.getElem_cons_succ]
  refine wpAnyH_ready (rs := [5]) (by kernel_rfl) (by simp) ?_
  refine (AllReadyH.cons rfl (fun K hK => ?_) AllReadyH.nil)
  go_simp
  go_at_call 18
  with_reducible refine (is_t _ _ _ _ w0.drew EX0.out (ED0.out.up b0) (HG.out.up b0) C0.out).mono ?_
  rintro e wi1 ⟨rfl, hbi1⟩
  have x_i1 := (x0).up hbi1
  have b_i1 := bchain b0 hbi1
  try dsimp only
  refine hK.out _ _ (⟨x_i1, b_i1⟩) (fun hHeld => ?_)
  clear hK K
  try simp only [Act.put, List.setIfInBounds_toArray, List.set_cons_zero, List.set_cons_succ, List.getElem_toArray, List.getElem_cons_zero, List.getElem_cons_succ]
  refine wpAnyH_take (i := 6) (v := ?_) rfl (by kernel_rfl) (by kernel_rfl) (by kernel_rfl) (fun _ _ _ h => h) (Or.inl ⟨by rfl, fun v hv => ?_⟩) (by with_reducible assumption) ?_
  rotate_left
  · go_simp
    try with_reducible rfl
  simp only [Act.put, List.setIfInBounds_toArray, List.set_cons_zero, List.set_cons_succ, List.getElem_toArray, List.getElem_cons_zero, List.getElem_cons_succ]
  refine wpAnyH_take (i := 7) (v := ?_) rfl (by kernel_rfl) (by kernel_rfl) (by kernel_rfl) (fun _ _ _ h => h) (Or.inl ⟨by rfl, fun v hv => ?_⟩) (by with_reducible assumption) ?_
  rotate_left
  · go_simp
    try with_reducible rfl
  simp only [Act.put, List.setIfInBounds_toArray, List.set_cons_zero, List.set_cons_succ, List.getElem_toArray, List.getElem_cons_zero, List.getElem_cons_succ]
  refine wpAnyH_take (i := 8) (v := .agg (wds 4 a1).toArray) rfl (by kernel_rfl) (by kernel_rfl) (by kernel_rfl) (fun _ _ _ h => h) (yieldsIf_load_mid (by rfl) 37 (.tmp 12) rfl (w.heap.size) (4) rfl (wds 4 a1) _ (fun v hv => OV1.out v hv.1) Tryz.underlying37 rfl (sizeE _)) (by with_reducible assumption) ?_
  simp only [Act.put, List.setIfInBounds_toArray, List.set_cons_zero, List.set_cons_succ, List.getElem_toArray, List.getElem_cons_zero, List.getElem_cons_succ]
  refine wpAnyH_take (i := 9) (v := ?_) rfl (by kernel_rfl) (by kernel_rfl) (by kernel_rfl) (fun _ _ _ h => h) (Or.inl ⟨by rfl, fun v hv => ?_⟩) (by with_reducible assumption) ?_
  rotate_left
  · go_simp
    try with_reducible rfl
  simp only [Act.put, List.setIfInBounds_toArray, List.set_cons_zero, List.set_cons_succ, List.getElem_toArray, List.getElem_cons_zero, List.getElem_cons_succ]
  refine wpAnyH_take (i := 10) (v := ?_) rfl (by kernel_rfl) (by kernel_rfl) (by kernel_rfl) (fun _ _ _ h => h) (Or.inl ⟨by rfl, fun v hv => ?_⟩) (by with_reducible assumption) ?_
  rotate_left
  · go_simp
    try with_reducible rfl
  simp only [Act.put, List.setIfInBounds_toArray, List.set_cons_zero, List.set_cons_succ, List.getElem_toArray, List.getElem_cons_zero, List.getElem_cons_succ]
  refine wpAnyH_take (i := 11) (v := ?_) rfl (by kernel_rfl) (by kernel_rfl) (by kernel_rfl) (fun _ _ _ h => h) (Or.inl ⟨by rfl, fun v hv => ?_⟩) (by with_reducible assumption) ?_
  rotate_left
  · have hcc := OR1.out v hv.2
    go_simp
    try with_reducible rfl
  simp only [Act.put, List.setIfInBounds_toArray, List.set_cons_zero, List.set_cons_succ, List.getElem_toArray, List.getElem_cons_zero, List.getElem_cons_succ]
  refine wpAnyH_ready (rs := [12]) (by kernel_rfl) (by simp) ?_
  refine (AllReadyH.cons rfl (fun K hK => ?_) AllReadyH.nil)
  go_simp
  go_at_call 18
  with_reducible refine (is_t _ _ _ _ wi1 EX1.out (ED1.out.up b_i1) (HG.out.up b_i1) C1.out).mono ?_
  rintro e wi2 ⟨rfl, hbi2⟩
  have x_i2 := (x_i1).up hbi2
  have b_i2 := bchain b_i1 hbi2
  try dsimp only
  refine hK.out _ _ (⟨x_i2, b_i2⟩) (fun hHeld => ?_)
  clear hK K
  try simp only [Act.put, List.setIfInBounds_toArray, List.set_cons_zero, List.set_cons_succ, List.getElem_toArray, List.getElem_cons_zero, List.getElem_cons_succ]
  refine wpAnyH_take (i := 13) (v := ?_) rfl (by kernel_rfl) (by kernel_rfl) (by kernel_rfl) (fun _ _ _ h => h) (Or.inl ⟨by rfl, fun v hv => ?_⟩) (by with_reducible assumption) ?_
  rotate_left
  · go_simp
    try with_reducible rfl
  simp only [Act.put, List.setIfInBounds_toArray, List.set_cons_zero, List.set_cons_succ, List.getElem_toArray, List.getElem_cons_zero, List.getElem_cons_succ]
  refine wpAnyH_take (i := 14) (v := ?_) rfl (by kernel_rfl) (by kernel_rfl) (by kernel_rfl) (fun _ _ _ h => h) (Or.inl ⟨by rfl, fun v hv => ?_⟩) (by with_reducible assumption) ?_
  rotate_left
  · go_simp
    try with_reducible rfl
  simp only [Act.put, List.setIfInBounds_toArray, List.set_cons_zero, List.set_cons_succ, List.getElem_toArray, List.getElem_cons_zero, List.getElem_cons_succ]
  refine wpAnyH_take (i := 15) (v := ?_) rfl (by kernel_rfl) (by kernel_rfl) (by kernel_rfl) (fun _ _ _ h => h) (Or.inl ⟨by rfl, fun v hv => ?_⟩) (by with_reducible assumption) ?_
  rotate_left
  · go_simp
    try with_reducible rfl
  simp only [Act.put, List.setIfInBounds_toArray, List.set_cons_zero, List.set_cons_succ, List.getElem_toArray, List.getElem_cons_zero, List.getElem_cons_succ]
  refine wpAnyH_take (i := 16) (v := .agg (wds 4 a2).toArray) rfl (by kernel_rfl) (by kernel_rfl) (by kernel_rfl) (fun _ _ _ h => h) (yieldsIf_load_mid (by rfl) 37 (.tmp 20) rfl (w.heap.size) (8) rfl (wds 4 a2) _ (fun v hv => OV2.out v hv.1) Tryz.underlying37 rfl (sizeE _)) (by with_reducible assumption) ?_
  simp only [Act.put, List.setIfInBounds_toArray, List.set_cons_zero, List.set_cons_succ, List.getElem_toArray, List.getElem_cons_zero, List.getElem_cons_succ]
  refine wpAnyH_take (i := 17) (v := ?_) rfl (by kernel_rfl) (by kernel_rfl) (by kernel_rfl) (fun _ _ _ h => h) (Or.inl ⟨by rfl, fun v hv => ?_⟩) (by with_reducible assumption) ?_
  rotate_left
  · go_simp
    try with_reducible rfl
  simp only [Act.put, List.setIfInBounds_toArray, List.set_cons_zero, List.set_cons_succ, List.getElem_toArray, List.getElem_cons_zero, List.getElem_cons_succ]
  refine wpAnyH_take (i := 18) (v := ?_) rfl (by kernel_rfl) (by kernel_rfl) (by kernel_rfl) (fun _ _ _ h => h) (Or.inl ⟨by rfl, fun v hv => ?_⟩) (by with_reducible assumption) ?_
  rotate_left
  · go_simp
    try with_reducible rfl
  simp only [Act.put, List.setIfInBounds_toArray, List.set_cons_zero, List.set_cons_succ, List.getElem_toArray, List.getElem_cons_zero, List.getElem_cons_succ]
  refine wpAnyH_take (i := 19) (v := ?_) rfl (by kernel_rfl) (by kernel_rfl) (by kernel_rfl) (fun _ _ _ h => h) (Or.inl ⟨by rfl, fun v hv => ?_⟩) (by with_reducible assumption) ?_
  rotate_left
  · have hcc := OR2.out v hv.2
    go_simp
    try with_reducible rfl
  simp only [Act.put, List.setIfInBounds_toArray, List.set_cons_zero, List.set_cons_succ, List.getElem_toArray, List.getElem_cons_zero, List.getElem_cons_succ]
  refine wpAnyH_ready (rs := [20]) (by kernel_rfl) (by simp) ?_
  refine (AllReadyH.cons rfl (fun K hK => ?_) AllReadyH.nil)
  go_simp
  go_at_call 18
  with_reducible refine (is_t _ _ _ _ wi2 EX2.out (ED2.out.up b_i2) (HG.out.up b_i2) C2.out).mono ?_
  rintro e wi3 ⟨rfl, hbi3⟩
  have x_i3 := (x_i2).up hbi3
  have b_i3 := bchain b_i2 hbi3
  try dsimp only
  refine hK.out _ _ (⟨x_i3, b_i3⟩) (fun hHeld => ?_)
  clear hK K
  try simp only [Act.put, List.setIfInBounds_toArray, List.set_cons_zero, List.set_cons_succ, List.getElem_toArray, List.getElem_cons_zero, List.getElem_cons_succ]
  refine wpAnyH_take (i := 21) (v := ?_) rfl (by kernel_rfl) (by kernel_rfl) (by kernel_rfl) (fun _ _ _ h => h) (Or.inl ⟨by rfl, fun v hv => ?_⟩) (by with_reducible assumption) ?_
  rotate_left
  · go_simp
    try with_reducible rfl
  simp only [Act.put, List.setIfInBounds_toArray, List.set_cons_zero, List.set_cons_succ, List.getElem_toArray, List.getElem_cons_zero, List.getElem_cons_succ]
  refine wpAnyH_take (i := 22) (v := ?_) rfl (by kernel_rfl) (by kernel_rfl) (by kernel_rfl) (fun _ _ _ h => h) (Or.inl ⟨by rfl, fun v hv => ?_⟩) (by with_reducible assumption) ?_
  rotate_left
  · go_simp
    try with_reducible rfl
  simp only [Act.put, List.setIfInBounds_toArray, List.set_cons_zero, List.set_cons_succ, List.getElem_toArray, List.getElem_cons_zero, List.getElem_cons_succ]
  refine wpAnyH_done (by kernel_rfl) ?_ _
  go_wp2_with fail
  go_ret
  exact ⟨rfl, b_i3⟩
end Go.Proofs.YtdepkfdceidikaaGreatDoor
