/-
  poseidon: Round, Permute: what each call does.
-/
import Derived.Test.YtdepkfdceidikaaGreatDoorPpE
namespace Go.Proofs.YtdepkfdceidikaaGreatDoor
open Go.RowKit
set_option linter.unusedVariables false
set_option linter.unusedSimpArgs false


/-- What Round keeps: the vector, the result's place, the permutation. -/
structure RE (w : World) (b p0 p1 : Nat) (f g : Nat → Int) (v : World) : Prop where
  x : BlkV v p0 39 (wds 12 f)
  z : BlkV v p1 39 (wds 12 z0)
  pb : PB v b 1 0 g
  o : Only b w v
  k : Kp b w v
theorem RE.up {w : World} {b p0 p1 : Nat} {f g : Nat → Int} {v v' : World} (h : RE w b p0 p1 f g v) (hb : Below v.heap.size v v') : RE w b p0 p1 f g v' := ⟨h.x.up hb, h.z.up hb, BlkV.up h.pb hb, h.o.trans (Only.of hb), h.k.trans (Kp.of hb)⟩
theorem RE.lay {w : World} {b p0 p1 : Nat} {f g : Nat → Int} {v : World} (h : RE w b p0 p1 f g v) (hb : b ≠ p0) (h1 : p1 ≠ p0) (hw : w.heap.size ≤ p0) (c : Nat → Int) : RE w b p0 p1 c g (v.setCells p0 0 (wds 12 c)) :=
  ⟨h.x.lay0 c, BlkV.put h1 _ _ _ h.z, BlkV.put hb _ _ _ h.pb, h.o.setsUp hw _ _, h.k.put hb _ _⟩
theorem RE.lay4 {w : World} {b p0 p1 : Nat} {f g : Nat → Int} {v : World} (h : RE w b p0 p1 f g v) (hb : b ≠ p0) (h1 : p1 ≠ p0) (hw : w.heap.size ≤ p0) (c : Nat → Int) : RE w b p0 p1 (fput f 0 4 c) g (v.setCells p0 0 (wds 4 c)) :=
  ⟨h.x.lay 0 4 c (by decide), BlkV.put h1 _ _ _ h.z, BlkV.put hb _ _ _ h.pb, h.o.setsUp hw _ _, h.k.put hb _ _⟩
/-- What a round raises. -/
noncomputable def rsZ (c : Nat → Int) (full : Bool) (V : Nat → Int) : Nat → Int := fun i => if full || i == 0 then pw5 (V i + c i) else V i + c i
theorem rdZ_rs (c : Nat → Int) (full : Bool) (V : Nat → Int) : rdZ c full V = mzApply mzCauchy (rsZ c full V) := rfl
theorem rs_full {c V f : Nat → Int} {r : Int} (h : VecZ f (fun i => pw5 (V i + c i))) (hp : parI r = false) : VecZ f (rsZ c (fulI r) V) := h.eq fun i hi => by
  unfold rsZ
  rw [fulI_par, hp]
  rfl
theorem rs_part {c V f k : Nat → Int} {r : Int} (h : VecZ f (fun i => V i + c i)) (hk : Ez (.agg (wds 4 k).toArray) (pw5 (V 0 + c 0))) (hp : parI r = true) : VecZ (fput f 0 4 k) (rsZ c (fulI r) V) := by
  refine ⟨fun i hi => ?_⟩
  unfold rsZ
  rw [fulI_par, hp]
  rcases Nat.eq_zero_or_pos i with e | e
  · subst e
    exact Ef.put 0 hk
  · have hne : (i == 0) = false := by simp; omega
    rw [hne]
    exact (h.at_ i hi).putO (Or.inr (by omega))
set_option maxRecDepth 20000 in
set_option maxHeartbeats 4000000 in
theorem round_c (b : Nat) (f : Nat → Int) (X : Nat → Int) (r : Int) (w : World) (hB : PI w b) (hX : VecZ f X) (hG : Glob w) (hlo : 0 < b ∧ 1 < b) :
    Calls Tryz.prog 13 #[.pointer (some ⟨b, 0, none⟩), .agg (wds 12 f).toArray, .int .i64 r] w fun e w' => ∃ c, e = .returned (.agg (wds 12 c).toArray) ∧ VecZ c (rdZ (pcI r) (fulI r) X) ∧ PI w' b ∧ Only b w w' ∧ Kp b w w' := by
  rw [rdZ_rs]
  have hz := zeroV
  have hlz := wds_len 12 z0
  have hlf := wds_len 12 f
  have hmf : ∀ (fn : Fn) (first cap : Array Value) (w : World), (Instr.makeFunc fn first cap).run Tryz.prog w = .ok (.func fn first cap) w := fun _ _ _ _ => rfl
  have hbp : b ≠ w.heap.size := by have := hB.size; omega
  have hbs := hB.size
  have e1 : (w.alloc (oF 39 12 f)).heap.size = w.heap.size + 1 := by simp
  have h0 := (oF_new w 39 12 f).alloc (oF 39 12 z0)
  have h1 := oF_new (w.alloc (oF 39 12 f)) 39 12 z0
  rw [e1] at h1
  have hb := ((Below.refl w.heap.size w).alloc (Nat.le_refl _) (oF 39 12 f)).alloc (by omega) (oF 39 12 z0)
  clear e1
  have HX := hid hX
  have HG := hid hG
  have HPI := hid (hB.up hb)
  have HGW := hid (hG.up hb)
  unfold oF at h0 h1 hb HPI HGW
  clear hX hG hB
  go_enter Tryz.func13, Tryz.ntmps13
  go_wp2_with fail
  generalize ((w.alloc _).alloc _) = w0 at *
  refine (once_do b w0 HPI.out HGW.out hlo).mono ?_
  rintro e w1 ⟨rfl, g, hg1, hg2, hg3, ho, hk'⟩
  have HE0 := hid (RE.mk (g := g) (ho.blk h0 (by omega)) (ho.blk h1 (by omega)) hg1 ((Only.of hb).trans ho) ((Kp.of hb).trans hk'))
  have HCP := hid hg2
  have HMZ0 := hid hg3
  have HMS : Hid (∀ v, PB v b 1 0 g → v.rangeAt b 783 (wds 36 fun j => g (780 + j))) := fun v hv => PB.sub hv 780 36 (by decide)
  have HMZ := hid hg3
  obtain ⟨mg, hmg⟩ : ∃ c : Nat → Int, c = fun j => g (780 + j) := ⟨_, rfl⟩
  rw [← hmg] at HMS HMZ
  have hlm := wds_len 36 mg
  clear h0 h1 hb hg1 hg2 hg3 ho HPI HGW hmg hk'
  go_wp2_with fail
  have e0 := RE.up HE0.out (Below.refl _ _).drew
  clear HE0
  refine wp_region_held_drew (S := fun _ => True) (by kernel_rfl) trivial (fun hHeld => ?_)
  refine wpAnyH_take (i := 1) (v := ?_) rfl (by kernel_rfl) (by kernel_rfl) (by kernel_rfl) (fun _ _ _ h => h) (Or.inl ⟨by rfl, fun v hv => ?_⟩) (by with_reducible assumption) ?_
  rotate_left
  · go_simp
    try with_reducible rfl
  simp only [Act.put, List.setIfInBounds_toArray, List.set_cons_zero, List.set_cons_succ, List.getElem_toArray, List.getElem_cons_zero, List.getElem_cons_succ]
  refine wpAnyH_take (i := 2) (v := ?_) rfl (by kernel_rfl) (by kernel_rfl) (by kernel_rfl) (fun _ _ _ h => h) (Or.inl ⟨by rfl, fun v hv => ?_⟩) (by with_reducible assumption) ?_
  rotate_left
  · go_simp
    try with_reducible rfl
  simp only [Act.put, List.setIfInBounds_toArray, List.set_cons_zero, List.set_cons_succ, List.getElem_toArray, List.getElem_cons_zero, List.getElem_cons_succ]
  refine wpAnyH_ready (rs := [0, 3]) (by kernel_rfl) (by simp) ?_
  refine (AllReadyH.cons rfl (fun K hK => ?_) (AllReadyH.cons rfl (fun K hK => ?_) AllReadyH.nil))
  · refine ready_go (by rfl) ?_
    refine wp_load_mid 39 (.tmp 4) rfl (w.heap.size) (0) rfl (wds 12 f) _ ((e0).x.range) Tryz.underlying39 rfl (sizeV _) ?_
    refine hK.out _ _ (trivial) (fun hHeld => ?_)
    clear hK K
    try simp only [Act.put, List.setIfInBounds_toArray, List.set_cons_zero, List.set_cons_succ, List.getElem_toArray, List.getElem_cons_zero, List.getElem_cons_succ]
    refine wpAnyH_ready (rs := [3]) (by kernel_rfl) (by simp) ?_
    refine (AllReadyH.cons rfl (fun K hK => ?_) AllReadyH.nil)
    go_simp
    go_at_call 17
    with_reducible refine (constantsD_c b r g w1.drew (e0).pb HCP.out).mono ?_
    rintro e wr2 ⟨cf, rfl, hcv, hbr2⟩
    have e_r2 := (e0).up hbr2
    try dsimp only
    refine hK.out _ _ (trivial) (fun hHeld => ?_)
    clear hK K
    try simp only [Act.put, List.setIfInBounds_toArray, List.set_cons_zero, List.set_cons_succ, List.getElem_toArray, List.getElem_cons_zero, List.getElem_cons_succ]
    refine wpAnyH_ready (rs := [4]) (by kernel_rfl) (by simp) ?_
    refine (AllReadyH.cons rfl (fun K hK => ?_) AllReadyH.nil)
    go_simp
    go_at_call 35
    with_reducible refine (sums_c f cf X (pcI r) wr2 HX.out hcv ((e_r2).o.globF HG.out hlo)).mono ?_
    rintro e wr3 ⟨sf, rfl, hsv, hbr3⟩
    have e_r3 := (e_r2).up hbr3
    try dsimp only
    refine hK.out _ _ (trivial) (fun hHeld => ?_)
    clear hK K
    try simp only [Act.put, List.setIfInBounds_toArray, List.set_cons_zero, List.set_cons_succ, List.getElem_toArray, List.getElem_cons_zero, List.getElem_cons_succ]
    refine wpAnyH_ready (rs := [5]) (by kernel_rfl) (by simp) ?_
    refine (AllReadyH.cons rfl (fun K hK => ?_) AllReadyH.nil)
    refine ready_go (by rfl) ?_
    refine wp_store_mid 39 (.tmp 4) (.tmp 17) rfl (w.heap.size) (0) (wds 12 sf).toArray rfl rfl ((e_r3).x.thereW 0 12 sf (by decide)) (sizeVA _) (wds_all _ _) ?_
    have eN := (e_r3).lay hbp (by omega) (Nat.le_refl _) sf
    refine hK.out _ _ (trivial) (fun hHeld => ?_)
    clear hK K
    try simp only [Act.put, List.setIfInBounds_toArray, List.set_cons_zero, List.set_cons_succ, List.getElem_toArray, List.getElem_cons_zero, List.getElem_cons_succ]
    refine wpAnyH_done (by kernel_rfl) ?_ _
    have HE1 := hid eN
    have HS := hid hsv
    clear hsv hcv
    go_wp2_with fail
    obtain ⟨w3, hw3⟩ : ∃ x, x = wr3.setCells (w.heap.size) 0 (wds 12 sf) := ⟨_, rfl⟩
    rw [← hw3] at HE1 ⊢
    clear hw3
    refine (isPartial_c r w3).mono ?_
    rintro e w4 ⟨rfl, rfl⟩
    have HX1 := hid HE1.out.x.range
    have hlsf := wds_len 12 sf
    cases hp : parI r
    · go_wp2_with (first
    | with_reducible refine wpList_load_mid rfl 39 (.tmp 4) rfl (w.heap.size) (0) rfl (wds 12 sf) _ (by with_reducible exact HX1.out) Tryz.underlying39 rfl (sizeV _) ?_
    | fail)
      refine (powers_c sf _ w4 HS.out (HE1.out.o.globF HG.out hlo)).mono ?_
      rintro e w5 ⟨pf, rfl, hpv, hb5⟩
      have E5 := HE1.out.up hb5
      have HT := hid (E5.x.thereW 0 12 pf (by decide))
      have HE2 := hid (E5.lay hbp (by omega) (Nat.le_refl _) pf)
      have HV2 := hid (rs_full hpv hp)
      have hlpf := wds_len 12 pf
      clear E5 hb5 hpv HE1 HX1 HS
      go_wp2_with (first
    | with_reducible refine wpList_store_mid rfl 39 (.tmp 4) (.tmp 25) rfl (w.heap.size) (0) (wds 12 pf).toArray rfl rfl (by with_reducible exact HT.out) (sizeVA _) (wds_all _ _) ?_
    | fail)
      obtain ⟨w6, hw6⟩ : ∃ x, x = w5.setCells (w.heap.size) 0 (wds 12 pf) := ⟨_, rfl⟩
      rw [← hw6] at HE2 ⊢
      clear hw6 HT
      have e0 := RE.up HE2.out (Below.refl _ _).drew
      have hlh := wds_len 12 pf
      clear HE2
      refine wp_region_held_drew (S := fun v => BlkV v (w.heap.size) 39 (wds 12 pf) ∧ PB v b 1 0 g) (by kernel_rfl) ⟨(e0).x, (e0).pb⟩ (fun hHeld => ?_)
      refine wpAnyH_take (i := 0) (v := ?_) rfl (by kernel_rfl) (by kernel_rfl) (by kernel_rfl) (fun _ _ _ h => h) (Or.inl ⟨by rfl, fun v hv => ?_⟩) (by with_reducible assumption) ?_
      rotate_left
      · go_simp
        try with_reducible rfl
      simp only [Act.put, List.setIfInBounds_toArray, List.set_cons_zero, List.set_cons_succ, List.getElem_toArray, List.getElem_cons_zero, List.getElem_cons_succ]
      refine wpAnyH_take (i := 1) (v := ?_) rfl (by kernel_rfl) (by kernel_rfl) (by kernel_rfl) (fun _ _ _ h => h) (Or.inl ⟨by rfl, fun v hv => ?_⟩) (by with_reducible assumption) ?_
      rotate_left
      · go_simp
        try with_reducible rfl
      simp only [Act.put, List.setIfInBounds_toArray, List.set_cons_zero, List.set_cons_succ, List.getElem_toArray, List.getElem_cons_zero, List.getElem_cons_succ]
      refine wpAnyH_take (i := 2) (v := ?_) rfl (by kernel_rfl) (by kernel_rfl) (by kernel_rfl) (fun _ _ _ h => h) (Or.inl ⟨by rfl, fun v hv => ?_⟩) (by with_reducible assumption) ?_
      rotate_left
      · go_simp
        try with_reducible rfl
      simp only [Act.put, List.setIfInBounds_toArray, List.set_cons_zero, List.set_cons_succ, List.getElem_toArray, List.getElem_cons_zero, List.getElem_cons_succ]
      refine wpAnyH_take (i := 3) (v := .agg (wds 36 mg).toArray) rfl (by kernel_rfl) (by kernel_rfl) (by kernel_rfl) (fun _ _ _ h => h) (yieldsIf_load_mid (by rfl) 57 (.tmp 28) rfl (b) (783) rfl (wds 36 mg) _ (fun v hv => HMS.out v hv.2) Tryz.underlying57 rfl (sizeM _)) (by with_reducible assumption) ?_
      simp only [Act.put, List.setIfInBounds_toArray, List.set_cons_zero, List.set_cons_succ, List.getElem_toArray, List.getElem_cons_zero, List.getElem_cons_succ]
      refine wpAnyH_take (i := 4) (v := .agg (wds 12 pf).toArray) rfl (by kernel_rfl) (by kernel_rfl) (by kernel_rfl) (fun _ _ _ h => h) (yieldsIf_load_mid (by rfl) 39 (.tmp 4) rfl (w.heap.size) (0) rfl (wds 12 pf) _ (fun v hv => hv.1.range) Tryz.underlying39 rfl (sizeV _)) (by with_reducible assumption) ?_
      simp only [Act.put, List.setIfInBounds_toArray, List.set_cons_zero, List.set_cons_succ, List.getElem_toArray, List.getElem_cons_zero, List.getElem_cons_succ]
      refine wpAnyH_ready (rs := [5]) (by kernel_rfl) (by simp) ?_
      refine (AllReadyH.cons rfl (fun K hK => ?_) AllReadyH.nil)
      go_simp
      go_at_call 24
      with_reducible refine (apply_c mg pf _ _ w6.drew HMZ.out HV2.out ((e0).o.globF HG.out hlo)).mono ?_
      rintro e wt1 ⟨ar, rfl, hav, hbt1⟩
      have e_t1 := (e0).up hbt1
      try dsimp only
      refine hK.out _ _ (⟨(e_t1).x, (e_t1).pb⟩) (fun hHeld => ?_)
      clear hK K
      try simp only [Act.put, List.setIfInBounds_toArray, List.set_cons_zero, List.set_cons_succ, List.getElem_toArray, List.getElem_cons_zero, List.getElem_cons_succ]
      refine wpAnyH_ready (rs := [6]) (by kernel_rfl) (by simp) ?_
      refine (AllReadyH.cons rfl (fun K hK => ?_) AllReadyH.nil)
      refine ready_go (by rfl) ?_
      refine wp_store_mid 39 (.tmp 6) (.tmp 31) rfl (w.heap.size + 1) (0) (wds 12 ar).toArray rfl rfl ((e_t1).z.thereW 0 12 ar (by decide)) (sizeVA _) (wds_all _ _) ?_
      have HR := hid ((e_t1).z.lay0 ar).range
      have xN := BlkV.put (show w.heap.size ≠ w.heap.size + 1 by omega) (wds 12 ar) 0 _ (e_t1).x
      have pN' := BlkV.put (show b ≠ w.heap.size + 1 by omega) (wds 12 ar) 0 _ (e_t1).pb
      have oN := hid (((e_t1).o).setsUp (show w.heap.size ≤ w.heap.size + 1 by omega) (wds 12 ar) 0)
      have kN := hid ((e_t1).k.put (show b ≠ w.heap.size + 1 by omega) (wds 12 ar) 0)
      refine hK.out _ _ (⟨xN, pN'⟩) (fun hHeld => ?_)
      clear hK K
      try simp only [Act.put, List.setIfInBounds_toArray, List.set_cons_zero, List.set_cons_succ, List.getElem_toArray, List.getElem_cons_zero, List.getElem_cons_succ]
      refine wpAnyH_done (by kernel_rfl) ?_ _
      have HPI := hid (show PI _ b from ⟨1, g, pN', Or.inr ⟨rfl, HCP.out, HMZ0.out⟩⟩)
      clear xN pN'
      go_wp2_with fail
      refine bodyPost_ret (results_cell1 Tryz.results13 ⟨w.heap.size + 1, 0, none⟩ _ rfl (run_loadVar_mid _ (w.heap.size + 1) 0 39 (wds 12 ar) _ HR.out Tryz.underlying39 rfl (sizeV _))) rfl ?_
      exact ⟨_, rfl, hav, HPI.out, oN.out, kN.out⟩
    · have HX4 := hid (HE1.out.x.sub 0 4 (by decide))
      obtain ⟨a, ha⟩ : ∃ a : Nat → Int, a = fun k => sf (0 + k) := ⟨_, rfl⟩
      rw [← ha] at HX4
      have HA : Hid (Ez (.agg (wds 4 a).toArray) (X 0 + pcI r 0)) := by rw [ha]; exact (HS.out.at_ 0 (by decide)).out
      clear ha HX1
      have hla := wds_len 4 a
      go_wp2_with (first
    | with_reducible refine wpList_load_mid rfl 37 (.tmp 20) rfl (w.heap.size) (0) rfl (wds 4 a) _ (by with_reducible exact HX4.out) Tryz.underlying37 rfl (sizeE _) ?_
    | fail)
      refine (power_c _ _ w4 HA.out (HE1.out.o.globF HG.out hlo)).mono ?_
      rintro e w5 ⟨pv, rfl, hpv, hb5⟩
      obtain ⟨pf, rfl⟩ := hpv.fn
      have E5 := HE1.out.up hb5
      have HT : Hid (w5.there (w.heap.size) 0 (wds 4 pf).toArray.size) := hid (E5.x.thereW 0 4 pf (by decide))
      have HE2 := hid (E5.lay4 hbp (by omega) (Nat.le_refl _) pf)
      have HV2 := hid (rs_part HS.out hpv hp)
      have hlpf := wds_len 4 pf
      clear E5 hb5 hpv HE1 HX4 HS
      go_wp2_with (first
    | with_reducible refine wpList_store_mid rfl 37 (.tmp 23) (.tmp 22) rfl (w.heap.size) (0) (wds 4 pf).toArray rfl rfl (by with_reducible exact HT.out) (sizeEA _) (wds_all _ _) ?_
    | fail)
      obtain ⟨w6, hw6⟩ : ∃ x, x = w5.setCells (w.heap.size) 0 (wds 4 pf) := ⟨_, rfl⟩
      rw [← hw6] at HE2 ⊢
      obtain ⟨hh, hhh⟩ : ∃ x, x = fput sf 0 4 pf := ⟨_, rfl⟩
      rw [← hhh] at HE2 HV2
      clear hw6 hhh HT
      have e0 := RE.up HE2.out (Below.refl _ _).drew
      have hlh := wds_len 12 hh
      clear HE2
      refine wp_region_held_drew (S := fun v => BlkV v (w.heap.size) 39 (wds 12 hh) ∧ PB v b 1 0 g) (by kernel_rfl) ⟨(e0).x, (e0).pb⟩ (fun hHeld => ?_)
      refine wpAnyH_take (i := 0) (v := ?_) rfl (by kernel_rfl) (by kernel_rfl) (by kernel_rfl) (fun _ _ _ h => h) (Or.inl ⟨by rfl, fun v hv => ?_⟩) (by with_reducible assumption) ?_
      rotate_left
      · go_simp
        try with_reducible rfl
      simp only [Act.put, List.setIfInBounds_toArray, List.set_cons_zero, List.set_cons_succ, List.getElem_toArray, List.getElem_cons_zero, List.getElem_cons_succ]
      refine wpAnyH_take (i := 1) (v := ?_) rfl (by kernel_rfl) (by kernel_rfl) (by kernel_rfl) (fun _ _ _ h => h) (Or.inl ⟨by rfl, fun v hv => ?_⟩) (by with_reducible assumption) ?_
      rotate_left
      · go_simp
        try with_reducible rfl
      simp only [Act.put, List.setIfInBounds_toArray, List.set_cons_zero, List.set_cons_succ, List.getElem_toArray, List.getElem_cons_zero, List.getElem_cons_succ]
      refine wpAnyH_take (i := 2) (v := ?_) rfl (by kernel_rfl) (by kernel_rfl) (by kernel_rfl) (fun _ _ _ h => h) (Or.inl ⟨by rfl, fun v hv => ?_⟩) (by with_reducible assumption) ?_
      rotate_left
      · go_simp
        try with_reducible rfl
      simp only [Act.put, List.setIfInBounds_toArray, List.set_cons_zero, List.set_cons_succ, List.getElem_toArray, List.getElem_cons_zero, List.getElem_cons_succ]
      refine wpAnyH_take (i := 3) (v := .agg (wds 36 mg).toArray) rfl (by kernel_rfl) (by kernel_rfl) (by kernel_rfl) (fun _ _ _ h => h) (yieldsIf_load_mid (by rfl) 57 (.tmp 28) rfl (b) (783) rfl (wds 36 mg) _ (fun v hv => HMS.out v hv.2) Tryz.underlying57 rfl (sizeM _)) (by with_reducible assumption) ?_
      simp only [Act.put, List.setIfInBounds_toArray, List.set_cons_zero, List.set_cons_succ, List.getElem_toArray, List.getElem_cons_zero, List.getElem_cons_succ]
      refine wpAnyH_take (i := 4) (v := .agg (wds 12 hh).toArray) rfl (by kernel_rfl) (by kernel_rfl) (by kernel_rfl) (fun _ _ _ h => h) (yieldsIf_load_mid (by rfl) 39 (.tmp 4) rfl (w.heap.size) (0) rfl (wds 12 hh) _ (fun v hv => hv.1.range) Tryz.underlying39 rfl (sizeV _)) (by with_reducible assumption) ?_
      simp only [Act.put, List.setIfInBounds_toArray, List.set_cons_zero, List.set_cons_succ, List.getElem_toArray, List.getElem_cons_zero, List.getElem_cons_succ]
      refine wpAnyH_ready (rs := [5]) (by kernel_rfl) (by simp) ?_
      refine (AllReadyH.cons rfl (fun K hK => ?_) AllReadyH.nil)
      go_simp
      go_at_call 24
      with_reducible refine (apply_c mg hh _ _ w6.drew HMZ.out HV2.out ((e0).o.globF HG.out hlo)).mono ?_
      rintro e wt1 ⟨ar, rfl, hav, hbt1⟩
      have e_t1 := (e0).up hbt1
      try dsimp only
      refine hK.out _ _ (⟨(e_t1).x, (e_t1).pb⟩) (fun hHeld => ?_)
      clear hK K
      try simp only [Act.put, List.setIfInBounds_toArray, List.set_cons_zero, List.set_cons_succ, List.getElem_toArray, List.getElem_cons_zero, List.getElem_cons_succ]
      refine wpAnyH_ready (rs := [6]) (by kernel_rfl) (by simp) ?_
      refine (AllReadyH.cons rfl (fun K hK => ?_) AllReadyH.nil)
      refine ready_go (by rfl) ?_
      refine wp_store_mid 39 (.tmp 6) (.tmp 31) rfl (w.heap.size + 1) (0) (wds 12 ar).toArray rfl rfl ((e_t1).z.thereW 0 12 ar (by decide)) (sizeVA _) (wds_all _ _) ?_
      have HR := hid ((e_t1).z.lay0 ar).range
      have xN := BlkV.put (show w.heap.size ≠ w.heap.size + 1 by omega) (wds 12 ar) 0 _ (e_t1).x
      have pN' := BlkV.put (show b ≠ w.heap.size + 1 by omega) (wds 12 ar) 0 _ (e_t1).pb
      have oN := hid (((e_t1).o).setsUp (show w.heap.size ≤ w.heap.size + 1 by omega) (wds 12 ar) 0)
      have kN := hid ((e_t1).k.put (show b ≠ w.heap.size + 1 by omega) (wds 12 ar) 0)
      refine hK.out _ _ (⟨xN, pN'⟩) (fun hHeld => ?_)
      clear hK K
      try simp only [Act.put, List.setIfInBounds_toArray, List.set_cons_zero, List.set_cons_succ, List.getElem_toArray, List.getElem_cons_zero, List.getElem_cons_succ]
      refine wpAnyH_done (by kernel_rfl) ?_ _
      have HPI := hid (show PI _ b from ⟨1, g, pN', Or.inr ⟨rfl, HCP.out, HMZ0.out⟩⟩)
      clear xN pN'
      go_wp2_with fail
      refine bodyPost_ret (results_cell1 Tryz.results13 ⟨w.heap.size + 1, 0, none⟩ _ rfl (run_loadVar_mid _ (w.heap.size + 1) 0 39 (wds 12 ar) _ HR.out Tryz.underlying39 rfl (sizeV _))) rfl ?_
      exact ⟨_, rfl, hav, HPI.out, oN.out, kN.out⟩
  · go_simp
    go_at_call 17
    with_reducible refine (constantsD_c b r g w1.drew (e0).pb HCP.out).mono ?_
    rintro e wr5 ⟨cf, rfl, hcv, hbr5⟩
    have e_r5 := (e0).up hbr5
    try dsimp only
    refine hK.out _ _ (trivial) (fun hHeld => ?_)
    clear hK K
    try simp only [Act.put, List.setIfInBounds_toArray, List.set_cons_zero, List.set_cons_succ, List.getElem_toArray, List.getElem_cons_zero, List.getElem_cons_succ]
    refine wpAnyH_ready (rs := [0]) (by kernel_rfl) (by simp) ?_
    refine (AllReadyH.cons rfl (fun K hK => ?_) AllReadyH.nil)
    refine ready_go (by rfl) ?_
    refine wp_load_mid 39 (.tmp 4) rfl (w.heap.size) (0) rfl (wds 12 f) _ ((e_r5).x.range) Tryz.underlying39 rfl (sizeV _) ?_
    refine hK.out _ _ (trivial) (fun hHeld => ?_)
    clear hK K
    try simp only [Act.put, List.setIfInBounds_toArray, List.set_cons_zero, List.set_cons_succ, List.getElem_toArray, List.getElem_cons_zero, List.getElem_cons_succ]
    refine wpAnyH_ready (rs := [4]) (by kernel_rfl) (by simp) ?_
    refine (AllReadyH.cons rfl (fun K hK => ?_) AllReadyH.nil)
    go_simp
    go_at_call 35
    with_reducible refine (sums_c f cf X (pcI r) wr5 HX.out hcv ((e_r5).o.globF HG.out hlo)).mono ?_
    rintro e wr7 ⟨sf, rfl, hsv, hbr7⟩
    have e_r7 := (e_r5).up hbr7
    try dsimp only
    refine hK.out _ _ (trivial) (fun hHeld => ?_)
    clear hK K
    try simp only [Act.put, List.setIfInBounds_toArray, List.set_cons_zero, List.set_cons_succ, List.getElem_toArray, List.getElem_cons_zero, List.getElem_cons_succ]
    refine wpAnyH_ready (rs := [5]) (by kernel_rfl) (by simp) ?_
    refine (AllReadyH.cons rfl (fun K hK => ?_) AllReadyH.nil)
    refine ready_go (by rfl) ?_
    refine wp_store_mid 39 (.tmp 4) (.tmp 17) rfl (w.heap.size) (0) (wds 12 sf).toArray rfl rfl ((e_r7).x.thereW 0 12 sf (by decide)) (sizeVA _) (wds_all _ _) ?_
    have eN := (e_r7).lay hbp (by omega) (Nat.le_refl _) sf
    refine hK.out _ _ (trivial) (fun hHeld => ?_)
    clear hK K
    try simp only [Act.put, List.setIfInBounds_toArray, List.set_cons_zero, List.set_cons_succ, List.getElem_toArray, List.getElem_cons_zero, List.getElem_cons_succ]
    refine wpAnyH_done (by kernel_rfl) ?_ _
    have HE1 := hid eN
    have HS := hid hsv
    clear hsv hcv
    go_wp2_with fail
    obtain ⟨w3, hw3⟩ : ∃ x, x = wr7.setCells (w.heap.size) 0 (wds 12 sf) := ⟨_, rfl⟩
    rw [← hw3] at HE1 ⊢
    clear hw3
    refine (isPartial_c r w3).mono ?_
    rintro e w4 ⟨rfl, rfl⟩
    have HX1 := hid HE1.out.x.range
    have hlsf := wds_len 12 sf
    cases hp : parI r
    · go_wp2_with (first
    | with_reducible refine wpList_load_mid rfl 39 (.tmp 4) rfl (w.heap.size) (0) rfl (wds 12 sf) _ (by with_reducible exact HX1.out) Tryz.underlying39 rfl (sizeV _) ?_
    | fail)
      refine (powers_c sf _ w4 HS.out (HE1.out.o.globF HG.out hlo)).mono ?_
      rintro e w5 ⟨pf, rfl, hpv, hb5⟩
      have E5 := HE1.out.up hb5
      have HT := hid (E5.x.thereW 0 12 pf (by decide))
      have HE2 := hid (E5.lay hbp (by omega) (Nat.le_refl _) pf)
      have HV2 := hid (rs_full hpv hp)
      have hlpf := wds_len 12 pf
      clear E5 hb5 hpv HE1 HX1 HS
      go_wp2_with (first
    | with_reducible refine wpList_store_mid rfl 39 (.tmp 4) (.tmp 25) rfl (w.heap.size) (0) (wds 12 pf).toArray rfl rfl (by with_reducible exact HT.out) (sizeVA _) (wds_all _ _) ?_
    | fail)
      obtain ⟨w6, hw6⟩ : ∃ x, x = w5.setCells (w.heap.size) 0 (wds 12 pf) := ⟨_, rfl⟩
      rw [← hw6] at HE2 ⊢
      clear hw6 HT
      have e0 := RE.up HE2.out (Below.refl _ _).drew
      have hlh := wds_len 12 pf
      clear HE2
      refine wp_region_held_drew (S := fun v => BlkV v (w.heap.size) 39 (wds 12 pf) ∧ PB v b 1 0 g) (by kernel_rfl) ⟨(e0).x, (e0).pb⟩ (fun hHeld => ?_)
      refine wpAnyH_take (i := 0) (v := ?_) rfl (by kernel_rfl) (by kernel_rfl) (by kernel_rfl) (fun _ _ _ h => h) (Or.inl ⟨by rfl, fun v hv => ?_⟩) (by with_reducible assumption) ?_
      rotate_left
      · go_simp
        try with_reducible rfl
      simp only [Act.put, List.setIfInBounds_toArray, List.set_cons_zero, List.set_cons_succ, List.getElem_toArray, List.getElem_cons_zero, List.getElem_cons_succ]
      refine wpAnyH_take (i := 1) (v := ?_) rfl (by kernel_rfl) (by kernel_rfl) (by kernel_rfl) (fun _ _ _ h => h) (Or.inl ⟨by rfl, fun v hv => ?_⟩) (by with_reducible assumption) ?_
      rotate_left
      · go_simp
        try with_reducible rfl
      simp only [Act.put, List.setIfInBounds_toArray, List.set_cons_zero, List.set_cons_succ, List.getElem_toArray, List.getElem_cons_zero, List.getElem_cons_succ]
      refine wpAnyH_take (i := 2) (v := ?_) rfl (by kernel_rfl) (by kernel_rfl) (by kernel_rfl) (fun _ _ _ h => h) (Or.inl ⟨by rfl, fun v hv => ?_⟩) (by with_reducible assumption) ?_
      rotate_left
      · go_simp
        try with_reducible rfl
      simp only [Act.put, List.setIfInBounds_toArray, List.set_cons_zero, List.set_cons_succ, List.getElem_toArray, List.getElem_cons_zero, List.getElem_cons_succ]
      refine wpAnyH_take (i := 3) (v := .agg (wds 36 mg).toArray) rfl (by kernel_rfl) (by kernel_rfl) (by kernel_rfl) (fun _ _ _ h => h) (yieldsIf_load_mid (by rfl) 57 (.tmp 28) rfl (b) (783) rfl (wds 36 mg) _ (fun v hv => HMS.out v hv.2) Tryz.underlying57 rfl (sizeM _)) (by with_reducible assumption) ?_
      simp only [Act.put, List.setIfInBounds_toArray, List.set_cons_zero, List.set_cons_succ, List.getElem_toArray, List.getElem_cons_zero, List.getElem_cons_succ]
      refine wpAnyH_take (i := 4) (v := .agg (wds 12 pf).toArray) rfl (by kernel_rfl) (by kernel_rfl) (by kernel_rfl) (fun _ _ _ h => h) (yieldsIf_load_mid (by rfl) 39 (.tmp 4) rfl (w.heap.size) (0) rfl (wds 12 pf) _ (fun v hv => hv.1.range) Tryz.underlying39 rfl (sizeV _)) (by with_reducible assumption) ?_
      simp only [Act.put, List.setIfInBounds_toArray, List.set_cons_zero, List.set_cons_succ, List.getElem_toArray, List.getElem_cons_zero, List.getElem_cons_succ]
      refine wpAnyH_ready (rs := [5]) (by kernel_rfl) (by simp) ?_
      refine (AllReadyH.cons rfl (fun K hK => ?_) AllReadyH.nil)
      go_simp
      go_at_call 24
      with_reducible refine (apply_c mg pf _ _ w6.drew HMZ.out HV2.out ((e0).o.globF HG.out hlo)).mono ?_
      rintro e wt1 ⟨ar, rfl, hav, hbt1⟩
      have e_t1 := (e0).up hbt1
      try dsimp only
      refine hK.out _ _ (⟨(e_t1).x, (e_t1).pb⟩) (fun hHeld => ?_)
      clear hK K
      try simp only [Act.put, List.setIfInBounds_toArray, List.set_cons_zero, List.set_cons_succ, List.getElem_toArray, List.getElem_cons_zero, List.getElem_cons_succ]
      refine wpAnyH_ready (rs := [6]) (by kernel_rfl) (by simp) ?_
      refine (AllReadyH.cons rfl (fun K hK => ?_) AllReadyH.nil)
      refine ready_go (by rfl) ?_
      refine wp_store_mid 39 (.tmp 6) (.tmp 31) rfl (w.heap.size + 1) (0) (wds 12 ar).toArray rfl rfl ((e_t1).z.thereW 0 12 ar (by decide)) (sizeVA _) (wds_all _ _) ?_
      have HR := hid ((e_t1).z.lay0 ar).range
      have xN := BlkV.put (show w.heap.size ≠ w.heap.size + 1 by omega) (wds 12 ar) 0 _ (e_t1).x
      have pN' := BlkV.put (show b ≠ w.heap.size + 1 by omega) (wds 12 ar) 0 _ (e_t1).pb
      have oN := hid (((e_t1).o).setsUp (show w.heap.size ≤ w.heap.size + 1 by omega) (wds 12 ar) 0)
      have kN := hid ((e_t1).k.put (show b ≠ w.heap.size + 1 by omega) (wds 12 ar) 0)
      refine hK.out _ _ (⟨xN, pN'⟩) (fun hHeld => ?_)
      clear hK K
      try simp only [Act.put, List.setIfInBounds_toArray, List.set_cons_zero, List.set_cons_succ, List.getElem_toArray, List.getElem_cons_zero, List.getElem_cons_succ]
      refine wpAnyH_done (by kernel_rfl) ?_ _
      have HPI := hid (show PI _ b from ⟨1, g, pN', Or.inr ⟨rfl, HCP.out, HMZ0.out⟩⟩)
      clear xN pN'
      go_wp2_with fail
      refine bodyPost_ret (results_cell1 Tryz.results13 ⟨w.heap.size + 1, 0, none⟩ _ rfl (run_loadVar_mid _ (w.heap.size + 1) 0 39 (wds 12 ar) _ HR.out Tryz.underlying39 rfl (sizeV _))) rfl ?_
      exact ⟨_, rfl, hav, HPI.out, oN.out, kN.out⟩
    · have HX4 := hid (HE1.out.x.sub 0 4 (by decide))
      obtain ⟨a, ha⟩ : ∃ a : Nat → Int, a = fun k => sf (0 + k) := ⟨_, rfl⟩
      rw [← ha] at HX4
      have HA : Hid (Ez (.agg (wds 4 a).toArray) (X 0 + pcI r 0)) := by rw [ha]; exact (HS.out.at_ 0 (by decide)).out
      clear ha HX1
      have hla := wds_len 4 a
      go_wp2_with (first
    | with_reducible refine wpList_load_mid rfl 37 (.tmp 20) rfl (w.heap.size) (0) rfl (wds 4 a) _ (by with_reducible exact HX4.out) Tryz.underlying37 rfl (sizeE _) ?_
    | fail)
      refine (power_c _ _ w4 HA.out (HE1.out.o.globF HG.out hlo)).mono ?_
      rintro e w5 ⟨pv, rfl, hpv, hb5⟩
      obtain ⟨pf, rfl⟩ := hpv.fn
      have E5 := HE1.out.up hb5
      have HT : Hid (w5.there (w.heap.size) 0 (wds 4 pf).toArray.size) := hid (E5.x.thereW 0 4 pf (by decide))
      have HE2 := hid (E5.lay4 hbp (by omega) (Nat.le_refl _) pf)
      have HV2 := hid (rs_part HS.out hpv hp)
      have hlpf := wds_len 4 pf
      clear E5 hb5 hpv HE1 HX4 HS
      go_wp2_with (first
    | with_reducible refine wpList_store_mid rfl 37 (.tmp 23) (.tmp 22) rfl (w.heap.size) (0) (wds 4 pf).toArray rfl rfl (by with_reducible exact HT.out) (sizeEA _) (wds_all _ _) ?_
    | fail)
      obtain ⟨w6, hw6⟩ : ∃ x, x = w5.setCells (w.heap.size) 0 (wds 4 pf) := ⟨_, rfl⟩
      rw [← hw6] at HE2 ⊢
      obtain ⟨hh, hhh⟩ : ∃ x, x = fput sf 0 4 pf := ⟨_, rfl⟩
      rw [← hhh] at HE2 HV2
      clear hw6 hhh HT
      have e0 := RE.up HE2.out (Below.refl _ _).drew
      have hlh := wds_len 12 hh
      clear HE2
      refine wp_region_held_drew (S := fun v => BlkV v (w.heap.size) 39 (wds 12 hh) ∧ PB v b 1 0 g) (by kernel_rfl) ⟨(e0).x, (e0).pb⟩ (fun hHeld => ?_)
      refine wpAnyH_take (i := 0) (v := ?_) rfl (by kernel_rfl) (by kernel_rfl) (by kernel_rfl) (fun _ _ _ h => h) (Or.inl ⟨by rfl, fun v hv => ?_⟩) (by with_reducible assumption) ?_
      rotate_left
      · go_simp
        try with_reducible rfl
      simp only [Act.put, List.setIfInBounds_toArray, List.set_cons_zero, List.set_cons_succ, List.getElem_toArray, List.getElem_cons_zero, List.getElem_cons_succ]
      refine wpAnyH_take (i := 1) (v := ?_) rfl (by kernel_rfl) (by kernel_rfl) (by kernel_rfl) (fun _ _ _ h => h) (Or.inl ⟨by rfl, fun v hv => ?_⟩) (by with_reducible assumption) ?_
      rotate_left
      · go_simp
        try with_reducible rfl
      simp only [Act.put, List.setIfInBounds_toArray, List.set_cons_zero, List.set_cons_succ, List.getElem_toArray, List.getElem_cons_zero, List.getElem_cons_succ]
      refine wpAnyH_take (i := 2) (v := ?_) rfl (by kernel_rfl) (by kernel_rfl) (by kernel_rfl) (fun _ _ _ h => h) (Or.inl ⟨by rfl, fun v hv => ?_⟩) (by with_reducible assumption) ?_
      rotate_left
      · go_simp
        try with_reducible rfl
      simp only [Act.put, List.setIfInBounds_toArray, List.set_cons_zero, List.set_cons_succ, List.getElem_toArray, List.getElem_cons_zero, List.getElem_cons_succ]
      refine wpAnyH_take (i := 3) (v := .agg (wds 36 mg).toArray) rfl (by kernel_rfl) (by kernel_rfl) (by kernel_rfl) (fun _ _ _ h => h) (yieldsIf_load_mid (by rfl) 57 (.tmp 28) rfl (b) (783) rfl (wds 36 mg) _ (fun v hv => HMS.out v hv.2) Tryz.underlying57 rfl (sizeM _)) (by with_reducible assumption) ?_
      simp only [Act.put, List.setIfInBounds_toArray, List.set_cons_zero, List.set_cons_succ, List.getElem_toArray, List.getElem_cons_zero, List.getElem_cons_succ]
      refine wpAnyH_take (i := 4) (v := .agg (wds 12 hh).toArray) rfl (by kernel_rfl) (by kernel_rfl) (by kernel_rfl) (fun _ _ _ h => h) (yieldsIf_load_mid (by rfl) 39 (.tmp 4) rfl (w.heap.size) (0) rfl (wds 12 hh) _ (fun v hv => hv.1.range) Tryz.underlying39 rfl (sizeV _)) (by with_reducible assumption) ?_
      simp only [Act.put, List.setIfInBounds_toArray, List.set_cons_zero, List.set_cons_succ, List.getElem_toArray, List.getElem_cons_zero, List.getElem_cons_succ]
      refine wpAnyH_ready (rs := [5]) (by kernel_rfl) (by simp) ?_
      refine (AllReadyH.cons rfl (fun K hK => ?_) AllReadyH.nil)
      go_simp
      go_at_call 24
      with_reducible refine (apply_c mg hh _ _ w6.drew HMZ.out HV2.out ((e0).o.globF HG.out hlo)).mono ?_
      rintro e wt1 ⟨ar, rfl, hav, hbt1⟩
      have e_t1 := (e0).up hbt1
      try dsimp only
      refine hK.out _ _ (⟨(e_t1).x, (e_t1).pb⟩) (fun hHeld => ?_)
      clear hK K
      try simp only [Act.put, List.setIfInBounds_toArray, List.set_cons_zero, List.set_cons_succ, List.getElem_toArray, List.getElem_cons_zero, List.getElem_cons_succ]
      refine wpAnyH_ready (rs := [6]) (by kernel_rfl) (by simp) ?_
      refine (AllReadyH.cons rfl (fun K hK => ?_) AllReadyH.nil)
      refine ready_go (by rfl) ?_
      refine wp_store_mid 39 (.tmp 6) (.tmp 31) rfl (w.heap.size + 1) (0) (wds 12 ar).toArray rfl rfl ((e_t1).z.thereW 0 12 ar (by decide)) (sizeVA _) (wds_all _ _) ?_
      have HR := hid ((e_t1).z.lay0 ar).range
      have xN := BlkV.put (show w.heap.size ≠ w.heap.size + 1 by omega) (wds 12 ar) 0 _ (e_t1).x
      have pN' := BlkV.put (show b ≠ w.heap.size + 1 by omega) (wds 12 ar) 0 _ (e_t1).pb
      have oN := hid (((e_t1).o).setsUp (show w.heap.size ≤ w.heap.size + 1 by omega) (wds 12 ar) 0)
      have kN := hid ((e_t1).k.put (show b ≠ w.heap.size + 1 by omega) (wds 12 ar) 0)
      refine hK.out _ _ (⟨xN, pN'⟩) (fun hHeld => ?_)
      clear hK K
      try simp only [Act.put, List.setIfInBounds_toArray, List.set_cons_zero, List.set_cons_succ, List.getElem_toArray, List.getElem_cons_zero, List.getElem_cons_succ]
      refine wpAnyH_done (by kernel_rfl) ?_ _
      have HPI := hid (show PI _ b from ⟨1, g, pN', Or.inr ⟨rfl, HCP.out, HMZ0.out⟩⟩)
      clear xN pN'
      go_wp2_with fail
      refine bodyPost_ret (results_cell1 Tryz.results13 ⟨w.heap.size + 1, 0, none⟩ _ rfl (run_loadVar_mid _ (w.heap.size + 1) 0 39 (wds 12 ar) _ HR.out Tryz.underlying39 rfl (sizeV _))) rfl ?_
      exact ⟨_, rfl, hav, HPI.out, oN.out, kN.out⟩
end Go.Proofs.YtdepkfdceidikaaGreatDoor
