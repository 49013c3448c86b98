import Derived.Test.YtdepkfdceidikaaGreatDoorPpF
import Derived.Test.YtdepkfdceidikaaGreatDoorPqD
import Derived.Test.YtdepkfdceidikaaGreatDoorMnE
/-
  poseidon.Permutation.Permute: what the call does; an example.
-/
namespace Go.Proofs.YtdepkfdceidikaaGreatDoor
open Go.RowKit
set_option linter.unusedVariables false
set_option linter.unusedSimpArgs false


structure PeR (w : World) (b p0 p1 : Nat) (X : Nat → Int) (v : World) : Prop where
  x : ∃ f, BlkV v p0 39 (wds 12 f) ∧ VecZ f X
  z : BlkV v p1 39 (wds 12 z0)
  pi : PI v b
  o : Only b w v
  k : Kp b w v
set_option maxRecDepth 20000 in
set_option maxHeartbeats 1000000 in
theorem permute_c (b : Nat) (f : Nat → Int) (X : Nat → Int) (w : World) (hB : PI w b) (hX : VecZ f X) (hG : Glob w) (hlo : 0 < b ∧ 1 < b) :
    Calls Tryz.prog 15 #[.pointer (some ⟨b, 0, none⟩), .agg (wds 12 f).toArray] w fun e w' => ∃ c, e = .returned (.agg (wds 12 c).toArray) ∧ VecZ c (pmZ 65 X) ∧ PI w' b ∧ Only b w w' ∧ Kp b w w' := by
  have hz := zeroV
  have hlz := wds_len 12 z0
  have hlf := wds_len 12 f
  have hbp : b ≠ w.heap.size := by have := hB.size; omega
  have hbp1 : b ≠ w.heap.size + 1 := by have := hB.size; omega
  have e1 : (w.alloc (oF 39 12 f)).heap.size = w.heap.size + 1 := by simp
  have h0 := (oF_new w 39 12 f).alloc (oF 39 12 z0)
  have h1 := oF_new (w.alloc (oF 39 12 f)) 39 12 z0
  rw [e1] at h1
  have hb := ((Below.refl w.heap.size w).alloc (Nat.le_refl _) (oF 39 12 f)).alloc (by omega) (oF 39 12 z0)
  clear e1
  have R0 := hid (PeR.mk (X := pmZ 0 X) ⟨f, h0, hX⟩ h1 (hB.up hb) (Only.of (b := b) hb) (Kp.of hb))
  have HG := hid hG
  unfold oF at R0
  clear hX hG hB h0 h1 hb
  go_enter Tryz.func15, Tryz.ntmps15
  go_wp2_with fail
  generalize ((w.alloc _).alloc _) = w0 at *
  go_loopw [6] (fun i wr => ∃ k : Nat, k ≤ 65 ∧ i = .int .i64 k ∧ PeR w b (w.heap.size) (w.heap.size + 1) (pmZ k X) wr) (fun i _ => 65 - (intOf i).toNat)
  case atStart => exact ⟨0, by omega, rfl, R0.out⟩
  case round =>
    clear R0
    obtain ⟨k, hk, rfl, hrel⟩ := hrel
    by_cases hlt : k < 65
    · have i0 : (0 : Int) ≤ (k : Int) := by omega
      have i2 : (k : Int) < 65 := by omega
      obtain ⟨⟨h, h1, h2⟩, h3, h4, h5, h6⟩ := hrel
      have HX := hid h1.range
      have HS : Hid (∀ c, VecZ c (rdZ (pcI (k : Int)) (fulI (k : Int)) (pmZ k X)) → VecZ c (pmZ (k + 1) X)) := fun c hc => by
        rw [pcI_nat hlt, fulI_nat] at hc
        exact hc
      have H1 := hid h1
      have H2 := hid h2
      have H3 := hid h3
      have H4 := hid h4
      have H5 := hid h5
      have H6 := hid h6
      have hlh := wds_len 12 h
      clear h1 h2 h3 h4 h5 h6
      go_wp2_with (first
    | with_reducible refine wpList_load_mid rfl 39 (.tmp 3) rfl (w.heap.size) (0) rfl (wds 12 h) _ (by with_reducible exact HX.out) Tryz.underlying39 rfl (sizeV _) ?_
    | fail)
      refine (round_c b h (pmZ k X) (k : Int) wr H4.out H2.out (H5.out.globF HG.out hlo) hlo).mono ?_
      rintro e w2 ⟨c, rfl, hc, hpi, ho, hk'⟩
      have hs0 := H1.out.size
      have hs1 := H3.out.size
      have x2 := ho.blk H1.out (show w.heap.size ≠ b by omega)
      have z2 := ho.blk H3.out (show w.heap.size + 1 ≠ b by omega)
      have HT := hid (x2.thereW 0 12 c (by decide))
      have R2 : Hid (PeR w b (w.heap.size) (w.heap.size + 1) (pmZ (k + 1) X) (w2.setCells (w.heap.size) 0 (wds 12 c))) := hid ⟨⟨c, x2.lay0 c, HS.out c hc⟩, BlkV.put (by omega) _ _ _ z2, by
        obtain ⟨d, g, q1, q2⟩ := hpi
        exact ⟨d, g, BlkV.put (by omega) _ _ _ q1, q2⟩, (H5.out.trans ho).setsUp (Nat.le_refl _) _ _, (H6.out.trans hk').put (by omega) _ _⟩
      have hlc := wds_len 12 c
      clear x2 z2 hc hpi ho hk' H1 H2 H3 H4 H5 H6 HX HS
      go_wp2_with (first
    | with_reducible refine wpList_store_mid rfl 39 (.tmp 3) (.tmp 12) rfl (w.heap.size) (0) (wds 12 c).toArray rfl rfl (by with_reducible exact HT.out) (sizeVA _) (wds_all _ _) ?_
    | fail)
      go_roundw
      case rel => exact ⟨k + 1, by omega, by go_num, R2.out⟩
      case measure => simp [intOf]; omega
    · obtain rfl : k = 65 := by omega
      obtain ⟨⟨h, h1, h2⟩, h3, h4, h5, h6⟩ := hrel
      have HO := hid h1.range
      have HV := hid h2
      have HT := hid (h3.thereW 0 12 h (by decide))
      have HR := hid (h3.lay0 h).range
      have HPI : Hid (PI (wr.setCells (w.heap.size + 1) 0 (wds 12 h)) b) := by
        obtain ⟨d, g, q1, q2⟩ := h4
        exact ⟨d, g, BlkV.put (by omega) _ _ _ q1, q2⟩
      have HB := hid (h5.setsUp (show w.heap.size ≤ w.heap.size + 1 by omega) (wds 12 h) 0)
      have HK := hid (h6.put (show b ≠ w.heap.size + 1 by omega) (wds 12 h) 0)
      have hlh := wds_len 12 h
      clear h1 h2 h3 h4 h5 h6
      go_wp2_with (first
    | with_reducible refine wpList_load_mid rfl 39 (.tmp 3) rfl (w.heap.size) (0) rfl (wds 12 h) _ (by with_reducible exact HO.out) Tryz.underlying39 rfl (sizeV _) ?_
    | with_reducible refine wpList_store_mid rfl 39 (.tmp 4) (.tmp 14) rfl (w.heap.size + 1) (0) (wds 12 h).toArray rfl rfl (by with_reducible exact HT.out) (sizeVA _) (wds_all _ _) ?_
    | fail)
      refine bodyPost_ret (results_cell1 Tryz.results15 ⟨w.heap.size + 1, 0, none⟩ _ rfl (run_loadVar_mid _ (w.heap.size + 1) 0 39 (wds 12 h) _ HR.out Tryz.underlying39 rfl (sizeV _))) rfl ?_
      exact ⟨_, rfl, HV.out, HPI.out, HB.out, HK.out⟩
end Go.Proofs.YtdepkfdceidikaaGreatDoor
/-
  avouchlaw10.speaks: the walk.
-/
namespace Go.Proofs.YtdepkfdceidikaaGreatDoor
open Go.RowKit
set_option linter.unusedVariables false
set_option linter.unusedSimpArgs false


theorem from2_c (w : World) (hG : Glob w) : Calls Tryz.prog 26 #[.int .u64 2] w fun e w' => ∃ r, e = .returned r ∧ Ez r 2 ∧ Below w.heap.size w w' := fromUint64Z_c 2 w (by decide) hG
theorem from32_c (w : World) (hG : Glob w) : Calls Tryz.prog 26 #[.int .u64 32] w fun e w' => ∃ r, e = .returned r ∧ Ez r 32 ∧ Below w.heap.size w w' := fromUint64Z_c 32 w (by decide) hG
theorem pw5_2 : pw5 2 % pZ = 32 % pZ := by decide +kernel
theorem pw5_2n : pw5 2 % pZ ≠ 0 := by decide +kernel
theorem Glob.lo {w : World} (hG : Glob w) {p : Nat} (h : w.heap.size ≤ p) : 0 < p ∧ 1 < p := ⟨Nat.lt_of_lt_of_le hG.sizeP h, Nat.lt_of_lt_of_le hG.sizeR h⟩
theorem over_only {w w1 w2 : World} {p : Nat} (b1 : Below w.heap.size w w1) (ho : Only p w1 w2) (hp : w.heap.size ≤ p) : Below w.heap.size w w2 := b1.trans (ho.below hp b1.size)
set_option maxRecDepth 20000 in
set_option maxHeartbeats 1000000 in
theorem speaks10_c (w : World) (hG : Glob w) : Calls Tryz.prog 7 #[] w fun e w' => e = .returned (.bool true) ∧ Below w.heap.size w w' := by
  have hz := zeroV
  have hlz := wds_len 12 z0
  have HG := hid hG
  clear hG
  go_enter Tryz.func7, Tryz.ntmps7
  go_wp2_with fail
  refine (pnew_c w).mono ?_
  rintro e w1 ⟨p, rfl, hp, hpi, b1⟩
  go_wp2_with fail
  refine (permute_c p z0 (fun _ => 0) w1 hpi VecZ.zeros (HG.out.up b1) (HG.out.lo hp)).mono ?_
  rintro e w2 ⟨c, rfl, hc, hpi2, ho, hk'⟩
  have B2 := hid (over_only b1 ho hp)
  obtain ⟨n1, n2, n3⟩ := newRow w2 39 12 c
  have N1 := hid n1
  have HC := hid (hc.at_ 0 (by decide)).out
  have HL := hid (n2.sub 0 4 (by decide))
  have B3 := hid (bchain B2.out n3)
  obtain ⟨a, ha⟩ : ∃ a : Nat → Int, a = fun k => c (0 + k) := ⟨_, rfl⟩
  have HA : Hid (Ez (.agg (wds 4 a).toArray) (pmZ 65 (fun _ => 0) 0)) := by rw [ha]; exact HC.out
  rw [← ha] at HL
  have hla := wds_len 4 a
  have hlc := wds_len 12 c
  clear ha n1 n2 n3 hc hpi hpi2 ho hk' b1 hp HC B2
  unfold oF at N1 HL B3
  go_wp2_with (first
    | with_reducible refine wpList_store_mid rfl 39 (.tmp 2) (.tmp 8) rfl (w2.heap.size) 0 (wds 12 c).toArray rfl rfl (by with_reducible exact N1.out) (sizeVA _) (wds_all _ _) ?_
    | with_reducible refine wpList_load_mid rfl 37 (.tmp 9) rfl (w2.heap.size) 0 rfl (wds 4 a) _ (by with_reducible exact HL.out) Tryz.underlying37 rfl (sizeE _) ?_
    | fail)
  obtain ⟨w3, hw3⟩ : ∃ x, x = (w2.alloc (.cells (wds 12 z0).toArray 39)).setCells w2.heap.size 0 (wds 12 c) := ⟨_, rfl⟩
  rw [← hw3] at B3 ⊢
  clear hw3 N1 HL
  refine (isZero_f _ _ w3 HA.out pm_zero).mono ?_
  rintro e w4 ⟨rfl, b4⟩
  have B4 := hid (bchain B3.out b4)
  clear b4 B3
  go_wp2_with fail
  refine (from2_c w4 (HG.out.up B4.out)).mono ?_
  rintro e w5 ⟨r1, rfl, h1, b5⟩
  have B5 := hid (bchain B4.out b5)
  clear b5 B4
  go_wp2_with fail
  refine (power_c r1 2 w5 h1 (HG.out.up B5.out)).mono ?_
  rintro e w6 ⟨r2, rfl, h2, b6⟩
  have B6 := hid (bchain B5.out b6)
  clear b6 B5
  go_wp2_with fail
  refine (from32_c w6 (HG.out.up B6.out)).mono ?_
  rintro e w7 ⟨r3, rfl, h3, b7⟩
  have B7 := hid (bchain B6.out b7)
  clear b7 B6
  go_wp2_with fail
  refine (equal_t r2 r3 _ _ w7 h2 h3 pw5_2).mono ?_
  rintro e w8 ⟨rfl, b8⟩
  have B8 := hid (bchain B7.out b8)
  clear b8 B7
  go_wp2_with fail
  refine (from2_c w8 (HG.out.up B8.out)).mono ?_
  rintro e w9 ⟨r4, rfl, h4, b9⟩
  have B9 := hid (bchain B8.out b9)
  clear b9 B8
  go_wp2_with fail
  refine (power_c r4 2 w9 h4 (HG.out.up B9.out)).mono ?_
  rintro e w10 ⟨r5, rfl, h5, b10⟩
  have B10 := hid (bchain B9.out b10)
  clear b10 B9
  go_wp2_with fail
  refine (isZero_f _ _ w10 h5 pw5_2n).mono ?_
  rintro e w11 ⟨rfl, b11⟩
  have B11 := hid (bchain B10.out b11)
  clear b11 B10
  go_wp2_with fail
  go_ret
  exact ⟨rfl, B11.out⟩
end Go.Proofs.YtdepkfdceidikaaGreatDoor
/-
  avouchref10.Permute; three slices of bytes: avouchlaw10.few, Of, is: what each call does.
-/
namespace Go.Proofs.YtdepkfdceidikaaGreatDoor
open Go.RowKit
set_option linter.unusedVariables false
set_option linter.unusedSimpArgs false

set_option maxRecDepth 20000 in
set_option maxHeartbeats 1000000 in
theorem r10Permute_c (v vM vv : Value) (V : Nat → Int) (w : World) (hT : TabZ w v vM) (hV : DV w vv 3 V) :
    Calls Tryz.prog 16 #[.agg #[v, vM], vv] w fun e w' => ∃ u, e = .returned u ∧ DV w' u 3 (pmZ 65 V) ∧ Below w.heap.size w w' := by
  obtain ⟨bc, cc, bm, cm, rfl, rfl⟩ := hT.form
  have HT := hid hT
  have hb0 := (Below.refl w.heap.size w).alloc (Nat.le_refl _) (.cells #[(.slice (some ⟨bc, 0, none⟩) 195 cc), (.slice (some ⟨bm, 0, none⟩) 3 cm)] 32)
  have T0 := hid (BlkV.new w 32 [(.slice (some ⟨bc, 0, none⟩) 195 cc), (.slice (some ⟨bm, 0, none⟩) 3 cm)])
  have HV := hid (hV.up hb0)
  have HB := hid hb0
  clear hT hV hb0
  go_enter Tryz.func16, Tryz.ntmps16
  go_wp2_with fail
  generalize (w.alloc _) = w0 at *
  go_loopw [1, 5] (fun u i wr => ∃ k : Nat, k ≤ 65 ∧ i = .int .i64 k ∧ DV wr u 3 (pmZ k V) ∧ BlkV wr w.heap.size 32 [(.slice (some ⟨bc, 0, none⟩) 195 cc), (.slice (some ⟨bm, 0, none⟩) 3 cm)] ∧ Below w.heap.size w wr) (fun _ i _ => 65 - (intOf i).toNat)
  case atStart => exact ⟨0, by omega, rfl, HV.out, T0.out, HB.out⟩
  case round =>
    clear HV T0 HB
    obtain ⟨k, hk, rfl, hv, ht, hb⟩ := hrel
    by_cases hlt : k < 65
    · have i0 : (0 : Int) ≤ (k : Int) := by omega
      have i2 : (k : Int) < 65 := by omega
      have C0 := ht.cell (i := 0) (by simp)
      have C1 := ht.cell (i := 1) (by simp)
      simp only [List.getElem_cons_zero, List.getElem_cons_succ] at C0 C1
      have HV := hid hv
      have HB := hid hb
      have HTT := hid ht
      have HS : Hid (rdZ (pcI (k : Int)) (fulI (k : Int)) (pmZ k V) = pmZ (k + 1) V) := by
        show _ = _
        rw [pcI_nat hlt, fulI_nat]
        rfl
      clear hv hb ht
      go_wp2_with fail
      refine (r10Round_c _ _ u1 (k : Int) (pmZ k V) wr (HT.out.up HB.out) HV.out).mono ?_
      rintro e w4 ⟨d, rfl, hd, hb4⟩
      rw [HS.out] at hd
      have G0 := hid hd
      have G1 := hid (HTT.out.up hb4)
      have G2 := hid (bchain HB.out hb4)
      clear hd hb4 HV HB HTT HS C0 C1
      go_wp2_with fail
      go_roundw
      case rel => exact ⟨k + 1, by omega, by go_num, G0.out, G1.out, G2.out⟩
      case measure => simp [intOf]; omega
    · obtain rfl : k = 65 := by omega
      have HV := hid hv
      have HB := hid hb
      clear hv hb ht
      go_wp2_with fail
      go_ret
      exact ⟨_, rfl, HV.out, HB.out⟩
/-- Three slices that are read; none of them is longer than 40 bytes; their numbers. -/
structure N3 (w : World) (B : Nat) (A : Nat → Option Addr) (n : Nat → Nat) (l : Nat → List Nat) : Prop where
  at_ : ∀ i, i < 3 → Rd8 w B (A i) (n i) (l i)
theorem N3.below {w w' : World} {B B' : Nat} {A : Nat → Option Addr} {n : Nat → Nat} {l : Nat → List Nat} (h : N3 w B A n l) (hb : Below B' w w') (hB : B ≤ B') : N3 w' B A n l := ⟨fun i hi => (h.at_ i hi).below hb hB⟩
theorem N3.more {w : World} {B B' : Nat} {A : Nat → Option Addr} {n : Nat → Nat} {l : Nat → List Nat} (h : N3 w B A n l) (hB : B ≤ B') : N3 w B' A n l := ⟨fun i hi => (h.at_ i hi).more hB⟩
def Few3 (n : Nat → Nat) : Prop := ∀ i, i < 3 → n i ≤ 40
def num3 (l : Nat → List Nat) : Nat → Int := fun i => ((val 256 (l i) : Nat) : Int)
theorem index_3 (w : World) (A : Nat → Option Addr) (n c : Nat → Nat) {k : Nat} (hk : k < 3) : (Instr.index 23 (.agg #[.slice (A 0) (n 0) (c 0), .slice (A 1) (n 1) (c 1), .slice (A 2) (n 2) (c 2)]) (.int .i64 (k : Int))).run Tryz.prog w = .ok (.slice (A k) (n k) (c k)) w := by
  match k, hk with
  | 0, _ =>
    show _ = _
    kernel_rfl
  | 1, _ =>
    show _ = _
    kernel_rfl
  | 2, _ =>
    show _ = _
    kernel_rfl
set_option maxRecDepth 20000 in
set_option maxHeartbeats 1000000 in
theorem few3_t (A : Nat → Option Addr) (n c : Nat → Nat) (w : World) (h : Few3 n) : Calls Tryz.prog 8 #[.agg #[.slice (A 0) (n 0) (c 0), .slice (A 1) (n 1) (c 1), .slice (A 2) (n 2) (c 2)]] w fun e w' => e = .returned (.bool true) ∧ Below w.heap.size w w' := by
  have HB := hid ((Below.refl w.heap.size w).alloc (Nat.le_refl _) (.cells #[.slice (A 0) (n 0) (c 0), .slice (A 1) (n 1) (c 1), .slice (A 2) (n 2) (c 2)] 23))
  have q0 := h 0 (by decide)
  have d0 : decide (((n 0 : Nat) : Int) ≤ 40) = true := by simp; omega
  have q1 := h 1 (by decide)
  have d1 : decide (((n 1 : Nat) : Int) ≤ 40) = true := by simp; omega
  have q2 := h 2 (by decide)
  have d2 : decide (((n 2 : Nat) : Int) ≤ 40) = true := by simp; omega
  go_enter Tryz.func8, Tryz.ntmps8
  go_wp2_with fail
  go_ret
  exact ⟨rfl, HB.out⟩
set_option maxRecDepth 20000 in
set_option maxHeartbeats 1000000 in
theorem few3_f (A : Nat → Option Addr) (n c : Nat → Nat) (w : World) (h : ¬ Few3 n) : Calls Tryz.prog 8 #[.agg #[.slice (A 0) (n 0) (c 0), .slice (A 1) (n 1) (c 1), .slice (A 2) (n 2) (c 2)]] w fun e w' => e = .returned (.bool false) ∧ Below w.heap.size w w' := by
  have HB := hid ((Below.refl w.heap.size w).alloc (Nat.le_refl _) (.cells #[.slice (A 0) (n 0) (c 0), .slice (A 1) (n 1) (c 1), .slice (A 2) (n 2) (c 2)] 23))
  by_cases g0 : n 0 ≤ 40
  · have d0 : decide (((n 0 : Nat) : Int) ≤ 40) = true := by simp; omega
    by_cases g1 : n 1 ≤ 40
    · have d1 : decide (((n 1 : Nat) : Int) ≤ 40) = true := by simp; omega
      have g2 : ¬ n 2 ≤ 40 := fun q2 => h (fun i hi => by
        match i, hi with
        | 0, _ => exact g0
        | 1, _ => exact g1
        | 2, _ => exact q2)
      have d2 : decide (((n 2 : Nat) : Int) ≤ 40) = false := by simp; omega
      go_enter Tryz.func8, Tryz.ntmps8
      go_wp2_with fail
      go_ret
      exact ⟨rfl, HB.out⟩
    · have d1 : decide (((n 1 : Nat) : Int) ≤ 40) = false := by simp; omega
      go_enter Tryz.func8, Tryz.ntmps8
      go_wp2_with fail
      go_ret
      exact ⟨rfl, HB.out⟩
  · have d0 : decide (((n 0 : Nat) : Int) ≤ 40) = false := by simp; omega
    go_enter Tryz.func8, Tryz.ntmps8
    go_wp2_with fail
    go_ret
    exact ⟨rfl, HB.out⟩
end Go.Proofs.YtdepkfdceidikaaGreatDoor
/-
  avouchlaw10.Of: what the call does.
-/
namespace Go.Proofs.YtdepkfdceidikaaGreatDoor
open Go.RowKit
set_option linter.unusedVariables false
set_option linter.unusedSimpArgs false


/-- What Of's loop keeps: k elements, and m rows of digits. -/
structure OtR (w : World) (X : Nat → Int) (k m : Nat) (u : Value) (ds : List Value) (wr : World) : Prop where
  z : BlkV wr (w.heap.size + 1) 39 (wds 12 z0)
  x : ∃ s, BlkV wr (w.heap.size + 1 + 1) 39 (wds 12 s) ∧ VP X k s
  c : RowT 50 wr (w.heap.size + 3) u ds
  a : AllZF (w.heap.size + 3) wr ds X
  b : Below w.heap.size w wr
  el : ds.length = m
theorem OtR.up {w : World} {X : Nat → Int} {k m : Nat} {u : Value} {ds : List Value} {wr w' : World} (h : OtR w X k m u ds wr) (hb : Below wr.heap.size wr w') : OtR w X k m u ds w' := by
  obtain ⟨s, h1, h2⟩ := h.x
  exact ⟨h.z.up hb, ⟨s, h1.up hb, h2⟩, h.c.below hb, h.a.up hb, bchain h.b hb, h.el⟩
theorem OtR.there {w : World} {X : Nat → Int} {k m : Nat} {u : Value} {ds : List Value} {wr : World} (h : OtR w X k m u ds wr) (hk : k < 3) (g : Nat → Int) : wr.there (w.heap.size + 1 + 1) (k * 4) (wds 4 g).toArray.size := by
  obtain ⟨s, h1, h2⟩ := h.x
  exact h1.thereW (k * 4) 4 g (by omega)
theorem OtR.store {w : World} {X : Nat → Int} {k m : Nat} {u : Value} {ds : List Value} {wr : World} (h : OtR w X k m u ds wr) (hk : k < 3) {g : Nat → Int} (hg : Ez (.agg (wds 4 g).toArray) (X k)) : OtR w X (k + 1) m u ds (wr.setCells (w.heap.size + 1 + 1) (k * 4) (wds 4 g)) := by
  obtain ⟨s, h1, h2⟩ := h.x
  have ho : Only (w.heap.size + 1 + 1) wr (wr.setCells (w.heap.size + 1 + 1) (k * 4) (wds 4 g)) := (Only.refl _ _).sets _ _
  exact ⟨BlkV.put (by omega) _ _ _ h.z, ⟨_, h1.lay (k * 4) 4 g (by omega), h2.put hg⟩, h.c.only ho (by omega), h.a.only ho (by omega), below_cells (by omega) _ _ _ h.b, h.el⟩
theorem OtR.app {w : World} {X : Nat → Int} {k m : Nat} {u v' d : Value} {ds : List Value} {wr w' : World} (h : OtR w X k m u ds wr) (hd : DzF (w.heap.size + 3) wr d (X m)) (hr : RowT 50 w' (w.heap.size + 3) v' (ds ++ [d])) (hm : Moved wr w' u v') : OtR w X k (m + 1) v' (ds ++ [d]) w' := by
  obtain ⟨s, h1, h2⟩ := h.x
  have hs : w.heap.size + 3 ≤ wr.heap.size := by have := h.c.lt; have := h1.size; omega
  have hb := h.c.moved hm hs
  exact ⟨h.z.below hb (by omega), ⟨s, h1.below hb (by omega), h2⟩, hr, h.a.snoc (by rw [h.el]; exact hd) h.c hm, h.b.trans (hb.mono (by omega)), by rw [List.length_append, h.el]; rfl⟩
set_option maxRecDepth 20000 in
set_option maxHeartbeats 2000000 in
theorem of10_c (A : Nat → Option Addr) (n c : Nat → Nat) (l : Nat → List Nat) (w : World) (hN : N3 w w.heap.size A n l) (hF : Few3 n) (hG : Glob w) :
    Calls Tryz.prog 11 #[.agg #[.slice (A 0) (n 0) (c 0), .slice (A 1) (n 1) (c 1), .slice (A 2) (n 2) (c 2)]] w fun e w' => ∃ f r, e = .returned (.tuple #[.agg (wds 12 f).toArray, r]) ∧ VecZ f (num3 l) ∧ DV w' r 3 (num3 l) ∧ Below w.heap.size w w' := by
  have hz := zeroV
  have hlz := wds_len 12 z0
  have e1 : (w.alloc (.cells #[.slice (A 0) (n 0) (c 0), .slice (A 1) (n 1) (c 1), .slice (A 2) (n 2) (c 2)] 23)).heap.size = w.heap.size + 1 := by simp
  have e2 : ((w.alloc (.cells #[.slice (A 0) (n 0) (c 0), .slice (A 1) (n 1) (c 1), .slice (A 2) (n 2) (c 2)] 23)).alloc (oF 39 12 z0)).heap.size = w.heap.size + 1 + 1 := by simp
  have e3 : (((w.alloc (.cells #[.slice (A 0) (n 0) (c 0), .slice (A 1) (n 1) (c 1), .slice (A 2) (n 2) (c 2)] 23)).alloc (oF 39 12 z0)).alloc (oF 39 12 z0)).heap.size = w.heap.size + 3 := by simp
  have h2 := ((oF_new (w.alloc (.cells #[.slice (A 0) (n 0) (c 0), .slice (A 1) (n 1) (c 1), .slice (A 2) (n 2) (c 2)] 23)) 39 12 z0).alloc (oF 39 12 z0)).alloc (.cells #[] 50)
  have h3 := (oF_new ((w.alloc (.cells #[.slice (A 0) (n 0) (c 0), .slice (A 1) (n 1) (c 1), .slice (A 2) (n 2) (c 2)] 23)).alloc (oF 39 12 z0)) 39 12 z0).alloc (.cells #[] 50)
  have h4 := RowT.new 50 (((w.alloc (.cells #[.slice (A 0) (n 0) (c 0), .slice (A 1) (n 1) (c 1), .slice (A 2) (n 2) (c 2)] 23)).alloc (oF 39 12 z0)).alloc (oF 39 12 z0)) (w.heap.size + 3) (by omega)
  rw [e1] at h2
  rw [e2] at h3
  rw [e3] at h4
  have hb := ((((Below.refl w.heap.size w).alloc (Nat.le_refl _) (.cells #[.slice (A 0) (n 0) (c 0), .slice (A 1) (n 1) (c 1), .slice (A 2) (n 2) (c 2)] 23)).alloc (by omega) (oF 39 12 z0)).alloc (by omega) (oF 39 12 z0)).alloc (by omega) (.cells #[] 50)
  have R0 := hid (show OtR w (num3 l) 0 0 (.slice (some ⟨w.heap.size + 1 + 1 + 1, 0, none⟩) 0 0) [] _ from ⟨h2, ⟨z0, h3, VP.zero _ _⟩, h4, fun i hi => absurd hi (Nat.not_lt_zero i), hb, rfl⟩)
  have HN := hid hN
  have HF := hid hF
  have HG0 := hid hG
  clear h2 h3 h4 e1 e2 e3 hb hN hF hG
  unfold oF at R0
  go_enter Tryz.func11, Tryz.ntmps11
  go_wp2_with fail
  generalize ((((w.alloc _).alloc _).alloc _).alloc _) = w0 at *
  go_loopw [5, 10] (fun v i wr => ∃ k : Nat, ∃ ds : List Value, k ≤ 3 ∧ i = .int .i64 k ∧ OtR w (num3 l) k k v ds wr) (fun _ i _ => 3 - (intOf i).toNat)
  case atStart => exact ⟨0, [], by omega, rfl, R0.out⟩
  case round =>
    clear R0
    obtain ⟨k, ds, hk, rfl, hO⟩ := hrel
    by_cases hlt : k < 3
    · have i0 : (0 : Int) ≤ (k : Int) := by omega
      have i2 : (k : Int) < 3 := by omega
      have hix := fun v => index_3 v A n c hlt
      have hn40 := HF.out k hlt
      have hn1000 : n k ≤ 1000 := by omega
      have hvl : val 256 (l k) < 4294967296 ^ 30 := by
        have h := HN.out.at_ k hlt
        exact val40 h.lt (by rw [h.len]; exact hn40)
      have HO := hid hO
      clear hO
      go_wp2_with fail
      refine (fromWideZ_c (A k) (n k) (c k) (l k) wr (((HN.out.at_ k hlt).below HO.out.b (Nat.le_refl _)).more HO.out.b.size) hn1000 (HG0.out.up HO.out.b)).mono ?_
      rintro e w2 ⟨r1, rfl, he, b2⟩
      obtain ⟨gr, rfl⟩ := he.fn
      have h2 := HO.out.up b2
      have HT := hid (h2.there hlt gr)
      have H3 := hid (h2.store hlt (X := num3 l) he)
      clear h2 b2 HO he
      go_wp2_with (first
    | with_reducible refine wpList_store_mid rfl 37 (.tmp 17) (.tmp 16) rfl (w.heap.size + 1 + 1) (k * 4) (wds 4 gr).toArray rfl rfl (by with_reducible exact HT.out) (sizeEA _) (wds_all _ _) ?_
    | fail)
      obtain ⟨w3, hw3⟩ : ∃ x, x = w2.setCells (w.heap.size + 1 + 1) (k * 4) (wds 4 gr) := ⟨_, rfl⟩
      rw [← hw3] at H3 ⊢
      clear hw3 HT
      refine (dOfBytes_c (A k) (n k) (c k) (l k) w3 (((HN.out.at_ k hlt).below H3.out.b (Nat.le_refl _)).more H3.out.b.size) hn1000).mono ?_
      rintro e wx ⟨rx, rfl, hx, bx⟩
      have HOX := hid (H3.out.up bx)
      have HX := hid hx
      clear hx bx H3
      go_wp2_with fail
      refine (dModF_c rx _ wx HX.out hvl).mono ?_
      rintro e wy ⟨d, rfl, hd, bd⟩
      have hlow : w.heap.size + 3 ≤ wx.heap.size := by obtain ⟨s, q1, _⟩ := HOX.out.x; have := q1.size; omega
      have HOY := hid (HOX.out.up bd)
      have HDD := hid (hd.mono (B := w.heap.size + 3) hlow)
      have hds := hd.dz.sl
      obtain ⟨dA, dn, dc, rfl⟩ := hd.dz.form
      have hl : ds.length ≤ 1000 := by rw [HOY.out.el]; omega
      have hbase : Hid (w.heap.size + 3 ≤ wy.heap.size) := hid (by obtain ⟨s, q1, _⟩ := HOY.out.x; have := q1.size; omega)
      clear hd bd HOX HX hlow
      go_wp2_with (at_builtin; refine app_rowT 50 28 Tryz.underlying28 sl_info rfl (.tmp 18) (.tmp 22) rfl u5 (w.heap.size + 3) ds (.slice dA dn dc) rfl rfl HOY.out.c hl hbase.out hds ?_)
      intro v5 w5 hR5 hM5
      have HG := hid (HOY.out.app HDD.out hR5 hM5)
      clear hR5 hM5 HOY HDD hl hbase
      go_wp2_with fail
      go_roundw
      case rel => exact ⟨k + 1, _, by omega, by go_num, HG.out⟩
      case measure => simp [intOf]; omega
    · obtain rfl : k = 3 := by omega
      obtain ⟨f, h1, h2⟩ := hO.x
      have HV : Hid (VecZ f (num3 l)) := ⟨fun i hi => h2 i hi⟩
      have HO := hid h1.range
      have HT := hid (hO.z.thereW 0 12 f (by decide))
      have HR := hid (hO.z.lay0 f).range
      have ho : Only (w.heap.size + 1) wr (wr.setCells (w.heap.size + 1) 0 (wds 12 f)) := Only.sets _ _ _ (Only.refl _ _)
      have hro := hO.c.only ho (by omega)
      have hdv := hro.dv (Y := num3 l) (fun i hi => ((hO.a i hi).only ho (by omega)).dz)
      rw [hO.el] at hdv
      have HDV := hid hdv
      have HB := hid (below_cells (show w.heap.size ≤ w.heap.size + 1 by omega) (wds 12 f) 0 _ hO.b)
      have hlf := wds_len 12 f
      clear h1 h2 hO ho hro hdv
      go_wp2_with (first
    | with_reducible refine wpList_load_mid rfl 39 (.tmp 4) rfl (w.heap.size + 1 + 1) (0) rfl (wds 12 f) _ (by with_reducible exact HO.out) Tryz.underlying39 rfl (sizeV _) ?_
    | with_reducible refine wpList_store_mid rfl 39 (.tmp 2) (.tmp 25) rfl (w.heap.size + 1) (0) (wds 12 f).toArray rfl rfl (by with_reducible exact HT.out) (sizeVA _) (wds_all _ _) ?_
    | fail)
      refine bodyPost_ret (results_cell_tmp0 Tryz.results11 ⟨w.heap.size + 1, 0, none⟩ _ _ rfl (run_loadVar_mid _ (w.heap.size + 1) 0 39 (wds 12 f) _ HR.out Tryz.underlying39 rfl (sizeV _)) rfl) rfl ?_
      exact ⟨_, _, rfl, HV.out, HDV.out, HB.out⟩
end Go.Proofs.YtdepkfdceidikaaGreatDoor
