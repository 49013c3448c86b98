/-
  avouchlaw10.PoseidonUnlike: the walk.
-/
import Derived.Test.YtdepkfdceidikaaGreatDoorPrE
namespace Go.Proofs.YtdepkfdceidikaaGreatDoor
open Go.RowKit
set_option linter.unusedVariables false
set_option linter.unusedSimpArgs false

set_option maxRecDepth 100000 in
set_option maxHeartbeats 40000000 in
theorem poseidonUnlike_w (A0 : Nat → Option Addr) (n0 c0 : Nat → Nat) (l0 : Nat → List Nat) (A1 : Nat → Option Addr) (n1 c1 : Nat → Nat) (l1 : Nat → List Nat) (w : World) (hN0 : N3 w w.heap.size A0 n0 l0) (hN1 : N3 w w.heap.size A1 n1 l1) (hG : Glob w) :
    Calls Tryz.prog 5 #[.agg #[.slice (A0 0) (n0 0) (c0 0), .slice (A0 1) (n0 1) (c0 1), .slice (A0 2) (n0 2) (c0 2)], .agg #[.slice (A1 0) (n1 0) (c1 0), .slice (A1 1) (n1 1) (c1 1), .slice (A1 2) (n1 2) (c1 2)]] w fun e w' => e = .returned (.bool true) ∧ Below w.heap.size w w' := by
  have e1 : (w.alloc (.cells #[.slice (A0 0) (n0 0) (c0 0), .slice (A0 1) (n0 1) (c0 1), .slice (A0 2) (n0 2) (c0 2)] 23)).heap.size = w.heap.size + 1 := by simp
  have x0 := (BlkV.new w 23 [.slice (A0 0) (n0 0) (c0 0), .slice (A0 1) (n0 1) (c0 1), .slice (A0 2) (n0 2) (c0 2)]).alloc (.cells #[.slice (A1 0) (n1 0) (c1 0), .slice (A1 1) (n1 1) (c1 1), .slice (A1 2) (n1 2) (c1 2)] 23)
  have HX0 := hid x0
  have HN0 := hid hN0
  have x1 := BlkV.new (w.alloc (.cells #[.slice (A0 0) (n0 0) (c0 0), .slice (A0 1) (n0 1) (c0 1), .slice (A0 2) (n0 2) (c0 2)] 23)) 23 [.slice (A1 0) (n1 0) (c1 0), .slice (A1 1) (n1 1) (c1 1), .slice (A1 2) (n1 2) (c1 2)]
  rw [e1] at x1
  have HX1 := hid x1
  have HN1 := hid hN1
  have HB := hid (((Below.refl w.heap.size w).alloc (Nat.le_refl _) (.cells #[.slice (A0 0) (n0 0) (c0 0), .slice (A0 1) (n0 1) (c0 1), .slice (A0 2) (n0 2) (c0 2)] 23)).alloc (by omega) (.cells #[.slice (A1 0) (n1 0) (c1 0), .slice (A1 1) (n1 1) (c1 1), .slice (A1 2) (n1 2) (c1 2)] 23))
  have HG := hid hG
  clear x0 hN0 x1 hN1 e1 hG
  by_cases hF0 : Few3 n0
  · by_cases hF1 : Few3 n1
    · go_enter Tryz.func5, Tryz.ntmps5
      go_wp2_with fail
      generalize ((w.alloc _).alloc _) = w0 at *
      refine (speaks10_c w0 (HG.out.up HB.out)).mono ?_
      rintro e w1 ⟨rfl, b1⟩
      have HX0' := hid (HX0.out.up b1)
      clear HX0
      have HX0 := HX0'
      clear HX0'
      have HX1' := hid (HX1.out.up b1)
      clear HX1
      have HX1 := HX1'
      clear HX1'
      have HB' := hid (bchain HB.out b1)
      clear HB
      have HB := HB'
      clear HB' b1
      have C0 := HX0.out.cell (i := 0) (by simp)
      have C1 := HX0.out.cell (i := 1) (by simp)
      have C2 := HX0.out.cell (i := 2) (by simp)
      simp only [List.getElem_cons_zero, List.getElem_cons_succ] at C0 C1 C2
      go_wp2_with fail
      clear C0 C1 C2
      refine (few3_t A0 n0 c0 w1 hF0).mono ?_
      rintro e w1f0 ⟨rfl, bf0⟩
      have HX0' := hid (HX0.out.up bf0)
      clear HX0
      have HX0 := HX0'
      clear HX0'
      have HX1' := hid (HX1.out.up bf0)
      clear HX1
      have HX1 := HX1'
      clear HX1'
      have HB' := hid (bchain HB.out bf0)
      clear HB
      have HB := HB'
      clear HB' bf0
      have C0 := HX1.out.cell (i := 0) (by simp)
      have C1 := HX1.out.cell (i := 1) (by simp)
      have C2 := HX1.out.cell (i := 2) (by simp)
      simp only [List.getElem_cons_zero, List.getElem_cons_succ] at C0 C1 C2
      go_wp2_with fail
      clear C0 C1 C2
      refine (few3_t A1 n1 c1 w1f0 hF1).mono ?_
      rintro e w1f0f1 ⟨rfl, bf1⟩
      have HX0' := hid (HX0.out.up bf1)
      clear HX0
      have HX0 := HX0'
      clear HX0'
      have HX1' := hid (HX1.out.up bf1)
      clear HX1
      have HX1 := HX1'
      clear HX1'
      have HB' := hid (bchain HB.out bf1)
      clear HB
      have HB := HB'
      clear HB' bf1
      have hz := zeroV
      have hlz := wds_len 12 z0
      have hzv := hz
      go_wp2_with fail
      refine (pnew_c w1f0f1).mono ?_
      rintro e w3 ⟨p, rfl, hp, hpi, b3⟩
      have hpw : w.heap.size ≤ p := Nat.le_trans HB.out.size hp
      have HPI := hid hpi
      clear hpi hp
      have HX0' := hid (HX0.out.up b3)
      clear HX0
      have HX0 := HX0'
      clear HX0'
      have HX1' := hid (HX1.out.up b3)
      clear HX1
      have HX1 := HX1'
      clear HX1'
      have HB' := hid (bchain HB.out b3)
      clear HB
      have HB := HB'
      clear HB' b3
      have C0 := HX0.out.cell (i := 0) (by simp)
      have C1 := HX0.out.cell (i := 1) (by simp)
      have C2 := HX0.out.cell (i := 2) (by simp)
      simp only [List.getElem_cons_zero, List.getElem_cons_succ] at C0 C1 C2
      go_wp2_with fail
      clear C0 C1 C2
      refine (of10_c A0 n0 c0 l0 w3 ((HN0.out.below HB.out (Nat.le_refl _)).more HB.out.size) hF0 (HG.out.up HB.out)).mono ?_
      rintro e wo0 ⟨f0, rv0, rfl, hf0, hr0, bo0⟩
      have HF0 := hid hf0
      obtain ⟨br0, cr0, rfl, _, _⟩ := hr0.at_
      clear hf0 hr0
      have HX0' := hid (HX0.out.up bo0)
      clear HX0
      have HX0 := HX0'
      clear HX0'
      have HX1' := hid (HX1.out.up bo0)
      clear HX1
      have HX1 := HX1'
      clear HX1'
      have HPI' := hid (HPI.out.up bo0)
      clear HPI
      have HPI := HPI'
      clear HPI'
      have HB' := hid (bchain HB.out bo0)
      clear HB
      have HB := HB'
      clear HB' bo0
      obtain ⟨nn1, nn2, nn3⟩ := newRow wo0 39 12 f0
      have N1 := hid nn1
      have HY0 := hid nn2
      have hlf0 := wds_len 12 f0
      have hpl0 := HPI.out.size
      clear nn1 nn2
      have HX0' := hid (HX0.out.up nn3)
      clear HX0
      have HX0 := HX0'
      clear HX0'
      have HX1' := hid (HX1.out.up nn3)
      clear HX1
      have HX1 := HX1'
      clear HX1'
      have HPI' := hid (HPI.out.up nn3)
      clear HPI
      have HPI := HPI'
      clear HPI'
      have HB' := hid (bchain HB.out nn3)
      clear HB
      have HB := HB'
      clear HB' nn3
      unfold oF at N1 HY0 HPI HX0 HX1 HB
      have hstop0 : True := trivial
      have C0 := HX1.out.cell (i := 0) (by simp)
      have C1 := HX1.out.cell (i := 1) (by simp)
      have C2 := HX1.out.cell (i := 2) (by simp)
      simp only [List.getElem_cons_zero, List.getElem_cons_succ] at C0 C1 C2
      go_wp2_with (first
    | with_reducible refine wpList_store_mid rfl 39 (.tmp 6) (.tmp 32) rfl (wo0.heap.size) (0) (wds 12 f0).toArray rfl rfl (by with_reducible exact N1.out) (sizeVA _) (wds_all _ _) ?_
    | fail)
      clear C0 C1 C2
      obtain ⟨wm0, hw⟩ : ∃ x, x = (wo0.alloc (.cells (wds 12 z0).toArray 39)).setCells wo0.heap.size 0 (wds 12 f0) := ⟨_, rfl⟩
      rw [← hw] at HY0 HPI HX0 HX1 HB ⊢
      obtain ⟨p6, hp6⟩ : ∃ x, x = wo0.heap.size := ⟨_, rfl⟩
      rw [← hp6] at HY0 hpl0 ⊢
      clear hw hp6 N1
      refine (of10_c A1 n1 c1 l1 wm0 ((HN1.out.below HB.out (Nat.le_refl _)).more HB.out.size) hF1 (HG.out.up HB.out)).mono ?_
      rintro e wo1 ⟨f1, rv1, rfl, hf1, hr1, bo1⟩
      have HF1 := hid hf1
      obtain ⟨br1, cr1, rfl, _, _⟩ := hr1.at_
      clear hf1 hr1
      have HX0' := hid (HX0.out.up bo1)
      clear HX0
      have HX0 := HX0'
      clear HX0'
      have HX1' := hid (HX1.out.up bo1)
      clear HX1
      have HX1 := HX1'
      clear HX1'
      have HPI' := hid (HPI.out.up bo1)
      clear HPI
      have HPI := HPI'
      clear HPI'
      have HY0' := hid (HY0.out.up bo1)
      clear HY0
      have HY0 := HY0'
      clear HY0'
      have HB' := hid (bchain HB.out bo1)
      clear HB
      have HB := HB'
      clear HB' bo1
      obtain ⟨nn1, nn2, nn3⟩ := newRow wo1 39 12 f1
      have N1 := hid nn1
      have HY1 := hid nn2
      have hlf1 := wds_len 12 f1
      have hpl1 := HPI.out.size
      have hs6 := HY0.out.size
      clear nn1 nn2
      have HX0' := hid (HX0.out.up nn3)
      clear HX0
      have HX0 := HX0'
      clear HX0'
      have HX1' := hid (HX1.out.up nn3)
      clear HX1
      have HX1 := HX1'
      clear HX1'
      have HPI' := hid (HPI.out.up nn3)
      clear HPI
      have HPI := HPI'
      clear HPI'
      have HY0' := hid (HY0.out.up nn3)
      clear HY0
      have HY0 := HY0'
      clear HY0'
      have HB' := hid (bchain HB.out nn3)
      clear HB
      have HB := HB'
      clear HB' nn3
      unfold oF at N1 HY0 HY1 HPI HX0 HX1 HB
      clear HX0 HX1 hF0 hF1
      go_upto_region 6 with (first
    | with_reducible refine wpList_store_mid rfl 39 (.tmp 8) (.tmp 37) rfl (wo1.heap.size) (0) (wds 12 f1).toArray rfl rfl (by with_reducible exact N1.out) (sizeVA _) (wds_all _ _) ?_
    | fail)
      obtain ⟨wm1, hw⟩ : ∃ x, x = (wo1.alloc (.cells (wds 12 z0).toArray 39)).setCells wo1.heap.size 0 (wds 12 f1) := ⟨_, rfl⟩
      rw [← hw] at HY0 HY1 HPI HB ⊢
      obtain ⟨p8, hp8⟩ : ∃ x, x = wo1.heap.size := ⟨_, rfl⟩
      rw [← hp8] at HY1 hs6 hpl1 ⊢
      clear hw hp8 N1
      have h6 : p6 ≠ p := by omega
      have h8 : p8 ≠ p := by omega
      have h68 : p6 ≠ p8 := by omega
      have hlo := HG.out.lo hpw
      have U0 := hid (UnE.up (UnE.mk HY0.out HY1.out HPI.out (Below.refl wm1.heap.size wm1) ⟨HPI.out.size, HY0.out.size, HY1.out.size⟩) (Below.refl _ _))
      have HBM := hid HB.out
      clear HY0 HY1 HPI HB hpl0 hpl1 hs6
      obtain ⟨q, hq⟩ : ∃ q, q = eq3B (num3 l0) (num3 l1) := ⟨_, rfl⟩
      have HQ := hid hq
      clear hq
      go_cut [10] (fun s wx => s = .bool q ∧ UnE p p6 p8 f0 f1 wm1 wx)
      case first =>
        obtain ⟨a0, ha0⟩ : ∃ a : Nat → Int, a = fun k => f0 (0 * 4 + k) := ⟨_, rfl⟩
        have Ea0 : Hid (Ez (.agg (wds 4 a0).toArray) ((num3 l0) 0)) := by rw [ha0]; exact (HF0.out.at_ 0 (by decide)).out
        have Oa0 : Hid (∀ v, BlkV v p6 39 (wds 12 f0) → v.rangeAt p6 0 (wds 4 a0)) := fun v hv => by rw [ha0]; exact hv.sub (0 * 4) 4 (by decide)
        have hla0 := wds_len 4 a0
        clear ha0
        obtain ⟨a1, ha1⟩ : ∃ a : Nat → Int, a = fun k => f0 (1 * 4 + k) := ⟨_, rfl⟩
        have Ea1 : Hid (Ez (.agg (wds 4 a1).toArray) ((num3 l0) 1)) := by rw [ha1]; exact (HF0.out.at_ 1 (by decide)).out
        have Oa1 : Hid (∀ v, BlkV v p6 39 (wds 12 f0) → v.rangeAt p6 4 (wds 4 a1)) := fun v hv => by rw [ha1]; exact hv.sub (1 * 4) 4 (by decide)
        have hla1 := wds_len 4 a1
        clear ha1
        obtain ⟨a2, ha2⟩ : ∃ a : Nat → Int, a = fun k => f0 (2 * 4 + k) := ⟨_, rfl⟩
        have Ea2 : Hid (Ez (.agg (wds 4 a2).toArray) ((num3 l0) 2)) := by rw [ha2]; exact (HF0.out.at_ 2 (by decide)).out
        have Oa2 : Hid (∀ v, BlkV v p6 39 (wds 12 f0) → v.rangeAt p6 8 (wds 4 a2)) := fun v hv => by rw [ha2]; exact hv.sub (2 * 4) 4 (by decide)
        have hla2 := wds_len 4 a2
        clear ha2
        obtain ⟨b0, hb0⟩ : ∃ a : Nat → Int, a = fun k => f1 (0 * 4 + k) := ⟨_, rfl⟩
        have Eb0 : Hid (Ez (.agg (wds 4 b0).toArray) ((num3 l1) 0)) := by rw [hb0]; exact (HF1.out.at_ 0 (by decide)).out
        have Ob0 : Hid (∀ v, BlkV v p8 39 (wds 12 f1) → v.rangeAt p8 0 (wds 4 b0)) := fun v hv => by rw [hb0]; exact hv.sub (0 * 4) 4 (by decide)
        have hlb0 := wds_len 4 b0
        clear hb0
        obtain ⟨b1, hb1⟩ : ∃ a : Nat → Int, a = fun k => f1 (1 * 4 + k) := ⟨_, rfl⟩
        have Eb1 : Hid (Ez (.agg (wds 4 b1).toArray) ((num3 l1) 1)) := by rw [hb1]; exact (HF1.out.at_ 1 (by decide)).out
        have Ob1 : Hid (∀ v, BlkV v p8 39 (wds 12 f1) → v.rangeAt p8 4 (wds 4 b1)) := fun v hv => by rw [hb1]; exact hv.sub (1 * 4) 4 (by decide)
        have hlb1 := wds_len 4 b1
        clear hb1
        obtain ⟨b2, hb2⟩ : ∃ a : Nat → Int, a = fun k => f1 (2 * 4 + k) := ⟨_, rfl⟩
        have Eb2 : Hid (Ez (.agg (wds 4 b2).toArray) ((num3 l1) 2)) := by rw [hb2]; exact (HF1.out.at_ 2 (by decide)).out
        have Ob2 : Hid (∀ v, BlkV v p8 39 (wds 12 f1) → v.rangeAt p8 8 (wds 4 b2)) := fun v hv => by rw [hb2]; exact hv.sub (2 * 4) 4 (by decide)
        have hlb2 := wds_len 4 b2
        clear hb2
        by_cases q0 : (num3 l0) 0 % pZ = (num3 l1) 0 % pZ
        · by_cases q1 : (num3 l0) 1 % pZ = (num3 l1) 1 % pZ
          · by_cases q2 : (num3 l0) 2 % pZ = (num3 l1) 2 % pZ
            · have FA := hid (Oa0.out _ U0.out.x6)
              have FB := hid (Ob0.out _ U0.out.x8)
              go_wp2_with (first
    | with_reducible refine wpList_load_mid rfl 37 (.tmp 39) rfl (p6) (0) rfl (wds 4 a0) _ (by with_reducible exact FA.out) Tryz.underlying37 rfl (sizeE _) ?_
    | with_reducible refine wpList_load_mid rfl 37 (.tmp 41) rfl (p8) (0) rfl (wds 4 b0) _ (by with_reducible exact FB.out) Tryz.underlying37 rfl (sizeE _) ?_
    | fail)
              clear FA FB
              refine (equal_t _ _ _ _ wm1 Ea0.out Eb0.out q0).mono ?_
              rintro e wm1t ⟨rfl, bq⟩
              have U00 := hid (U0.out.up bq)
              clear bq U0
              have FA := hid (Oa1.out _ U00.out.x6)
              have FB := hid (Ob1.out _ U00.out.x8)
              go_wp2_with (first
    | refine wpList_load_midG (by rfl) 37 (.tmp 45) rfl (p6) (4) rfl (wds 4 a1) _ (by with_reducible exact FA.out) Tryz.underlying37 rfl (sizeE _) ?_
    | refine wpList_load_midG (by rfl) 37 (.tmp 47) rfl (p8) (4) rfl (wds 4 b1) _ (by with_reducible exact FB.out) Tryz.underlying37 rfl (sizeE _) ?_
    | fail)
              clear FA FB
              refine (equal_t _ _ _ _ wm1t Ea1.out Eb1.out q1).mono ?_
              rintro e wm1tt ⟨rfl, bq⟩
              have U001 := hid (U00.out.up bq)
              clear bq U00
              have FA := hid (Oa2.out _ U001.out.x6)
              have FB := hid (Ob2.out _ U001.out.x8)
              go_wp2_with (first
    | refine wpList_load_midG (by rfl) 37 (.tmp 52) rfl (p6) (8) rfl (wds 4 a2) _ (by with_reducible exact FA.out) Tryz.underlying37 rfl (sizeE _) ?_
    | refine wpList_load_midG (by rfl) 37 (.tmp 54) rfl (p8) (8) rfl (wds 4 b2) _ (by with_reducible exact FB.out) Tryz.underlying37 rfl (sizeE _) ?_
    | fail)
              clear FA FB
              refine (equal_t _ _ _ _ wm1tt Ea2.out Eb2.out q2).mono ?_
              rintro e wm1ttt ⟨rfl, bq⟩
              have U0012 := hid (U001.out.up bq)
              clear bq U001
              go_wp2_with fail
              go_meet
              exact ⟨by rw [HQ.out, eq3B_t (Eq3.of q0 q1 q2)], U0012.out⟩
            · have FA := hid (Oa0.out _ U0.out.x6)
              have FB := hid (Ob0.out _ U0.out.x8)
              go_wp2_with (first
    | with_reducible refine wpList_load_mid rfl 37 (.tmp 39) rfl (p6) (0) rfl (wds 4 a0) _ (by with_reducible exact FA.out) Tryz.underlying37 rfl (sizeE _) ?_
    | with_reducible refine wpList_load_mid rfl 37 (.tmp 41) rfl (p8) (0) rfl (wds 4 b0) _ (by with_reducible exact FB.out) Tryz.underlying37 rfl (sizeE _) ?_
    | fail)
              clear FA FB
              refine (equal_t _ _ _ _ wm1 Ea0.out Eb0.out q0).mono ?_
              rintro e wm1t ⟨rfl, bq⟩
              have U00 := hid (U0.out.up bq)
              clear bq U0
              have FA := hid (Oa1.out _ U00.out.x6)
              have FB := hid (Ob1.out _ U00.out.x8)
              go_wp2_with (first
    | refine wpList_load_midG (by rfl) 37 (.tmp 45) rfl (p6) (4) rfl (wds 4 a1) _ (by with_reducible exact FA.out) Tryz.underlying37 rfl (sizeE _) ?_
    | refine wpList_load_midG (by rfl) 37 (.tmp 47) rfl (p8) (4) rfl (wds 4 b1) _ (by with_reducible exact FB.out) Tryz.underlying37 rfl (sizeE _) ?_
    | fail)
              clear FA FB
              refine (equal_t _ _ _ _ wm1t Ea1.out Eb1.out q1).mono ?_
              rintro e wm1tt ⟨rfl, bq⟩
              have U001 := hid (U00.out.up bq)
              clear bq U00
              have FA := hid (Oa2.out _ U001.out.x6)
              have FB := hid (Ob2.out _ U001.out.x8)
              go_wp2_with (first
    | refine wpList_load_midG (by rfl) 37 (.tmp 52) rfl (p6) (8) rfl (wds 4 a2) _ (by with_reducible exact FA.out) Tryz.underlying37 rfl (sizeE _) ?_
    | refine wpList_load_midG (by rfl) 37 (.tmp 54) rfl (p8) (8) rfl (wds 4 b2) _ (by with_reducible exact FB.out) Tryz.underlying37 rfl (sizeE _) ?_
    | fail)
              clear FA FB
              refine (equal_f _ _ _ _ wm1tt Ea2.out Eb2.out q2).mono ?_
              rintro e wm1ttf ⟨rfl, bq⟩
              have U0012 := hid (U001.out.up bq)
              clear bq U001
              go_wp2_with fail
              go_meet
              exact ⟨by rw [HQ.out, eq3B_f (fun hq => q2 (hq 2 (by decide)))], U0012.out⟩
          · have FA := hid (Oa0.out _ U0.out.x6)
            have FB := hid (Ob0.out _ U0.out.x8)
            go_wp2_with (first
    | with_reducible refine wpList_load_mid rfl 37 (.tmp 39) rfl (p6) (0) rfl (wds 4 a0) _ (by with_reducible exact FA.out) Tryz.underlying37 rfl (sizeE _) ?_
    | with_reducible refine wpList_load_mid rfl 37 (.tmp 41) rfl (p8) (0) rfl (wds 4 b0) _ (by with_reducible exact FB.out) Tryz.underlying37 rfl (sizeE _) ?_
    | fail)
            clear FA FB
            refine (equal_t _ _ _ _ wm1 Ea0.out Eb0.out q0).mono ?_
            rintro e wm1t ⟨rfl, bq⟩
            have U00 := hid (U0.out.up bq)
            clear bq U0
            have FA := hid (Oa1.out _ U00.out.x6)
            have FB := hid (Ob1.out _ U00.out.x8)
            go_wp2_with (first
    | refine wpList_load_midG (by rfl) 37 (.tmp 45) rfl (p6) (4) rfl (wds 4 a1) _ (by with_reducible exact FA.out) Tryz.underlying37 rfl (sizeE _) ?_
    | refine wpList_load_midG (by rfl) 37 (.tmp 47) rfl (p8) (4) rfl (wds 4 b1) _ (by with_reducible exact FB.out) Tryz.underlying37 rfl (sizeE _) ?_
    | fail)
            clear FA FB
            refine (equal_f _ _ _ _ wm1t Ea1.out Eb1.out q1).mono ?_
            rintro e wm1tf ⟨rfl, bq⟩
            have U001 := hid (U00.out.up bq)
            clear bq U00
            go_wp2_with fail
            go_meet
            exact ⟨by rw [HQ.out, eq3B_f (fun hq => q1 (hq 1 (by decide)))], U001.out⟩
        · have FA := hid (Oa0.out _ U0.out.x6)
          have FB := hid (Ob0.out _ U0.out.x8)
          go_wp2_with (first
    | with_reducible refine wpList_load_mid rfl 37 (.tmp 39) rfl (p6) (0) rfl (wds 4 a0) _ (by with_reducible exact FA.out) Tryz.underlying37 rfl (sizeE _) ?_
    | with_reducible refine wpList_load_mid rfl 37 (.tmp 41) rfl (p8) (0) rfl (wds 4 b0) _ (by with_reducible exact FB.out) Tryz.underlying37 rfl (sizeE _) ?_
    | fail)
          clear FA FB
          refine (equal_f _ _ _ _ wm1 Ea0.out Eb0.out q0).mono ?_
          rintro e wm1f ⟨rfl, bq⟩
          have U00 := hid (U0.out.up bq)
          clear bq U0
          go_wp2_with fail
          go_meet
          exact ⟨by rw [HQ.out, eq3B_f (fun hq => q0 (hq 0 (by decide)))], U00.out⟩
      case rest =>
        obtain ⟨rfl, hU⟩ := hcut
        have hbc := hid (HBM.out.trans (hU.b.mono HBM.out.size))
        obtain ⟨wu, hwu⟩ : ∃ v, v = wc := ⟨_, rfl⟩
        rw [← hwu] at hU hbc ⊢
        have E0 := hid (UnE.mk hU.x6 hU.x8 hU.pi (Below.refl wu.heap.size wu) ⟨hU.pi.size, hU.x6.size, hU.x8.size⟩)
        clear hU hwu U0 HBM
        go_wp2_with fail
        have e0 := E0.out.up (Below.refl _ _).drew
        generalize hvd : wu.drew = wd0 at *
        refine wp_region_held_drew (S := UnE p p6 p8 f0 f1 wu) (by kernel_rfl) (by rw [hvd]; exact e0) (fun hHeld => ?_)
        rw [hvd] at hHeld ⊢
        refine wpAnyH_take (i := 0) (v := .agg (wds 12 f0).toArray) rfl (by kernel_rfl) (by kernel_rfl) (by kernel_rfl) (fun _ _ _ h => h) (yieldsIf_load_mid (by rfl) 39 (.tmp 6) rfl (p6) (0) rfl (wds 12 f0) _ (fun v hv => hv.x6.range) Tryz.underlying39 rfl (sizeV _)) (by with_reducible assumption) ?_
        simp only [Act.put, List.setIfInBounds_toArray, List.set_cons_zero, List.set_cons_succ, List.getElem_toArray, List.getElem_cons_zero, List.getElem_cons_succ]
        refine wpAnyH_take (i := 1) (v := .agg (wds 12 f1).toArray) rfl (by kernel_rfl) (by kernel_rfl) (by kernel_rfl) (fun _ _ _ h => h) (yieldsIf_load_mid (by rfl) 39 (.tmp 8) rfl (p8) (0) rfl (wds 12 f1) _ (fun v hv => hv.x8.range) Tryz.underlying39 rfl (sizeV _)) (by with_reducible assumption) ?_
        simp only [Act.put, List.setIfInBounds_toArray, List.set_cons_zero, List.set_cons_succ, List.getElem_toArray, List.getElem_cons_zero, List.getElem_cons_succ]
        refine wpAnyH_relist #[true, true, false, false, false, false] (by kernel_rfl) ?_
        apply join3 (F := fun (v : World) (pp : Nat) (pq : Nat) => (UnE p p6 p8 f0 f1 wu v) ∧ (NW wu v pp 39 12 f0) ∧ (NW wu v pq 39 12 f1) ∧ (pp ≠ pq))
        ·intro Ja1111
         apply join3 (F := fun (v : World) (pp : Nat) (pq : Nat) => (UnE p p6 p8 f0 f1 wu v) ∧ (NW wu v pp 39 12 f0) ∧ (NW wu v pq 39 12 z0) ∧ (pp ≠ pq))
         ·intro Ja1110
          apply join3 (F := fun (v : World) (pp : Nat) (pq : Nat) => (UnE p p6 p8 f0 f1 wu v) ∧ (NW wu v pp 39 12 z0) ∧ (NW wu v pq 39 12 z0) ∧ (pp ≠ pq))
          ·intro Ja1100
           apply join2 (F := fun (v : World) (pq : Nat) => (UnE p p6 p8 f0 f1 wu v) ∧ (NW wu v pq 39 12 z0))
           ·intro Ja0100
            apply join2 (F := fun (v : World) (pp : Nat) => (UnE p p6 p8 f0 f1 wu v) ∧ (NW wu v pp 39 12 z0))
            ·intro Ja1000
             have eB : UnE p p6 p8 f0 f1 wu wd0 := e0
             obtain ⟨v, hvv⟩ : ∃ x, x = wd0 := ⟨_, rfl⟩
             rw [← hvv] at eB ⊢
             clear hvv
             refine wpAnyH_ready (rs := [2, 3]) (by kernel_rfl) (by simp) ?_
             refine (AllReadyH.cons rfl (fun K hK => ?_) (AllReadyH.cons rfl (fun K hK => ?_) AllReadyH.nil))
             ·have zN := eB.new 39 12
              have eN := eB.up (balloc v (.cells (wds 12 z0).toArray 39))
              go_simp
              refine hK.out _ _ eN (fun _ => ?_)
              clear hK K
              generalize v.alloc (.cells (wds 12 z0).toArray 39) = vN at eN zN ⊢
              generalize v.heap.size = pp at zN ⊢
              refine wpAnyH_relist #[true, true, true, false, false, false] (by kernel_rfl) ?_
              try simp only [Act.put, List.setIfInBounds_toArray, List.set_cons_zero, List.set_cons_succ, List.getElem_toArray, List.getElem_cons_zero, List.getElem_cons_succ]
              exact Ja1000 vN pp ⟨eN, zN⟩
             ·have zN := eB.new 39 12
              have eN := eB.up (balloc v (.cells (wds 12 z0).toArray 39))
              go_simp
              refine hK.out _ _ eN (fun _ => ?_)
              clear hK K
              generalize v.alloc (.cells (wds 12 z0).toArray 39) = vN at eN zN ⊢
              generalize v.heap.size = pq at zN ⊢
              refine wpAnyH_relist #[true, true, false, true, false, false] (by kernel_rfl) ?_
              try simp only [Act.put, List.setIfInBounds_toArray, List.set_cons_zero, List.set_cons_succ, List.getElem_toArray, List.getElem_cons_zero, List.getElem_cons_succ]
              exact Ja0100 vN pq ⟨eN, zN⟩
            ·intro v pp hJ
             obtain ⟨eB, zp⟩ := hJ
             refine wpAnyH_ready (rs := [3]) (by kernel_rfl) (by simp) ?_
             refine (AllReadyH.cons rfl (fun K hK => ?_) AllReadyH.nil)
             have zN := eB.new 39 12
             have eN := eB.up (balloc v (.cells (wds 12 z0).toArray 39))
             have lzp := zp.bl.size
             have zpN := zp.up (balloc v (.cells (wds 12 z0).toArray 39))
             go_simp
             refine hK.out _ _ eN (fun _ => ?_)
             clear hK K
             generalize v.alloc (.cells (wds 12 z0).toArray 39) = vN at eN zN zpN ⊢
             generalize v.heap.size = pq at zN lzp ⊢
             refine wpAnyH_relist #[true, true, true, true, false, false] (by kernel_rfl) ?_
             try simp only [Act.put, List.setIfInBounds_toArray, List.set_cons_zero, List.set_cons_succ, List.getElem_toArray, List.getElem_cons_zero, List.getElem_cons_succ]
             exact Ja1100 vN pp pq ⟨eN, zpN, zN, (by omega)⟩
           ·intro v pq hJ
            obtain ⟨eB, zq⟩ := hJ
            refine wpAnyH_ready (rs := [2]) (by kernel_rfl) (by simp) ?_
            refine (AllReadyH.cons rfl (fun K hK => ?_) AllReadyH.nil)
            have zN := eB.new 39 12
            have eN := eB.up (balloc v (.cells (wds 12 z0).toArray 39))
            have lzq := zq.bl.size
            have zqN := zq.up (balloc v (.cells (wds 12 z0).toArray 39))
            go_simp
            refine hK.out _ _ eN (fun _ => ?_)
            clear hK K
            generalize v.alloc (.cells (wds 12 z0).toArray 39) = vN at eN zN zqN ⊢
            generalize v.heap.size = pp at zN lzq ⊢
            refine wpAnyH_relist #[true, true, true, true, false, false] (by kernel_rfl) ?_
            try simp only [Act.put, List.setIfInBounds_toArray, List.set_cons_zero, List.set_cons_succ, List.getElem_toArray, List.getElem_cons_zero, List.getElem_cons_succ]
            exact Ja1100 vN pp pq ⟨eN, zN, zqN, (by omega)⟩
          ·intro v pp pq hJ
           obtain ⟨eB, zp, zq, npq⟩ := hJ
           refine wpAnyH_ready (rs := [4]) (by kernel_rfl) (by simp) ?_
           refine (AllReadyH.cons rfl (fun K hK => ?_) AllReadyH.nil)
           refine ready_go (by rfl) ?_
           refine wp_store_mid 39 (.tmp 11) (.tmp 58) rfl pp 0 (wds 12 f0).toArray rfl rfl zp.there (sizeVA _) (wds_all _ _) ?_
           have eN := eB.put zp.le (wds 12 f0)
           have zN := zp.lay f0
           have zqN := zq.put zp.le (by omega) (wds 12 f0)
           refine hK.out _ _ eN (fun _ => ?_)
           clear hK K
           try change wpAnyH _ _ _ _ _ _ _ (World.setCells v pp 0 (wds 12 f0))
           generalize World.setCells v pp 0 (wds 12 f0) = vN at eN zN zqN ⊢
           refine wpAnyH_relist #[true, true, true, true, true, false] (by kernel_rfl) ?_
           try simp only [Act.put, List.setIfInBounds_toArray, List.set_cons_zero, List.set_cons_succ, List.getElem_toArray, List.getElem_cons_zero, List.getElem_cons_succ]
           exact Ja1110 vN pp pq ⟨eN, zN, zqN, npq⟩
         ·intro v pp pq hJ
          obtain ⟨eB, zp, zq, npq⟩ := hJ
          refine wpAnyH_ready (rs := [5]) (by kernel_rfl) (by simp) ?_
          refine (AllReadyH.cons rfl (fun K hK => ?_) AllReadyH.nil)
          refine ready_go (by rfl) ?_
          refine wp_store_mid 39 (.tmp 12) (.tmp 59) rfl pq 0 (wds 12 f1).toArray rfl rfl zq.there (sizeVA _) (wds_all _ _) ?_
          have eN := eB.put zq.le (wds 12 f1)
          have zN := zq.lay f1
          have zpN := zp.put zq.le (by omega) (wds 12 f1)
          refine hK.out _ _ eN (fun _ => ?_)
          clear hK K
          try change wpAnyH _ _ _ _ _ _ _ (World.setCells v pq 0 (wds 12 f1))
          generalize World.setCells v pq 0 (wds 12 f1) = vN at eN zN zpN ⊢
          refine wpAnyH_relist #[true, true, true, true, true, true] (by kernel_rfl) ?_
          try simp only [Act.put, List.setIfInBounds_toArray, List.set_cons_zero, List.set_cons_succ, List.getElem_toArray, List.getElem_cons_zero, List.getElem_cons_succ]
          exact Ja1111 vN pp pq ⟨eN, zpN, zN, npq⟩
        ·intro v pp pq hJ
         obtain ⟨eB, zp, zq, npq⟩ := hJ
         refine wpAnyH_done (by kernel_rfl) ?_ _
         have h11 : pp ≠ p := by have := zp.le; have := eB.lt; omega
         have h12 : pq ≠ p := by have := zq.le; have := eB.lt; omega
         have h611 : p6 ≠ pp := by have := zp.le; have := eB.lt; omega
         have h612 : p6 ≠ pq := by have := zq.le; have := eB.lt; omega
         have hwp : w.heap.size ≤ pp := Nat.le_trans hbc.out.size zp.le
         have hwq : w.heap.size ≤ pq := Nat.le_trans hbc.out.size zq.le
         have R0 := hid (UnT.mk eB.x6 zp.bl zq.bl eB.pi (bchain hbc.out eB.b))
         have hpq : pp ≠ pq := by omega
         clear eB zp zq
         go_wp2_with fail
         go_loopw [60] (fun i wr => ∃ k : Nat, ∃ g h : Nat → Int, k ≤ 65 ∧ i = .int .i64 k ∧ VecZ g (pmZ k (num3 l0)) ∧ VecZ h (pmZ k (num3 l1)) ∧ UnT w p p6 pp pq f0 g h wr) (fun i _ => 65 - (intOf i).toNat)
         case atStart => exact ⟨0, f0, f1, by omega, rfl, HF0.out, HF1.out, R0.out⟩
         case round =>
           clear R0
           obtain ⟨k, g, h, hk, rfl, hg, hh, hT⟩ := hrel
           by_cases hlt : k < 65
           · have i0 : (0 : Int) ≤ (k : Int) := by omega
             have i2 : (k : Int) < 65 := by omega
             have HGX := hid hg
             have HGY := hid hh
             have hlg := wds_len 12 g
             have hlh := wds_len 12 h
             obtain ⟨wl, hwl⟩ : ∃ x, x = wr := ⟨_, rfl⟩
             rw [← hwl] at hT ⊢
             have e0 := UnT.up hT (Below.refl _ _).drew
             clear hg hh hT hwl
             go_wp2_with fail
             go_cut [13] (fun s wx => ∃ g h : Nat → Int, s = .int .i64 k ∧ VecZ g (pmZ (k + 1) (num3 l0)) ∧ VecZ h (pmZ (k + 1) (num3 l1)) ∧ UnT w p p6 pp pq f0 g h wx)
             case first =>
               refine wp_region_held_drew (S := fun _ => True) (by kernel_rfl) trivial (fun hHeld => ?_)
               refine wpAnyH_take (i := 0) (v := ?_) rfl (by kernel_rfl) (by kernel_rfl) (by kernel_rfl) (fun _ _ _ h => h) (Or.inl ⟨by rfl, fun v hv => ?_⟩) (by with_reducible assumption) ?_
               rotate_left
               · go_simp
                 try with_reducible rfl
               simp only [Act.put, List.setIfInBounds_toArray, List.set_cons_zero, List.set_cons_succ, List.getElem_toArray, List.getElem_cons_zero, List.getElem_cons_succ]
               refine wpAnyH_take (i := 2) (v := ?_) rfl (by kernel_rfl) (by kernel_rfl) (by kernel_rfl) (fun _ _ _ h => h) (Or.inl ⟨by rfl, fun v hv => ?_⟩) (by with_reducible assumption) ?_
               rotate_left
               · go_simp
                 try with_reducible rfl
               simp only [Act.put, List.setIfInBounds_toArray, List.set_cons_zero, List.set_cons_succ, List.getElem_toArray, List.getElem_cons_zero, List.getElem_cons_succ]
               refine wpAnyH_take (i := 4) (v := ?_) rfl (by kernel_rfl) (by kernel_rfl) (by kernel_rfl) (fun _ _ _ h => h) (Or.inl ⟨by rfl, fun v hv => ?_⟩) (by with_reducible assumption) ?_
               rotate_left
               · go_simp
                 try with_reducible rfl
               simp only [Act.put, List.setIfInBounds_toArray, List.set_cons_zero, List.set_cons_succ, List.getElem_toArray, List.getElem_cons_zero, List.getElem_cons_succ]
               refine wpAnyH_take (i := 6) (v := ?_) rfl (by kernel_rfl) (by kernel_rfl) (by kernel_rfl) (fun _ _ _ h => h) (Or.inl ⟨by rfl, fun v hv => ?_⟩) (by with_reducible assumption) ?_
               rotate_left
               · go_simp
                 try with_reducible rfl
               simp only [Act.put, List.setIfInBounds_toArray, List.set_cons_zero, List.set_cons_succ, List.getElem_toArray, List.getElem_cons_zero, List.getElem_cons_succ]
               refine wpAnyH_ready (rs := [1, 5]) (by kernel_rfl) (by simp) ?_
               refine (AllReadyH.cons rfl (fun K hK => ?_) (AllReadyH.cons rfl (fun K hK => ?_) AllReadyH.nil))
               · refine ready_go (by rfl) ?_
                 refine wp_load_mid 39 (.tmp 11) rfl (pp) (0) rfl (wds 12 g) _ ((e0).x11.range) Tryz.underlying39 rfl (sizeV _) ?_
                 refine hK.out _ _ (trivial) (fun hHeld => ?_)
                 clear hK K
                 try simp only [Act.put, List.setIfInBounds_toArray, List.set_cons_zero, List.set_cons_succ, List.getElem_toArray, List.getElem_cons_zero, List.getElem_cons_succ]
                 refine wpAnyH_ready (rs := [3, 5]) (by kernel_rfl) (by simp) ?_
                 refine (AllReadyH.cons rfl (fun K hK => ?_) (AllReadyH.cons rfl (fun K hK => ?_) AllReadyH.nil))
                 · go_simp
                   go_at_call 13
                   with_reducible refine (round_c p g _ (k : Int) wl.drew (e0).pi HGX.out (HG.out.up (e0).b) hlo).mono ?_
                   rintro e wu2 ⟨g2, rfl, hg2, hqu2, hou2, hku2⟩
                   have e_u2 := UnT.onl e0 h6 h11 h12 hpw hqu2 hou2
                   clear hqu2 hou2 hku2
                   try dsimp only
                   refine hK.out _ _ (trivial) (fun hHeld => ?_)
                   clear hK K
                   try simp only [Act.put, List.setIfInBounds_toArray, List.set_cons_zero, List.set_cons_succ, List.getElem_toArray, List.getElem_cons_zero, List.getElem_cons_succ]
                   refine wpAnyH_ready (rs := [5]) (by kernel_rfl) (by simp) ?_
                   refine (AllReadyH.cons rfl (fun K hK => ?_) AllReadyH.nil)
                   refine ready_go (by rfl) ?_
                   refine wp_load_mid 39 (.tmp 12) rfl (pq) (0) rfl (wds 12 h) _ ((e_u2).x12.range) Tryz.underlying39 rfl (sizeV _) ?_
                   refine hK.out _ _ (trivial) (fun hHeld => ?_)
                   clear hK K
                   try simp only [Act.put, List.setIfInBounds_toArray, List.set_cons_zero, List.set_cons_succ, List.getElem_toArray, List.getElem_cons_zero, List.getElem_cons_succ]
                   refine wpAnyH_ready (rs := [7]) (by kernel_rfl) (by simp) ?_
                   refine (AllReadyH.cons rfl (fun K hK => ?_) AllReadyH.nil)
                   go_simp
                   go_at_call 13
                   with_reducible refine (round_c p h _ (k : Int) wu2 (e_u2).pi HGY.out (HG.out.up (e_u2).b) hlo).mono ?_
                   rintro e wu4 ⟨h2, rfl, hh2, hqu4, hou4, hku4⟩
                   have e_u4 := UnT.onl e_u2 h6 h11 h12 hpw hqu4 hou4
                   clear hqu4 hou4 hku4
                   try dsimp only
                   refine hK.out _ _ (trivial) (fun hHeld => ?_)
                   clear hK K
                   try simp only [Act.put, List.setIfInBounds_toArray, List.set_cons_zero, List.set_cons_succ, List.getElem_toArray, List.getElem_cons_zero, List.getElem_cons_succ]
                   refine wpAnyH_ready (rs := [8]) (by kernel_rfl) (by simp) ?_
                   refine (AllReadyH.cons rfl (fun K hK => ?_) AllReadyH.nil)
                   refine ready_go (by rfl) ?_
                   refine wp_store_mid 39 (.tmp 11) (.tmp 66) rfl (pp) (0) (wds 12 g2).toArray rfl rfl ((e_u4).x11.thereW 0 12 g2 (by decide)) (sizeVA _) (wds_all _ _) ?_
                   have eS := UnT.s11 e_u4 h611 hpq.symm h11.symm hwp g2
                   refine hK.out _ _ (trivial) (fun hHeld => ?_)
                   clear hK K
                   try simp only [Act.put, List.setIfInBounds_toArray, List.set_cons_zero, List.set_cons_succ, List.getElem_toArray, List.getElem_cons_zero, List.getElem_cons_succ]
                   refine wpAnyH_ready (rs := [9]) (by kernel_rfl) (by simp) ?_
                   refine (AllReadyH.cons rfl (fun K hK => ?_) AllReadyH.nil)
                   refine ready_go (by rfl) ?_
                   refine wp_store_mid 39 (.tmp 12) (.tmp 70) rfl (pq) (0) (wds 12 h2).toArray rfl rfl ((eS).x12.thereW 0 12 h2 (by decide)) (sizeVA _) (wds_all _ _) ?_
                   have eR := UnT.s12 eS h612 hpq h12.symm hwq h2
                   refine hK.out _ _ (trivial) (fun hHeld => ?_)
                   clear hK K
                   try simp only [Act.put, List.setIfInBounds_toArray, List.set_cons_zero, List.set_cons_succ, List.getElem_toArray, List.getElem_cons_zero, List.getElem_cons_succ]
                   refine wpAnyH_done (by kernel_rfl) ?_ _
                   rw [rd_pm hlt] at hg2 hh2
                   go_wp2_with fail
                   go_meet
                   exact ⟨g2, h2, rfl, hg2, hh2, eR⟩
                 · refine ready_go (by rfl) ?_
                   refine wp_load_mid 39 (.tmp 12) rfl (pq) (0) rfl (wds 12 h) _ ((e0).x12.range) Tryz.underlying39 rfl (sizeV _) ?_
                   refine hK.out _ _ (trivial) (fun hHeld => ?_)
                   clear hK K
                   try simp only [Act.put, List.setIfInBounds_toArray, List.set_cons_zero, List.set_cons_succ, List.getElem_toArray, List.getElem_cons_zero, List.getElem_cons_succ]
                   refine wpAnyH_ready (rs := [3]) (by kernel_rfl) (by simp) ?_
                   refine (AllReadyH.cons rfl (fun K hK => ?_) AllReadyH.nil)
                   go_simp
                   go_at_call 13
                   with_reducible refine (round_c p g _ (k : Int) wl.drew (e0).pi HGX.out (HG.out.up (e0).b) hlo).mono ?_
                   rintro e wu8 ⟨g2, rfl, hg2, hqu8, hou8, hku8⟩
                   have e_u8 := UnT.onl e0 h6 h11 h12 hpw hqu8 hou8
                   clear hqu8 hou8 hku8
                   try dsimp only
                   refine hK.out _ _ (trivial) (fun hHeld => ?_)
                   clear hK K
                   try simp only [Act.put, List.setIfInBounds_toArray, List.set_cons_zero, List.set_cons_succ, List.getElem_toArray, List.getElem_cons_zero, List.getElem_cons_succ]
                   refine wpAnyH_ready (rs := [7]) (by kernel_rfl) (by simp) ?_
                   refine (AllReadyH.cons rfl (fun K hK => ?_) AllReadyH.nil)
                   go_simp
                   go_at_call 13
                   with_reducible refine (round_c p h _ (k : Int) wu8 (e_u8).pi HGY.out (HG.out.up (e_u8).b) hlo).mono ?_
                   rintro e wu9 ⟨h2, rfl, hh2, hqu9, hou9, hku9⟩
                   have e_u9 := UnT.onl e_u8 h6 h11 h12 hpw hqu9 hou9
                   clear hqu9 hou9 hku9
                   try dsimp only
                   refine hK.out _ _ (trivial) (fun hHeld => ?_)
                   clear hK K
                   try simp only [Act.put, List.setIfInBounds_toArray, List.set_cons_zero, List.set_cons_succ, List.getElem_toArray, List.getElem_cons_zero, List.getElem_cons_succ]
                   refine wpAnyH_ready (rs := [8]) (by kernel_rfl) (by simp) ?_
                   refine (AllReadyH.cons rfl (fun K hK => ?_) AllReadyH.nil)
                   refine ready_go (by rfl) ?_
                   refine wp_store_mid 39 (.tmp 11) (.tmp 66) rfl (pp) (0) (wds 12 g2).toArray rfl rfl ((e_u9).x11.thereW 0 12 g2 (by decide)) (sizeVA _) (wds_all _ _) ?_
                   have eS := UnT.s11 e_u9 h611 hpq.symm h11.symm hwp g2
                   refine hK.out _ _ (trivial) (fun hHeld => ?_)
                   clear hK K
                   try simp only [Act.put, List.setIfInBounds_toArray, List.set_cons_zero, List.set_cons_succ, List.getElem_toArray, List.getElem_cons_zero, List.getElem_cons_succ]
                   refine wpAnyH_ready (rs := [9]) (by kernel_rfl) (by simp) ?_
                   refine (AllReadyH.cons rfl (fun K hK => ?_) AllReadyH.nil)
                   refine ready_go (by rfl) ?_
                   refine wp_store_mid 39 (.tmp 12) (.tmp 70) rfl (pq) (0) (wds 12 h2).toArray rfl rfl ((eS).x12.thereW 0 12 h2 (by decide)) (sizeVA _) (wds_all _ _) ?_
                   have eR := UnT.s12 eS h612 hpq h12.symm hwq h2
                   refine hK.out _ _ (trivial) (fun hHeld => ?_)
                   clear hK K
                   try simp only [Act.put, List.setIfInBounds_toArray, List.set_cons_zero, List.set_cons_succ, List.getElem_toArray, List.getElem_cons_zero, List.getElem_cons_succ]
                   refine wpAnyH_done (by kernel_rfl) ?_ _
                   rw [rd_pm hlt] at hg2 hh2
                   go_wp2_with fail
                   go_meet
                   exact ⟨g2, h2, rfl, hg2, hh2, eR⟩
               · refine ready_go (by rfl) ?_
                 refine wp_load_mid 39 (.tmp 12) rfl (pq) (0) rfl (wds 12 h) _ ((e0).x12.range) Tryz.underlying39 rfl (sizeV _) ?_
                 refine hK.out _ _ (trivial) (fun hHeld => ?_)
                 clear hK K
                 try simp only [Act.put, List.setIfInBounds_toArray, List.set_cons_zero, List.set_cons_succ, List.getElem_toArray, List.getElem_cons_zero, List.getElem_cons_succ]
                 refine wpAnyH_ready (rs := [1]) (by kernel_rfl) (by simp) ?_
                 refine (AllReadyH.cons rfl (fun K hK => ?_) AllReadyH.nil)
                 refine ready_go (by rfl) ?_
                 refine wp_load_mid 39 (.tmp 11) rfl (pp) (0) rfl (wds 12 g) _ ((e0).x11.range) Tryz.underlying39 rfl (sizeV _) ?_
                 refine hK.out _ _ (trivial) (fun hHeld => ?_)
                 clear hK K
                 try simp only [Act.put, List.setIfInBounds_toArray, List.set_cons_zero, List.set_cons_succ, List.getElem_toArray, List.getElem_cons_zero, List.getElem_cons_succ]
                 refine wpAnyH_ready (rs := [3]) (by kernel_rfl) (by simp) ?_
                 refine (AllReadyH.cons rfl (fun K hK => ?_) AllReadyH.nil)
                 go_simp
                 go_at_call 13
                 with_reducible refine (round_c p g _ (k : Int) wl.drew (e0).pi HGX.out (HG.out.up (e0).b) hlo).mono ?_
                 rintro e wu14 ⟨g2, rfl, hg2, hqu14, hou14, hku14⟩
                 have e_u14 := UnT.onl e0 h6 h11 h12 hpw hqu14 hou14
                 clear hqu14 hou14 hku14
                 try dsimp only
                 refine hK.out _ _ (trivial) (fun hHeld => ?_)
                 clear hK K
                 try simp only [Act.put, List.setIfInBounds_toArray, List.set_cons_zero, List.set_cons_succ, List.getElem_toArray, List.getElem_cons_zero, List.getElem_cons_succ]
                 refine wpAnyH_ready (rs := [7]) (by kernel_rfl) (by simp) ?_
                 refine (AllReadyH.cons rfl (fun K hK => ?_) AllReadyH.nil)
                 go_simp
                 go_at_call 13
                 with_reducible refine (round_c p h _ (k : Int) wu14 (e_u14).pi HGY.out (HG.out.up (e_u14).b) hlo).mono ?_
                 rintro e wu15 ⟨h2, rfl, hh2, hqu15, hou15, hku15⟩
                 have e_u15 := UnT.onl e_u14 h6 h11 h12 hpw hqu15 hou15
                 clear hqu15 hou15 hku15
                 try dsimp only
                 refine hK.out _ _ (trivial) (fun hHeld => ?_)
                 clear hK K
                 try simp only [Act.put, List.setIfInBounds_toArray, List.set_cons_zero, List.set_cons_succ, List.getElem_toArray, List.getElem_cons_zero, List.getElem_cons_succ]
                 refine wpAnyH_ready (rs := [8]) (by kernel_rfl) (by simp) ?_
                 refine (AllReadyH.cons rfl (fun K hK => ?_) AllReadyH.nil)
                 refine ready_go (by rfl) ?_
                 refine wp_store_mid 39 (.tmp 11) (.tmp 66) rfl (pp) (0) (wds 12 g2).toArray rfl rfl ((e_u15).x11.thereW 0 12 g2 (by decide)) (sizeVA _) (wds_all _ _) ?_
                 have eS := UnT.s11 e_u15 h611 hpq.symm h11.symm hwp g2
                 refine hK.out _ _ (trivial) (fun hHeld => ?_)
                 clear hK K
                 try simp only [Act.put, List.setIfInBounds_toArray, List.set_cons_zero, List.set_cons_succ, List.getElem_toArray, List.getElem_cons_zero, List.getElem_cons_succ]
                 refine wpAnyH_ready (rs := [9]) (by kernel_rfl) (by simp) ?_
                 refine (AllReadyH.cons rfl (fun K hK => ?_) AllReadyH.nil)
                 refine ready_go (by rfl) ?_
                 refine wp_store_mid 39 (.tmp 12) (.tmp 70) rfl (pq) (0) (wds 12 h2).toArray rfl rfl ((eS).x12.thereW 0 12 h2 (by decide)) (sizeVA _) (wds_all _ _) ?_
                 have eR := UnT.s12 eS h612 hpq h12.symm hwq h2
                 refine hK.out _ _ (trivial) (fun hHeld => ?_)
                 clear hK K
                 try simp only [Act.put, List.setIfInBounds_toArray, List.set_cons_zero, List.set_cons_succ, List.getElem_toArray, List.getElem_cons_zero, List.getElem_cons_succ]
                 refine wpAnyH_done (by kernel_rfl) ?_ _
                 rw [rd_pm hlt] at hg2 hh2
                 go_wp2_with fail
                 go_meet
                 exact ⟨g2, h2, rfl, hg2, hh2, eR⟩
             case rest =>
               clear e0 HGX HGY hlg hlh
               obtain ⟨g, h, rfl, hg, hh, hT⟩ := hcut
               have HGX := hid hg
               have HGY := hid hh
               obtain ⟨wm, hwm⟩ : ∃ x, x = wc := ⟨_, rfl⟩
               rw [← hwm] at hT ⊢
               have T0 := hid hT
               clear hg hh hT hwm
               go_upto_region 12 with fail
               go_cut [91] (fun s wx => s = .bool false ∧ UnT w p p6 pp pq f0 g h wx)
               case first =>
                 obtain ⟨a0, ha0⟩ : ∃ a : Nat → Int, a = fun k => g (0 * 4 + k) := ⟨_, rfl⟩
                 have Ea0 : Hid (Ez (.agg (wds 4 a0).toArray) ((pmZ (k + 1) (num3 l0)) 0)) := by rw [ha0]; exact (HGX.out.at_ 0 (by decide)).out
                 have Oa0 : Hid (∀ v, BlkV v pp 39 (wds 12 g) → v.rangeAt pp 0 (wds 4 a0)) := fun v hv => by rw [ha0]; exact hv.sub (0 * 4) 4 (by decide)
                 have hla0 := wds_len 4 a0
                 clear ha0
                 obtain ⟨a1, ha1⟩ : ∃ a : Nat → Int, a = fun k => g (1 * 4 + k) := ⟨_, rfl⟩
                 have Ea1 : Hid (Ez (.agg (wds 4 a1).toArray) ((pmZ (k + 1) (num3 l0)) 1)) := by rw [ha1]; exact (HGX.out.at_ 1 (by decide)).out
                 have Oa1 : Hid (∀ v, BlkV v pp 39 (wds 12 g) → v.rangeAt pp 4 (wds 4 a1)) := fun v hv => by rw [ha1]; exact hv.sub (1 * 4) 4 (by decide)
                 have hla1 := wds_len 4 a1
                 clear ha1
                 obtain ⟨a2, ha2⟩ : ∃ a : Nat → Int, a = fun k => g (2 * 4 + k) := ⟨_, rfl⟩
                 have Ea2 : Hid (Ez (.agg (wds 4 a2).toArray) ((pmZ (k + 1) (num3 l0)) 2)) := by rw [ha2]; exact (HGX.out.at_ 2 (by decide)).out
                 have Oa2 : Hid (∀ v, BlkV v pp 39 (wds 12 g) → v.rangeAt pp 8 (wds 4 a2)) := fun v hv => by rw [ha2]; exact hv.sub (2 * 4) 4 (by decide)
                 have hla2 := wds_len 4 a2
                 clear ha2
                 obtain ⟨b0, hb0⟩ : ∃ a : Nat → Int, a = fun k => h (0 * 4 + k) := ⟨_, rfl⟩
                 have Eb0 : Hid (Ez (.agg (wds 4 b0).toArray) ((pmZ (k + 1) (num3 l1)) 0)) := by rw [hb0]; exact (HGY.out.at_ 0 (by decide)).out
                 have Ob0 : Hid (∀ v, BlkV v pq 39 (wds 12 h) → v.rangeAt pq 0 (wds 4 b0)) := fun v hv => by rw [hb0]; exact hv.sub (0 * 4) 4 (by decide)
                 have hlb0 := wds_len 4 b0
                 clear hb0
                 obtain ⟨b1, hb1⟩ : ∃ a : Nat → Int, a = fun k => h (1 * 4 + k) := ⟨_, rfl⟩
                 have Eb1 : Hid (Ez (.agg (wds 4 b1).toArray) ((pmZ (k + 1) (num3 l1)) 1)) := by rw [hb1]; exact (HGY.out.at_ 1 (by decide)).out
                 have Ob1 : Hid (∀ v, BlkV v pq 39 (wds 12 h) → v.rangeAt pq 4 (wds 4 b1)) := fun v hv => by rw [hb1]; exact hv.sub (1 * 4) 4 (by decide)
                 have hlb1 := wds_len 4 b1
                 clear hb1
                 obtain ⟨b2, hb2⟩ : ∃ a : Nat → Int, a = fun k => h (2 * 4 + k) := ⟨_, rfl⟩
                 have Eb2 : Hid (Ez (.agg (wds 4 b2).toArray) ((pmZ (k + 1) (num3 l1)) 2)) := by rw [hb2]; exact (HGY.out.at_ 2 (by decide)).out
                 have Ob2 : Hid (∀ v, BlkV v pq 39 (wds 12 h) → v.rangeAt pq 8 (wds 4 b2)) := fun v hv => by rw [hb2]; exact hv.sub (2 * 4) 4 (by decide)
                 have hlb2 := wds_len 4 b2
                 clear hb2
                 have HQ2 : Hid (q = eq3B (pmZ (k + 1) (num3 l0)) (pmZ (k + 1) (num3 l1))) := by show _ = _; rw [HQ.out, eq3B_pm]
                 by_cases q0 : (pmZ (k + 1) (num3 l0)) 0 % pZ = (pmZ (k + 1) (num3 l1)) 0 % pZ
                 · by_cases q1 : (pmZ (k + 1) (num3 l0)) 1 % pZ = (pmZ (k + 1) (num3 l1)) 1 % pZ
                   · by_cases q2 : (pmZ (k + 1) (num3 l0)) 2 % pZ = (pmZ (k + 1) (num3 l1)) 2 % pZ
                     · have FA := hid (Oa0.out _ T0.out.x11)
                       have FB := hid (Ob0.out _ T0.out.x12)
                       go_wp2_with (first
    | with_reducible refine wpList_load_mid rfl 37 (.tmp 71) rfl (pp) (0) rfl (wds 4 a0) _ (by with_reducible exact FA.out) Tryz.underlying37 rfl (sizeE _) ?_
    | with_reducible refine wpList_load_mid rfl 37 (.tmp 73) rfl (pq) (0) rfl (wds 4 b0) _ (by with_reducible exact FB.out) Tryz.underlying37 rfl (sizeE _) ?_
    | fail)
                       clear FA FB
                       refine (equal_t _ _ _ _ wm Ea0.out Eb0.out q0).mono ?_
                       rintro e wmt ⟨rfl, bq⟩
                       have T00 := hid (T0.out.up bq)
                       clear bq T0
                       have FA := hid (Oa1.out _ T00.out.x11)
                       have FB := hid (Ob1.out _ T00.out.x12)
                       go_wp2_with (first
    | refine wpList_load_midG (by rfl) 37 (.tmp 77) rfl (pp) (4) rfl (wds 4 a1) _ (by with_reducible exact FA.out) Tryz.underlying37 rfl (sizeE _) ?_
    | refine wpList_load_midG (by rfl) 37 (.tmp 79) rfl (pq) (4) rfl (wds 4 b1) _ (by with_reducible exact FB.out) Tryz.underlying37 rfl (sizeE _) ?_
    | fail)
                       clear FA FB
                       refine (equal_t _ _ _ _ wmt Ea1.out Eb1.out q1).mono ?_
                       rintro e wmtt ⟨rfl, bq⟩
                       have T001 := hid (T00.out.up bq)
                       clear bq T00
                       have FA := hid (Oa2.out _ T001.out.x11)
                       have FB := hid (Ob2.out _ T001.out.x12)
                       go_wp2_with (first
    | refine wpList_load_midG (by rfl) 37 (.tmp 84) rfl (pp) (8) rfl (wds 4 a2) _ (by with_reducible exact FA.out) Tryz.underlying37 rfl (sizeE _) ?_
    | refine wpList_load_midG (by rfl) 37 (.tmp 86) rfl (pq) (8) rfl (wds 4 b2) _ (by with_reducible exact FB.out) Tryz.underlying37 rfl (sizeE _) ?_
    | fail)
                       clear FA FB
                       refine (equal_t _ _ _ _ wmtt Ea2.out Eb2.out q2).mono ?_
                       rintro e wmttt ⟨rfl, bq⟩
                       have T0012 := hid (T001.out.up bq)
                       clear bq T001
                       have hqb : q = true := by rw [HQ2.out, eq3B_t (Eq3.of q0 q1 q2)]
                       clear HQ HQ2
                       subst hqb
                       go_wp2_with fail
                       go_meet
                       exact ⟨rfl, T0012.out⟩
                     · have FA := hid (Oa0.out _ T0.out.x11)
                       have FB := hid (Ob0.out _ T0.out.x12)
                       go_wp2_with (first
    | with_reducible refine wpList_load_mid rfl 37 (.tmp 71) rfl (pp) (0) rfl (wds 4 a0) _ (by with_reducible exact FA.out) Tryz.underlying37 rfl (sizeE _) ?_
    | with_reducible refine wpList_load_mid rfl 37 (.tmp 73) rfl (pq) (0) rfl (wds 4 b0) _ (by with_reducible exact FB.out) Tryz.underlying37 rfl (sizeE _) ?_
    | fail)
                       clear FA FB
                       refine (equal_t _ _ _ _ wm Ea0.out Eb0.out q0).mono ?_
                       rintro e wmt ⟨rfl, bq⟩
                       have T00 := hid (T0.out.up bq)
                       clear bq T0
                       have FA := hid (Oa1.out _ T00.out.x11)
                       have FB := hid (Ob1.out _ T00.out.x12)
                       go_wp2_with (first
    | refine wpList_load_midG (by rfl) 37 (.tmp 77) rfl (pp) (4) rfl (wds 4 a1) _ (by with_reducible exact FA.out) Tryz.underlying37 rfl (sizeE _) ?_
    | refine wpList_load_midG (by rfl) 37 (.tmp 79) rfl (pq) (4) rfl (wds 4 b1) _ (by with_reducible exact FB.out) Tryz.underlying37 rfl (sizeE _) ?_
    | fail)
                       clear FA FB
                       refine (equal_t _ _ _ _ wmt Ea1.out Eb1.out q1).mono ?_
                       rintro e wmtt ⟨rfl, bq⟩
                       have T001 := hid (T00.out.up bq)
                       clear bq T00
                       have FA := hid (Oa2.out _ T001.out.x11)
                       have FB := hid (Ob2.out _ T001.out.x12)
                       go_wp2_with (first
    | refine wpList_load_midG (by rfl) 37 (.tmp 84) rfl (pp) (8) rfl (wds 4 a2) _ (by with_reducible exact FA.out) Tryz.underlying37 rfl (sizeE _) ?_
    | refine wpList_load_midG (by rfl) 37 (.tmp 86) rfl (pq) (8) rfl (wds 4 b2) _ (by with_reducible exact FB.out) Tryz.underlying37 rfl (sizeE _) ?_
    | fail)
                       clear FA FB
                       refine (equal_f _ _ _ _ wmtt Ea2.out Eb2.out q2).mono ?_
                       rintro e wmttf ⟨rfl, bq⟩
                       have T0012 := hid (T001.out.up bq)
                       clear bq T001
                       have hqb : q = false := by rw [HQ2.out, eq3B_f (fun hq => q2 (hq 2 (by decide)))]
                       clear HQ HQ2
                       subst hqb
                       go_wp2_with fail
                       go_meet
                       exact ⟨rfl, T0012.out⟩
                   · have FA := hid (Oa0.out _ T0.out.x11)
                     have FB := hid (Ob0.out _ T0.out.x12)
                     go_wp2_with (first
    | with_reducible refine wpList_load_mid rfl 37 (.tmp 71) rfl (pp) (0) rfl (wds 4 a0) _ (by with_reducible exact FA.out) Tryz.underlying37 rfl (sizeE _) ?_
    | with_reducible refine wpList_load_mid rfl 37 (.tmp 73) rfl (pq) (0) rfl (wds 4 b0) _ (by with_reducible exact FB.out) Tryz.underlying37 rfl (sizeE _) ?_
    | fail)
                     clear FA FB
                     refine (equal_t _ _ _ _ wm Ea0.out Eb0.out q0).mono ?_
                     rintro e wmt ⟨rfl, bq⟩
                     have T00 := hid (T0.out.up bq)
                     clear bq T0
                     have FA := hid (Oa1.out _ T00.out.x11)
                     have FB := hid (Ob1.out _ T00.out.x12)
                     go_wp2_with (first
    | refine wpList_load_midG (by rfl) 37 (.tmp 77) rfl (pp) (4) rfl (wds 4 a1) _ (by with_reducible exact FA.out) Tryz.underlying37 rfl (sizeE _) ?_
    | refine wpList_load_midG (by rfl) 37 (.tmp 79) rfl (pq) (4) rfl (wds 4 b1) _ (by with_reducible exact FB.out) Tryz.underlying37 rfl (sizeE _) ?_
    | fail)
                     clear FA FB
                     refine (equal_f _ _ _ _ wmt Ea1.out Eb1.out q1).mono ?_
                     rintro e wmtf ⟨rfl, bq⟩
                     have T001 := hid (T00.out.up bq)
                     clear bq T00
                     have hqb : q = false := by rw [HQ2.out, eq3B_f (fun hq => q1 (hq 1 (by decide)))]
                     clear HQ HQ2
                     subst hqb
                     go_wp2_with fail
                     go_meet
                     exact ⟨rfl, T001.out⟩
                 · have FA := hid (Oa0.out _ T0.out.x11)
                   have FB := hid (Ob0.out _ T0.out.x12)
                   go_wp2_with (first
    | with_reducible refine wpList_load_mid rfl 37 (.tmp 71) rfl (pp) (0) rfl (wds 4 a0) _ (by with_reducible exact FA.out) Tryz.underlying37 rfl (sizeE _) ?_
    | with_reducible refine wpList_load_mid rfl 37 (.tmp 73) rfl (pq) (0) rfl (wds 4 b0) _ (by with_reducible exact FB.out) Tryz.underlying37 rfl (sizeE _) ?_
    | fail)
                   clear FA FB
                   refine (equal_f _ _ _ _ wm Ea0.out Eb0.out q0).mono ?_
                   rintro e wmf ⟨rfl, bq⟩
                   have T00 := hid (T0.out.up bq)
                   clear bq T0
                   have hqb : q = false := by rw [HQ2.out, eq3B_f (fun hq => q0 (hq 0 (by decide)))]
                   clear HQ HQ2
                   subst hqb
                   go_wp2_with fail
                   go_meet
                   exact ⟨rfl, T00.out⟩
               case rest =>
                 obtain ⟨rfl, hT⟩ := hcut
                 have T1 := hid hT
                 clear hT T0
                 go_wp2_with fail
                 go_roundw
                 case rel => exact ⟨k + 1, g, h, by omega, by go_num, HGX.out, HGY.out, T1.out⟩
                 case measure => simp [intOf]; omega
           · obtain rfl : k = 65 := by omega
             have HGX := hid hg
             have T0 := hid hT
             have HX6 := hid hT.x6.range
             clear hg hh hT
             go_wp2_with (first
    | with_reducible refine wpList_load_mid rfl 39 (.tmp 6) rfl (p6) (0) rfl (wds 12 f0) _ (by with_reducible exact HX6.out) Tryz.underlying39 rfl (sizeV _) ?_
    | fail)
             refine (permute_c p f0 (num3 l0) wr T0.out.pi HF0.out (HG.out.up T0.out.b) hlo).mono ?_
             rintro e w9 ⟨g9, rfl, hg9, hp9, ho9, hk9⟩
             have T9 := T0.out.onl h6 h11 h12 hpw hp9 ho9
             obtain ⟨nn1, nn2, nn3⟩ := newRow w9 39 12 g9
             have N1 := hid nn1
             have HZ9 := hid hg9
             have TT := hid (T9.up nn3)
             have HN := hid nn2
             have hl9 := wds_len 12 g9
             clear nn1 nn2 nn3 T9 hg9 hp9 ho9 hk9 T0 HX6
             unfold oF at N1 TT HN
             go_upto_region 16 with (first
    | with_reducible refine wpList_store_mid rfl 39 (.tmp 14) (.tmp 95) rfl (w9.heap.size) (0) (wds 12 g9).toArray rfl rfl (by with_reducible exact N1.out) (sizeVA _) (wds_all _ _) ?_
    | fail)
             obtain ⟨wz, hwz⟩ : ∃ x, x = (w9.alloc (.cells (wds 12 z0).toArray 39)).setCells w9.heap.size 0 (wds 12 g9) := ⟨_, rfl⟩
             rw [← hwz] at TT HN ⊢
             obtain ⟨p14, hp14⟩ : ∃ x, x = w9.heap.size := ⟨_, rfl⟩
             rw [← hp14] at HN ⊢
             clear hwz hp14 N1
             have D0 : Hid (UnZ w pp p14 g g9 wz) := ⟨TT.out.x11, HN.out, TT.out.b⟩
             clear TT HN
             obtain ⟨b0, hb0⟩ : ∃ a : Nat → Int, a = fun k => g (0 * 4 + k) := ⟨_, rfl⟩
             have Eb0 : Hid (Ez (.agg (wds 4 b0).toArray) ((pmZ 65 (num3 l0)) 0)) := by rw [hb0]; exact (HGX.out.at_ 0 (by decide)).out
             have Ob0 : Hid (∀ v, BlkV v pp 39 (wds 12 g) → v.rangeAt pp 0 (wds 4 b0)) := fun v hv => by rw [hb0]; exact hv.sub (0 * 4) 4 (by decide)
             have hlb0 := wds_len 4 b0
             clear hb0
             obtain ⟨b1, hb1⟩ : ∃ a : Nat → Int, a = fun k => g (1 * 4 + k) := ⟨_, rfl⟩
             have Eb1 : Hid (Ez (.agg (wds 4 b1).toArray) ((pmZ 65 (num3 l0)) 1)) := by rw [hb1]; exact (HGX.out.at_ 1 (by decide)).out
             have Ob1 : Hid (∀ v, BlkV v pp 39 (wds 12 g) → v.rangeAt pp 4 (wds 4 b1)) := fun v hv => by rw [hb1]; exact hv.sub (1 * 4) 4 (by decide)
             have hlb1 := wds_len 4 b1
             clear hb1
             obtain ⟨b2, hb2⟩ : ∃ a : Nat → Int, a = fun k => g (2 * 4 + k) := ⟨_, rfl⟩
             have Eb2 : Hid (Ez (.agg (wds 4 b2).toArray) ((pmZ 65 (num3 l0)) 2)) := by rw [hb2]; exact (HGX.out.at_ 2 (by decide)).out
             have Ob2 : Hid (∀ v, BlkV v pp 39 (wds 12 g) → v.rangeAt pp 8 (wds 4 b2)) := fun v hv => by rw [hb2]; exact hv.sub (2 * 4) 4 (by decide)
             have hlb2 := wds_len 4 b2
             clear hb2
             obtain ⟨a0, ha0⟩ : ∃ a : Nat → Int, a = fun k => g9 (0 * 4 + k) := ⟨_, rfl⟩
             have Ea0 : Hid (Ez (.agg (wds 4 a0).toArray) ((pmZ 65 (num3 l0)) 0)) := by rw [ha0]; exact (HZ9.out.at_ 0 (by decide)).out
             have Oa0 : Hid (∀ v, BlkV v p14 39 (wds 12 g9) → v.rangeAt p14 0 (wds 4 a0)) := fun v hv => by rw [ha0]; exact hv.sub (0 * 4) 4 (by decide)
             have hla0 := wds_len 4 a0
             clear ha0
             obtain ⟨a1, ha1⟩ : ∃ a : Nat → Int, a = fun k => g9 (1 * 4 + k) := ⟨_, rfl⟩
             have Ea1 : Hid (Ez (.agg (wds 4 a1).toArray) ((pmZ 65 (num3 l0)) 1)) := by rw [ha1]; exact (HZ9.out.at_ 1 (by decide)).out
             have Oa1 : Hid (∀ v, BlkV v p14 39 (wds 12 g9) → v.rangeAt p14 4 (wds 4 a1)) := fun v hv => by rw [ha1]; exact hv.sub (1 * 4) 4 (by decide)
             have hla1 := wds_len 4 a1
             clear ha1
             obtain ⟨a2, ha2⟩ : ∃ a : Nat → Int, a = fun k => g9 (2 * 4 + k) := ⟨_, rfl⟩
             have Ea2 : Hid (Ez (.agg (wds 4 a2).toArray) ((pmZ 65 (num3 l0)) 2)) := by rw [ha2]; exact (HZ9.out.at_ 2 (by decide)).out
             have Oa2 : Hid (∀ v, BlkV v p14 39 (wds 12 g9) → v.rangeAt p14 8 (wds 4 a2)) := fun v hv => by rw [ha2]; exact hv.sub (2 * 4) 4 (by decide)
             have hla2 := wds_len 4 a2
             clear ha2
             have FA := hid (Oa0.out _ D0.out.z)
             have FB := hid (Ob0.out _ D0.out.x)
             go_wp2_with (first
    | with_reducible refine wpList_load_mid rfl 37 (.tmp 96) rfl (p14) (0) rfl (wds 4 a0) _ (by with_reducible exact FA.out) Tryz.underlying37 rfl (sizeE _) ?_
    | with_reducible refine wpList_load_mid rfl 37 (.tmp 98) rfl (pp) (0) rfl (wds 4 b0) _ (by with_reducible exact FB.out) Tryz.underlying37 rfl (sizeE _) ?_
    | fail)
             clear FA FB
             refine (equal_t _ _ _ _ wz Ea0.out Eb0.out rfl).mono ?_
             rintro e wzt ⟨rfl, bq⟩
             have D00 := hid (D0.out.up bq)
             clear bq D0
             have FA := hid (Oa1.out _ D00.out.z)
             have FB := hid (Ob1.out _ D00.out.x)
             go_wp2_with (first
    | refine wpList_load_midG (by rfl) 37 (.tmp 102) rfl (p14) (4) rfl (wds 4 a1) _ (by with_reducible exact FA.out) Tryz.underlying37 rfl (sizeE _) ?_
    | refine wpList_load_midG (by rfl) 37 (.tmp 104) rfl (pp) (4) rfl (wds 4 b1) _ (by with_reducible exact FB.out) Tryz.underlying37 rfl (sizeE _) ?_
    | fail)
             clear FA FB
             refine (equal_t _ _ _ _ wzt Ea1.out Eb1.out rfl).mono ?_
             rintro e wztt ⟨rfl, bq⟩
             have D001 := hid (D00.out.up bq)
             clear bq D00
             have FA := hid (Oa2.out _ D001.out.z)
             have FB := hid (Ob2.out _ D001.out.x)
             go_wp2_with (first
    | refine wpList_load_midG (by rfl) 37 (.tmp 109) rfl (p14) (8) rfl (wds 4 a2) _ (by with_reducible exact FA.out) Tryz.underlying37 rfl (sizeE _) ?_
    | refine wpList_load_midG (by rfl) 37 (.tmp 111) rfl (pp) (8) rfl (wds 4 b2) _ (by with_reducible exact FB.out) Tryz.underlying37 rfl (sizeE _) ?_
    | fail)
             clear FA FB
             refine (equal_t _ _ _ _ wztt Ea2.out Eb2.out rfl).mono ?_
             rintro e wzttt ⟨rfl, bq⟩
             have D0012 := hid (D001.out.up bq)
             clear bq D001
             go_wp2_with fail
             go_ret
             exact ⟨rfl, D0012.out.b⟩
    · go_enter Tryz.func5, Tryz.ntmps5
      go_wp2_with fail
      generalize ((w.alloc _).alloc _) = w0 at *
      refine (speaks10_c w0 (HG.out.up HB.out)).mono ?_
      rintro e w1 ⟨rfl, b1⟩
      have HX0' := hid (HX0.out.up b1)
      clear HX0
      have HX0 := HX0'
      clear HX0'
      have HX1' := hid (HX1.out.up b1)
      clear HX1
      have HX1 := HX1'
      clear HX1'
      have HB' := hid (bchain HB.out b1)
      clear HB
      have HB := HB'
      clear HB' b1
      have C0 := HX0.out.cell (i := 0) (by simp)
      have C1 := HX0.out.cell (i := 1) (by simp)
      have C2 := HX0.out.cell (i := 2) (by simp)
      simp only [List.getElem_cons_zero, List.getElem_cons_succ] at C0 C1 C2
      go_wp2_with fail
      clear C0 C1 C2
      refine (few3_t A0 n0 c0 w1 hF0).mono ?_
      rintro e w1f0 ⟨rfl, bf0⟩
      have HX0' := hid (HX0.out.up bf0)
      clear HX0
      have HX0 := HX0'
      clear HX0'
      have HX1' := hid (HX1.out.up bf0)
      clear HX1
      have HX1 := HX1'
      clear HX1'
      have HB' := hid (bchain HB.out bf0)
      clear HB
      have HB := HB'
      clear HB' bf0
      have C0 := HX1.out.cell (i := 0) (by simp)
      have C1 := HX1.out.cell (i := 1) (by simp)
      have C2 := HX1.out.cell (i := 2) (by simp)
      simp only [List.getElem_cons_zero, List.getElem_cons_succ] at C0 C1 C2
      go_wp2_with fail
      clear C0 C1 C2
      refine (few3_f A1 n1 c1 w1f0 hF1).mono ?_
      rintro e w1f0f1 ⟨rfl, bf1⟩
      have HX0' := hid (HX0.out.up bf1)
      clear HX0
      have HX0 := HX0'
      clear HX0'
      have HX1' := hid (HX1.out.up bf1)
      clear HX1
      have HX1 := HX1'
      clear HX1'
      have HB' := hid (bchain HB.out bf1)
      clear HB
      have HB := HB'
      clear HB' bf1
      go_wp2_with fail
      refine (speaks10_c w1f0f1 (HG.out.up HB.out)).mono ?_
      rintro e wz ⟨rfl, bz⟩
      have HBZ := hid (bchain HB.out bz)
      clear bz
      go_wp2
      go_ret
      exact ⟨rfl, HBZ.out⟩
  · go_enter Tryz.func5, Tryz.ntmps5
    go_wp2_with fail
    generalize ((w.alloc _).alloc _) = w0 at *
    refine (speaks10_c w0 (HG.out.up HB.out)).mono ?_
    rintro e w1 ⟨rfl, b1⟩
    have HX0' := hid (HX0.out.up b1)
    clear HX0
    have HX0 := HX0'
    clear HX0'
    have HX1' := hid (HX1.out.up b1)
    clear HX1
    have HX1 := HX1'
    clear HX1'
    have HB' := hid (bchain HB.out b1)
    clear HB
    have HB := HB'
    clear HB' b1
    have C0 := HX0.out.cell (i := 0) (by simp)
    have C1 := HX0.out.cell (i := 1) (by simp)
    have C2 := HX0.out.cell (i := 2) (by simp)
    simp only [List.getElem_cons_zero, List.getElem_cons_succ] at C0 C1 C2
    go_wp2_with fail
    clear C0 C1 C2
    refine (few3_f A0 n0 c0 w1 hF0).mono ?_
    rintro e w1f0 ⟨rfl, bf0⟩
    have HX0' := hid (HX0.out.up bf0)
    clear HX0
    have HX0 := HX0'
    clear HX0'
    have HX1' := hid (HX1.out.up bf0)
    clear HX1
    have HX1 := HX1'
    clear HX1'
    have HB' := hid (bchain HB.out bf0)
    clear HB
    have HB := HB'
    clear HB' bf0
    go_wp2_with fail
    refine (speaks10_c w1f0 (HG.out.up HB.out)).mono ?_
    rintro e wz ⟨rfl, bz⟩
    have HBZ := hid (bchain HB.out bz)
    clear bz
    go_wp2
    go_ret
    exact ⟨rfl, HBZ.out⟩
end Go.Proofs.YtdepkfdceidikaaGreatDoor
