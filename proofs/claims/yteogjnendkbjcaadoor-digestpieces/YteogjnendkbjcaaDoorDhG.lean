/-
  digest.Sum: what the call does.
-/
import Derived.Test.YteogjnendkbjcaaDoorDhF
namespace Go.Proofs.YteogjnendkbjcaaDoor
open Go.RowKit
set_option linter.unusedVariables false
set_option linter.unusedSimpArgs false

/-- The slice (A, n) reads as the parts ls, all below block B. -/
structure RdP (w : World) (B : Nat) (A : Option Addr) (n : Nat) (ls : List (List Nat)) : Prop where
  len : ls.length = n
  cells : 0 < n → ∃ b off, A = some ⟨b, off, none⟩ ∧ b < B ∧ ∀ r, r < n → ∃ Ar Lr Cr, w.cell? ⟨b, off + r, none⟩ = some (.slice Ar Lr Cr) ∧ Lr ≤ Cr ∧ Rd8 w B Ar Lr (ls.getD r [])
theorem RdP.nil (w : World) (B : Nat) (A : Option Addr) : RdP w B A 0 [] := ⟨rfl, fun h => absurd h (Nat.lt_irrefl _)⟩
theorem RdP.below {w w' : World} {B B' n : Nat} {A : Option Addr} {ls : List (List Nat)} (h : RdP w B A n ls) (hb : Below B' w w') (hB : B ≤ B') : RdP w' B A n ls := by
  refine ⟨h.len, fun h0 => ?_⟩
  obtain ⟨b, off, e, hbB, hc⟩ := h.cells h0
  refine ⟨b, off, e, hbB, fun r hr => ?_⟩
  obtain ⟨Ar, Lr, Cr, h1, h2, h3⟩ := hc r hr
  exact ⟨Ar, Lr, Cr, (hb.cell (p := ⟨b, off + r, none⟩) (show b < B' by omega)).trans h1, h2, h3.below hb hB⟩
theorem RdP.more {w : World} {B B' n : Nat} {A : Option Addr} {ls : List (List Nat)} (h : RdP w B A n ls) (hB : B ≤ B') : RdP w B' A n ls := by
  refine ⟨h.len, fun h0 => ?_⟩
  obtain ⟨b, off, e, hbB, hc⟩ := h.cells h0
  refine ⟨b, off, e, by omega, fun r hr => ?_⟩
  obtain ⟨Ar, Lr, Cr, h1, h2, h3⟩ := hc r hr
  exact ⟨Ar, Lr, Cr, h1, h2, h3.more hB⟩
theorem flat_succ {ls : List (List Nat)} {k : Nat} (h : k < ls.length) : (ls.take (k + 1)).flatten = (ls.take k).flatten ++ ls.getD k [] := by
  rw [List.take_succ_eq_append_getElem h, List.flatten_append, List.getD_eq_getElem?_getD, List.getElem?_eq_getElem h]
  simp
def zH : List Value := hcl (lblk [] 0) z136 0
theorem zH_new (w : World) : HashM (w.alloc (.cells zH.toArray 35)) w.heap.size [] := by
  have e : hwait [] = z136 := by decide +kernel
  refine ⟨⟨?_, lblk_lanes (fun x hx => by simp at hx) _, hwait_len [], hwait_lt (fun x hx => by simp at hx)⟩, fun x hx => by simp at hx⟩
  rw [e]
  exact BlkV.new w 35 zH
theorem zH_len : zH.length = 162 := hcl_len (lblk_lanes (fun x hx => by simp at hx) _) z136_len
theorem zeroH (v : World) : (zeroValue 35).run Tryd.prog v = .ok (.agg zH.toArray) v := by kernel_rfl

set_option maxRecDepth 20000 in
set_option maxHeartbeats 2000000 in
theorem dsum_c (A : Option Addr) (n c : Nat) (ls : List (List Nat)) (w : World) (ha : RdP w w.heap.size A n ls) (hn : n ≤ 1000000) (hG : GlobK w) :
    Calls Tryd.prog 8 #[.slice A n c] w fun e w' => e = .returned (.agg (cells8 (dig ls.flatten)).toArray) ∧ Below w.heap.size w w' := by
  obtain ⟨D, hD⟩ : ∃ D, D = dig ls.flatten := ⟨_, rfl⟩
  have HD := hid hD
  have HDL := hid (show D.length = 32 by rw [hD]; exact dig_len _)
  rw [← hD]
  clear hD
  have hz := zero32d
  have hlz : (cells8 z32d).length = 32 := by rw [c8_len, z32d_len]
  have hzh := zeroH
  have hlh := zH_len
  have e1 : (w.alloc (o32d 24)).heap.size = w.heap.size + 1 := by simp
  have n0 := (o32d_new w 24).alloc (.cells zH.toArray 35)
  have n1 := zH_new (w.alloc (o32d 24))
  rw [e1] at n1
  have n2 := ((Below.refl w.heap.size w).alloc (Nat.le_refl _) (o32d 24)).alloc (by simp) (.cells zH.toArray 35)
  have N0 := hid n0
  have N1 := hid n1
  have N2 := hid n2
  have HG := hid (hG.up n2)
  have HA := hid ha
  have HGS := hid hG.size
  have HLN := hid ha.len
  clear e1 n0 n1 n2 ha hG
  unfold o32d at N0 N1 N2 HG
  go_enter Tryd.func8, Tryd.ntmps8
  go_wp2
  clear hz hlz hzh hlh
  generalize ((w.alloc _).alloc _) = w0 at *
  go_loopw [8] (fun i wr => ∃ k : Nat, k ≤ n ∧ i = .int .i64 (k : Int) ∧ HashM wr (w.heap.size + 1) (ls.take k).flatten ∧ Only (w.heap.size + 1) w0 wr ∧ GlobK wr) (fun i _ => n - (intOf i).toNat)
  case atStart => exact ⟨0, Nat.zero_le _, rfl, N1.out, Only.refl _ _, HG.out⟩
  case round =>
    obtain ⟨k, hk, rfl, hM, hO, hGk⟩ := hrel
    have hbw : Below w.heap.size w wr := N2.out.trans (hO.below (B := w.heap.size) (by omega) (Nat.le_trans (Nat.le_refl _) N2.out.size))
    by_cases hlt : k < n
    · have i2 : (k : Int) < (n : Int) := by omega
      have i3 : (k : Int) < 1000000 := by omega
      have hP := HA.out.below hbw (Nat.le_refl _)
      obtain ⟨ba, oa, rfl, hba, hc⟩ := hP.cells (by omega)
      obtain ⟨Ar, Lr, Cr, c0, hLC, hr⟩ := hc k hlt
      have HM := hid hM
      have HO := hid hO
      have HGK := hid hGk
      have HR := hid (hr.more (show w.heap.size ≤ w.heap.size + 1 by omega))
      clear hM hO hGk hbw hP hc hr hba
      go_wp2_with fail
      refine (write_c7 Ar Lr Cr (w.heap.size + 1) _ _ wr hLC HR.out HM.out HGK.out ⟨by have := HGS.out; omega, by have := HGS.out; omega⟩).mono ?_
      rintro e w1 ⟨rfl, hM1, hO1⟩
      rw [← flat_succ (by rw [HLN.out]; exact hlt)] at hM1
      have HM1 := hid hM1
      have HO1 := hid (HO.out.trans hO1)
      have HG1 := hid (hO1.glob HGK.out ⟨by have := HGS.out; omega, by have := HGS.out; omega⟩)
      clear hM1 hO1 HM HO HGK HR c0
      go_wp2
      go_roundw
      case rel => exact ⟨k + 1, by omega, by go_num, HM1.out, HO1.out, HG1.out⟩
      case measure => simp [intOf]; omega
    · have i2 : ¬ (k : Int) < (n : Int) := by omega
      have hkn : k = n := by omega
      rw [hkn, List.take_of_length_le (by rw [HLN.out]; exact Nat.le_refl _)] at hM
      have HM := hid hM
      have HGK := hid hGk
      have HBW := hid hbw
      have H0 := hid (show BlkB wr w.heap.size 24 z32d from ⟨(hO.block w.heap.size N0.out.size (by omega)).trans N0.out.heap, zeros_lt8 _⟩)
      clear hM hGk hbw hO
      go_wp2_with fail
      refine (hsum_c _ _ wr HM.out HGK.out).mono ?_
      rintro e w1 ⟨rfl, hb1⟩
      rw [← HD.out]
      have h0 := H0.out.up hb1
      have hth := h0.there
      rw [z32d_len] at hth
      have hst := store8 w.heap.size D w1 (by rw [HDL.out]; exact hth)
      have hl8 : (cells8 D).length = 32 := by rw [c8_len, HDL.out]
      have HE := hid hl8
      have HR := hid (World.rangeAt_setCells_same w1 w.heap.size 0 (cells8 D) (by rw [hl8]; exact hth))
      have HF := hid (below_cells (B := w.heap.size) (Nat.le_refl w.heap.size) (cells8 D) 0 w1 (bchain HBW.out hb1))
      clear h0 hth hb1 H0 HM HGK HBW
      go_wp2
      refine bodyPost_ret (results_cell1 Tryd.results8 ⟨w.heap.size, 0, none⟩ _ rfl (run_loadVar_mid _ w.heap.size 0 24 (cells8 D) _ HR.out Tryd.underlying24 rfl (size32d.trans (congrArg some HE.out.symm)))) rfl ?_
      exact ⟨rfl, HF.out⟩
end Go.Proofs.YteogjnendkbjcaaDoor
