import Derived.Test.YteogjnendkbjcaaDoorDhF
import Derived.Test.YteogjnendkbjcaaDoorKLb
/-
  digest.Sum: what the call does.
-/
namespace Go.Proofs.YteogjnendkbjcaaDoor
open Go.RowKit
set_option linter.unusedVariables false
set_option linter.unusedSimpArgs false

/-- The slice (A, n) reads as the parts ls, all below block B. -/
structure RdP (w : World) (B : Nat) (A : Option Addr) (n : Nat) (ls : List (List Nat)) : Prop where
  len : ls.length = n
  cells : 0 < n → ∃ b off, A = some ⟨b, off, none⟩ ∧ b < B ∧ ∀ r, r < n → ∃ Ar Lr Cr, w.cell? ⟨b, off + r, none⟩ = some (.slice Ar Lr Cr) ∧ Lr ≤ Cr ∧ Rd8 w B Ar Lr (ls.getD r [])
theorem RdP.nil (w : World) (B : Nat) (A : Option Addr) : RdP w B A 0 [] := ⟨rfl, fun h => absurd h (Nat.lt_irrefl _)⟩
theorem RdP.below {w w' : World} {B B' n : Nat} {A : Option Addr} {ls : List (List Nat)} (h : RdP w B A n ls) (hb : Below B' w w') (hB : B ≤ B') : RdP w' B A n ls := by
  refine ⟨h.len, fun h0 => ?_⟩
  obtain ⟨b, off, e, hbB, hc⟩ := h.cells h0
  refine ⟨b, off, e, hbB, fun r hr => ?_⟩
  obtain ⟨Ar, Lr, Cr, h1, h2, h3⟩ := hc r hr
  exact ⟨Ar, Lr, Cr, (hb.cell (p := ⟨b, off + r, none⟩) (show b < B' by omega)).trans h1, h2, h3.below hb hB⟩
theorem RdP.more {w : World} {B B' n : Nat} {A : Option Addr} {ls : List (List Nat)} (h : RdP w B A n ls) (hB : B ≤ B') : RdP w B' A n ls := by
  refine ⟨h.len, fun h0 => ?_⟩
  obtain ⟨b, off, e, hbB, hc⟩ := h.cells h0
  refine ⟨b, off, e, by omega, fun r hr => ?_⟩
  obtain ⟨Ar, Lr, Cr, h1, h2, h3⟩ := hc r hr
  exact ⟨Ar, Lr, Cr, h1, h2, h3.more hB⟩
theorem flat_succ {ls : List (List Nat)} {k : Nat} (h : k < ls.length) : (ls.take (k + 1)).flatten = (ls.take k).flatten ++ ls.getD k [] := by
  rw [List.take_succ_eq_append_getElem h, List.flatten_append, List.getD_eq_getElem?_getD, List.getElem?_eq_getElem h]
  simp
def zH : List Value := hcl (lblk [] 0) z136 0
theorem zH_new (w : World) : HashM (w.alloc (.cells zH.toArray 35)) w.heap.size [] := by
  have e : hwait [] = z136 := by decide +kernel
  refine ⟨⟨?_, lblk_lanes (fun x hx => by simp at hx) _, hwait_len [], hwait_lt (fun x hx => by simp at hx)⟩, fun x hx => by simp at hx⟩
  rw [e]
  exact BlkV.new w 35 zH
theorem zH_len : zH.length = 162 := hcl_len (lblk_lanes (fun x hx => by simp at hx) _) z136_len
theorem zeroH (v : World) : (zeroValue 35).run Tryd.prog v = .ok (.agg zH.toArray) v := by kernel_rfl

set_option maxRecDepth 20000 in
set_option maxHeartbeats 2000000 in
theorem dsum_c (A : Option Addr) (n c : Nat) (ls : List (List Nat)) (w : World) (ha : RdP w w.heap.size A n ls) (hn : n ≤ 1000000) (hG : GlobK w) :
    Calls Tryd.prog 8 #[.slice A n c] w fun e w' => e = .returned (.agg (cells8 (dig ls.flatten)).toArray) ∧ Below w.heap.size w w' := by
  obtain ⟨D, hD⟩ : ∃ D, D = dig ls.flatten := ⟨_, rfl⟩
  have HD := hid hD
  have HDL := hid (show D.length = 32 by rw [hD]; exact dig_len _)
  rw [← hD]
  clear hD
  have hz := zero32d
  have hlz : (cells8 z32d).length = 32 := by rw [c8_len, z32d_len]
  have hzh := zeroH
  have hlh := zH_len
  have e1 : (w.alloc (o32d 24)).heap.size = w.heap.size + 1 := by simp
  have n0 := (o32d_new w 24).alloc (.cells zH.toArray 35)
  have n1 := zH_new (w.alloc (o32d 24))
  rw [e1] at n1
  have n2 := ((Below.refl w.heap.size w).alloc (Nat.le_refl _) (o32d 24)).alloc (by simp) (.cells zH.toArray 35)
  have N0 := hid n0
  have N1 := hid n1
  have N2 := hid n2
  have HG := hid (hG.up n2)
  have HA := hid ha
  have HGS := hid hG.size
  have HLN := hid ha.len
  clear e1 n0 n1 n2 ha hG
  unfold o32d at N0 N1 N2 HG
  go_enter Tryd.func8, Tryd.ntmps8
  go_wp2
  clear hz hlz hzh hlh
  generalize ((w.alloc _).alloc _) = w0 at *
  go_loopw [8] (fun i wr => ∃ k : Nat, k ≤ n ∧ i = .int .i64 (k : Int) ∧ HashM wr (w.heap.size + 1) (ls.take k).flatten ∧ Only (w.heap.size + 1) w0 wr ∧ GlobK wr) (fun i _ => n - (intOf i).toNat)
  case atStart => exact ⟨0, Nat.zero_le _, rfl, N1.out, Only.refl _ _, HG.out⟩
  case round =>
    obtain ⟨k, hk, rfl, hM, hO, hGk⟩ := hrel
    have hbw : Below w.heap.size w wr := N2.out.trans (hO.below (B := w.heap.size) (by omega) (Nat.le_trans (Nat.le_refl _) N2.out.size))
    by_cases hlt : k < n
    · have i2 : (k : Int) < (n : Int) := by omega
      have i3 : (k : Int) < 1000000 := by omega
      have hP := HA.out.below hbw (Nat.le_refl _)
      obtain ⟨ba, oa, rfl, hba, hc⟩ := hP.cells (by omega)
      obtain ⟨Ar, Lr, Cr, c0, hLC, hr⟩ := hc k hlt
      have HM := hid hM
      have HO := hid hO
      have HGK := hid hGk
      have HR := hid (hr.more (show w.heap.size ≤ w.heap.size + 1 by omega))
      clear hM hO hGk hbw hP hc hr hba
      go_wp2_with fail
      refine (write_c7 Ar Lr Cr (w.heap.size + 1) _ _ wr hLC HR.out HM.out HGK.out ⟨by have := HGS.out; omega, by have := HGS.out; omega⟩).mono ?_
      rintro e w1 ⟨rfl, hM1, hO1⟩
      rw [← flat_succ (by rw [HLN.out]; exact hlt)] at hM1
      have HM1 := hid hM1
      have HO1 := hid (HO.out.trans hO1)
      have HG1 := hid (hO1.glob HGK.out ⟨by have := HGS.out; omega, by have := HGS.out; omega⟩)
      clear hM1 hO1 HM HO HGK HR c0
      go_wp2
      go_roundw
      case rel => exact ⟨k + 1, by omega, by go_num, HM1.out, HO1.out, HG1.out⟩
      case measure => simp [intOf]; omega
    · have i2 : ¬ (k : Int) < (n : Int) := by omega
      have hkn : k = n := by omega
      rw [hkn, List.take_of_length_le (by rw [HLN.out]; exact Nat.le_refl _)] at hM
      have HM := hid hM
      have HGK := hid hGk
      have HBW := hid hbw
      have H0 := hid (show BlkB wr w.heap.size 24 z32d from ⟨(hO.block w.heap.size N0.out.size (by omega)).trans N0.out.heap, zeros_lt8 _⟩)
      clear hM hGk hbw hO
      go_wp2_with fail
      refine (hsum_c _ _ wr HM.out HGK.out).mono ?_
      rintro e w1 ⟨rfl, hb1⟩
      rw [← HD.out]
      have h0 := H0.out.up hb1
      have hth := h0.there
      rw [z32d_len] at hth
      have hst := store8 w.heap.size D w1 (by rw [HDL.out]; exact hth)
      have hl8 : (cells8 D).length = 32 := by rw [c8_len, HDL.out]
      have HE := hid hl8
      have HR := hid (World.rangeAt_setCells_same w1 w.heap.size 0 (cells8 D) (by rw [hl8]; exact hth))
      have HF := hid (below_cells (B := w.heap.size) (Nat.le_refl w.heap.size) (cells8 D) 0 w1 (bchain HBW.out hb1))
      clear h0 hth hb1 H0 HM HGK HBW
      go_wp2
      refine bodyPost_ret (results_cell1 Tryd.results8 ⟨w.heap.size, 0, none⟩ _ rfl (run_loadVar_mid _ w.heap.size 0 24 (cells8 D) _ HR.out Tryd.underlying24 rfl (size32d.trans (congrArg some HE.out.symm)))) rfl ?_
      exact ⟨rfl, HF.out⟩
end Go.Proofs.YteogjnendkbjcaaDoor
/-
  avouchlaw07.speaks: what the call does.
-/
namespace Go.Proofs.YteogjnendkbjcaaDoor
open Go.RowKit
set_option linter.unusedVariables false
set_option linter.unusedSimpArgs false

/-- 32 bytes laid into a new variable. -/
theorem new_32 (w : World) {D : List Nat} (h : D.length = 32) (hlt : allLt8 D) : (storeCells ⟨w.heap.size, 0, none⟩ (cells8 D)).run Tryd.prog (w.alloc (o32d 24)) = .ok () ((w.alloc (o32d 24)).setCells w.heap.size 0 (cells8 D)) ∧
    BlkB ((w.alloc (o32d 24)).setCells w.heap.size 0 (cells8 D)) w.heap.size 24 D ∧ Below w.heap.size w ((w.alloc (o32d 24)).setCells w.heap.size 0 (cells8 D)) := by
  have h0 := o32d_new w 24
  have hth := h0.there
  rw [z32d_len] at hth
  exact ⟨store8 w.heap.size D _ (by rw [h]; exact hth), h0.overB D (by rw [h, z32d_len]) hlt, below_cells (Nat.le_refl _) _ _ _ ((Below.refl _ _).alloc (Nat.le_refl _) _)⟩
theorem dig_nil4 : (dig []).getD 0 0 = 167 ∧ (dig []).getD 1 0 = 255 ∧ (dig []).getD 2 0 = 198 ∧ (dig []).getD 3 0 = 248 := by
  have h := dig_nil
  have key : ∀ i, i < 4 → (dig []).getD i 0 = ((dig []).take 4).getD i 0 := fun i hi => by
    rw [List.getD_eq_getElem?_getD, List.getD_eq_getElem?_getD, List.getElem?_take_of_lt hi]
  rw [key 0 (by decide), key 1 (by decide), key 2 (by decide), key 3 (by decide), h]
  decide

set_option maxRecDepth 20000 in
set_option maxHeartbeats 1000000 in
theorem speaks7_c (w : World) (hG : GlobK w) : Calls Tryd.prog 7 #[] w fun e w' => e = .returned (.bool true) ∧ Below w.heap.size w w' := by
  go_enter Tryd.func7, Tryd.ntmps7
  go_wp2_with fail
  refine (dsum_c none 0 0 [] w (RdP.nil _ _ _) (by decide) hG).mono ?_
  rintro e w1 ⟨rfl, hb1⟩
  rw [show ([] : List (List Nat)).flatten = [] from rfl]
  obtain ⟨g0, g1, g2, g3⟩ := dig_nil4
  have HDL := hid (dig_len [])
  have HDB := hid (dig_lt [])
  generalize dig [] = D at *
  obtain ⟨hst, hn, hbn⟩ := new_32 w1 HDL.out HDB.out
  have hl8 : (cells8 D).length = 32 := by rw [c8_len, HDL.out]
  have hz := zero32d
  have hlz : (cells8 z32d).length = 32 := by rw [c8_len, z32d_len]
  have c0 := hn.cell (i := 0) (by rw [HDL.out]; decide)
  have c1 := hn.cell (i := 1) (by rw [HDL.out]; decide)
  have c2 := hn.cell (i := 2) (by rw [HDL.out]; decide)
  have c3 := hn.cell (i := 3) (by rw [HDL.out]; decide)
  rw [show at64 D 0 = 167 by unfold at64; rw [g0]; rfl] at c0
  rw [show at64 D 1 = 255 by unfold at64; rw [g1]; rfl] at c1
  rw [show at64 D 2 = 198 by unfold at64; rw [g2]; rfl] at c2
  rw [show at64 D 3 = 248 by unfold at64; rw [g3]; rfl] at c3
  have HF := hid (bchain hb1 hbn)
  clear hn hbn hb1 g0 g1 g2 g3 HDL HDB hG
  unfold o32d at hst c0 c1 c2 c3 HF
  go_wp2
  go_ret
  exact ⟨rfl, HF.out⟩
end Go.Proofs.YteogjnendkbjcaaDoor
/-
  Parts that a law hands to digest.Sum; digests held against each other. Helpers for the laws of stage 7.
-/
namespace Go.Proofs.YteogjnendkbjcaaDoor
open Go.RowKit
set_option linter.unusedVariables false
set_option linter.unusedSimpArgs false

/-- One part, two parts, in a slice that was just built. -/
theorem RdP.one {w : World} {A : Option Addr} {n c : Nat} {b : List Nat} (t : TypeId) (ha : Rd8 w w.heap.size A n b) (hc : n ≤ c) : RdP (w.alloc (.cells #[.slice A n c] t)) (w.alloc (.cells #[.slice A n c] t)).heap.size (some ⟨w.heap.size, 0, none⟩) 1 [b] := by
  have hb := (Below.refl w.heap.size w).alloc (Nat.le_refl _) (.cells #[.slice A n c] t)
  refine ⟨rfl, fun _ => ⟨w.heap.size, 0, rfl, by simp, fun r hr => ?_⟩⟩
  obtain rfl : r = 0 := by omega
  exact ⟨A, n, c, by rw [cell_of_row _ w.heap.size (0 + 0) _ _ (0, 0) (heap_alloc_new w _)]; rfl, hc, ha.up hb (Nat.le_refl _)⟩
theorem RdP.two {w : World} {A A' : Option Addr} {n c n' c' : Nat} {b b' : List Nat} (t : TypeId) (ha : Rd8 w w.heap.size A n b) (hc : n ≤ c) (ha' : Rd8 w w.heap.size A' n' b') (hc' : n' ≤ c') :
    RdP (w.alloc (.cells #[.slice A n c, .slice A' n' c'] t)) (w.alloc (.cells #[.slice A n c, .slice A' n' c'] t)).heap.size (some ⟨w.heap.size, 0, none⟩) 2 [b, b'] := by
  have hb := (Below.refl w.heap.size w).alloc (Nat.le_refl _) (.cells #[.slice A n c, .slice A' n' c'] t)
  refine ⟨rfl, fun _ => ⟨w.heap.size, 0, rfl, by simp, fun r hr => ?_⟩⟩
  match r, hr with
  | 0, _ => exact ⟨A, n, c, by rw [cell_of_row _ w.heap.size (0 + 0) _ _ (0, 0) (heap_alloc_new w _)]; rfl, hc, ha.up hb (Nat.le_refl _)⟩
  | 1, _ => exact ⟨A', n', c', by rw [cell_of_row _ w.heap.size (0 + 1) _ _ (0, 0) (heap_alloc_new w _)]; rfl, hc', ha'.up hb (Nat.le_refl _)⟩
theorem sz8 (w : World) : (sizeOf 5).run Tryd.prog w = .ok 1 w := by kernel_rfl
theorem run_equalIn_bytesk {P : Program} (w : World) (d : Nat) (t e : TypeId) (n : Nat) (ht : P.underlying t = some (.array n e)) (he : P.underlying e = some (.int .u8)) (hsz : ∀ w, (sizeOf e).run P w = .ok 1 w)
    (xs ys : List Nat) (hx : xs.length = n) (hy : ys.length = n) :
    (Op.equalIn (d + 2) t (.agg (cells8 xs).toArray) (.agg (cells8 ys).toArray)).run P w = .ok (decide (xs = ys)) w := by
  rw [← all_range_k xs ys (hx.trans hy.symm), hx, List.range_eq_range', Op.equalIn]
  simp only [Sem.run_bind, run_underlying ht, Result.andThen_ok, hsz, Std.Legacy.Range.forIn_eq_forIn_range', Std.Legacy.Range.size, Nat.sub_zero, Nat.add_sub_cancel, Nat.div_one]
  have hl : ∀ i ∈ List.range' 0 n 1, i < n := fun i hi => by simpa using (List.mem_range'_1.1 hi).2
  generalize List.range' 0 n 1 = l at hl ⊢
  induction l with
  | nil => simp
  | cons i l ih =>
    have hi : i < n := hl i (by simp)
    have px : (part e (cells8 xs).toArray (i * 1)).run P w = .ok (.int .u8 ((xs.getD i 0 : Nat) : Int)) w := by
      simp [part, isAgg, cells8, run_underlying he, List.getD, List.getElem?_eq_getElem (show i < xs.length by omega)]
    have py : (part e (cells8 ys).toArray (i * 1)).run P w = .ok (.int .u8 ((ys.getD i 0 : Nat) : Int)) w := by
      simp [part, isAgg, cells8, run_underlying he, List.getD, List.getElem?_eq_getElem (show i < ys.length by omega)]
    have pe : (Op.equalIn (d + 1) e (.int .u8 ((xs.getD i 0 : Nat) : Int)) (.int .u8 ((ys.getD i 0 : Nat) : Int))).run P w = .ok (xs.getD i 0 == ys.getD i 0) w := by
      rw [run_equalIn_int w d e .u8 .u8 _ _ he]
      congr 1
      rw [Bool.eq_iff_iff]
      simp only [beq_iff_eq]
      omega
    simp only [List.forIn_cons, Sem.run_bind, px, py, pe, Result.andThen_ok, List.all_cons]
    cases hb : (xs.getD i 0 == ys.getD i 0)
    · simp
    · simp only [Bool.not_true, Bool.false_eq_true, if_false, Sem.run_pure, Result.andThen_ok, Bool.true_and]
      exact ih fun j hj => hl j (by simp [hj])
theorem same_32 (w : World) {l : List Nat} (hl : l.length = 32) : (Op.equalIn 10000 24 (.agg (cells8 l).toArray) (.agg (cells8 l).toArray)).run Tryd.prog w = .ok true w := by
  have h := run_equalIn_bytesk (P := Tryd.prog) w 9998 24 5 32 Tryd.underlying24 Tryd.underlying5 sz8 l l hl hl
  rw [decide_eq_true rfl] at h
  exact h
theorem conv_32 {v : World} {p : Nat} {t : TypeId} {D : List Nat} (h : BlkB v p t D) (hD : D.length = 32) (c : Nat) : (convert 22 9 (.slice (some ⟨p, 0, none⟩) 32 c)).run Tryd.prog v = .ok (.string (strOfNums (D.map fun (x : Nat) => (x : Int)))) v := by
  have hr := h.rd h.size
  rw [hD] at hr
  exact conv8l hr (by decide) c
end Go.Proofs.YteogjnendkbjcaaDoor
