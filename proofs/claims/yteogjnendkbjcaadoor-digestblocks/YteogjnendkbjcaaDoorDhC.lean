/-
  digest.behind: what the call does.
-/
import Derived.Test.YteogjnendkbjcaaDoorDhA
import Derived.Test.YteogjnendkbjcaaDoorDhB
namespace Go.Proofs.YteogjnendkbjcaaDoor
open Go.RowKit
set_option linter.unusedVariables false

/-- The lanes when k of them are xored. -/
def lxk (l d : List Nat) (k : Nat) : List Nat := lane fun i => if i < k then l.getD i 0 ^^^ d.getD i 0 else l.getD i 0
theorem xor64_lt {a b : Nat} (ha : a < 18446744073709551616) (hb : b < 18446744073709551616) : a ^^^ b < 18446744073709551616 := by
  rw [show (18446744073709551616 : Nat) = 2 ^ 64 by decide] at *
  exact Nat.xor_lt_two_pow ha hb
theorem lxk_lanes {l d : List Nat} (hl : Lanes l) (hd : Lanes d) (k : Nat) : Lanes (lxk l d k) := lane_lanes fun i _ => by
  show (if i < k then _ else _) < _
  split
  · exact xor64_lt (hl.at_ i) (hd.at_ i)
  · exact hl.at_ i
theorem lxk_at (l d : List Nat) (k : Nat) {i : Nat} (hi : i < 25) : (lxk l d k).getD i 0 = if i < k then l.getD i 0 ^^^ d.getD i 0 else l.getD i 0 := by
  unfold lxk
  exact lane_getD (fun i => if i < k then l.getD i 0 ^^^ d.getD i 0 else l.getD i 0) hi
theorem lxk_zero {l d : List Nat} (hl : Lanes l) (hd : Lanes d) : lxk l d 0 = l := by
  refine same_getD (by rw [(lxk_lanes hl hd 0).len, hl.len]) fun i hi => ?_
  rw [(lxk_lanes hl hd 0).len] at hi
  rw [lxk_at l d 0 hi, if_neg (by omega)]
theorem lxk_succ {l d : List Nat} (hl : Lanes l) (hd : Lanes d) {k : Nat} (hk : k < 25) : (lxk l d k).set k (l.getD k 0 ^^^ d.getD k 0) = lxk l d (k + 1) := by
  refine same_getD (by rw [List.length_set, (lxk_lanes hl hd k).len, (lxk_lanes hl hd (k + 1)).len]) fun i hi => ?_
  rw [List.length_set, (lxk_lanes hl hd k).len] at hi
  rw [lxk_at l d (k + 1) hi]
  by_cases c : i = k
  · rw [c, getD_set_eq _ _ _ (by rw [(lxk_lanes hl hd k).len]; exact hk), if_pos (by omega)]
  · rw [getD_set_ne _ _ _ _ (by omega), lxk_at l d k hi]
    by_cases e : i < k
    · rw [if_pos e, if_pos (by omega)]
    · rw [if_neg e, if_neg (by omega)]
theorem lxk_end {l bs : List Nat} (hl : Lanes l) (hb : bs.length = 136) (hlt : allLt8 bs) : lperm (lxk l (kwd (bs ++ List.replicate 64 0)) 25) = labs l bs 0 := by
  rw [labs_block hl hb hlt]
  refine congrArg lperm ?_
  unfold lxk lane
  refine List.map_congr_left fun i hi => ?_
  have hi := List.mem_range.1 hi
  show (if i < 25 then _ else _) = _
  rw [if_pos hi]
theorem z64_app {bs : List Nat} (hb : bs.length = 136) (hlt : allLt8 bs) : (bs ++ List.replicate 64 0).length = 200 ∧ allLt8 (bs ++ List.replicate 64 0) := by
  refine ⟨by rw [List.length_append, hb, List.length_replicate], fun x hx => ?_⟩
  rcases List.mem_append.1 hx with h | h
  · exact hlt x h
  · exact zeros_lt8 64 x h
theorem size136 : (Tryd.prog.info? 33).map (·.size) = some 136 := by kernel_rfl

theorem splice200 {bs : List Nat} (hb : bs.length = 136) : splice (cells8 z200) 0 (cells8 bs) = cells8 (bs ++ List.replicate 64 0) := by
  unfold splice
  rw [c8_len, hb, List.take_zero, List.nil_append, Nat.zero_add]
  unfold cells8 z200
  rw [List.map_append, ← List.map_drop, List.drop_replicate]
set_option maxRecDepth 20000 in
set_option maxHeartbeats 2000000 in
theorem behind_c (l bs : List Nat) (w : World) (hl : Lanes l) (hb : bs.length = 136) (hlt : allLt8 bs) (hG : GlobK w) :
    Calls Tryd.prog 20 #[st l, .agg (cells8 bs).toArray] w fun e w' => e = .returned (st (labs l bs 0)) ∧ Below w.heap.size w w' := by
  have hlen := st_len hl
  have hlen8 : (cells8 bs).length = 136 := by rw [c8_len, hb]
  have hz := zero200
  obtain ⟨L, hL⟩ : ∃ L, L = labs l bs 0 := ⟨_, rfl⟩
  rw [← hL]
  have HL := hid hL
  have HLL := hid (show Lanes L by rw [hL]; exact labs_lanes hlt 0)
  clear hL
  have HEnd := hid (lxk_end hl hb hlt)
  rw [← HL.out] at HEnd
  obtain ⟨hz1, hz2⟩ := z64_app hb hlt
  have HSP := hid (splice200 hb)
  generalize bs ++ List.replicate 64 0 = zs at *
  have hD := kwd_lanes hz2
  have HS0 : Hid (w.heap.size = w.heap.size) := rfl
  have a0 := (((oW_new w 31 l hl.all).alloc (.cells (cells8 bs).toArray 33)).alloc (zS 31)).alloc (o200 40)
  have a1 := (((BlkB.new (w.alloc (oW 31 l)) 33 bs hlt)).alloc (zS 31)).alloc (o200 40)
  have a2 := (zS_new ((w.alloc (oW 31 l)).alloc (.cells (cells8 bs).toArray 33)) 31).alloc (o200 40)
  have a3 := o200_new (((w.alloc (oW 31 l)).alloc (.cells (cells8 bs).toArray 33)).alloc (zS 31)) 40
  have a4 := ((((Below.refl w.heap.size w).alloc (Nat.le_refl _) (oW 31 l)).alloc (by simp) (.cells (cells8 bs).toArray 33)).alloc (by simp; omega) (zS 31)).alloc (by simp; omega) (o200 40)
  rw [show (w.alloc (oW 31 l)).heap.size = w.heap.size + 1 by simp] at a1
  rw [show ((w.alloc (oW 31 l)).alloc (.cells (cells8 bs).toArray 33)).heap.size = w.heap.size + 1 + 1 by simp] at a2
  rw [show (((w.alloc (oW 31 l)).alloc (.cells (cells8 bs).toArray 33)).alloc (zS 31)).heap.size = w.heap.size + 1 + 1 + 1 by simp] at a3
  unfold st
  go_enter Tryd.func20, Tryd.ntmps20
  go_wp2
  change Code.wp _ _ _ _ ((((w.alloc (oW 31 l)).alloc (.cells (cells8 bs).toArray 33)).alloc (zS 31)).alloc (o200 40))
  generalize (((w.alloc _).alloc _).alloc _).alloc _ = w0 at *
  have A0 := hid a0.drew'
  have A1 := hid a1.drew
  have A2 := hid a2.drew'
  have A3 := hid a3.drew
  have A4 := hid a4.drew
  have HG := hid hG
  have src := src8 ((a1.drew).rd (B := w0.drew.heap.size) a1.drew.size) (by rw [hb]; decide)
  clear a0 a1 a2 a3 a4 hG hlen hz
  go_region_law (
    refine step_copy_splice rfl (.tmp 10) (.tmp 11) 22 22 rfl 5 Tryd.underlying22 (by kernel_rfl) (some ⟨w.heap.size + 1 + 1 + 1, 0, none⟩) (some ⟨w.heap.size + 1, 0, none⟩) 200 200 136 136 rfl rfl
        (w.heap.size + 1 + 1 + 1) 0 (cells8 z200) 40 A3.out.heap (cells8 bs) (by rw [hlen8]; rfl) (fun _ => ⟨rfl, src⟩) (by rw [hlen8, c8_len]; decide) (one8 bs) (w.heap.size + 1 + 1 + 1) _ (Below.refl _ _) (Nat.le_refl _) ?_; intro w2 hg2 hb2)
  have d3 : BlkB w2 (w.heap.size + 1 + 1 + 1) 40 zs := ⟨by rw [← HSP.out]; exact hg2.out, hz2⟩
  have d0 := A0.out.below hb2 (show w.heap.size < w.heap.size + 1 + 1 + 1 by omega)
  have d2 := A2.out.below hb2 (show w.heap.size + 1 + 1 < w.heap.size + 1 + 1 + 1 by omega)
  have d4 := A4.out.trans (hb2.mono (show w.heap.size ≤ w.heap.size + 1 + 1 + 1 by omega))
  have hG2 := HG.out.up d4
  have hr3 := d3.rd (B := w2.heap.size) d3.size
  rw [hz1] at hr3
  have D0 := hid d0
  have D2 := hid d2
  have D4 := hid d4
  have HD := hid hD
  clear d0 d2 d3 d4 hg2 hb2 A0 A1 A2 A3 A4 src hD
  go_wp2_with fail
  refine (kofBytes_f _ 200 zs w2 hr3).mono ?_
  rintro e w3 ⟨rfl, b3⟩
  obtain ⟨D, hDD⟩ : ∃ D, D = kwd zs := ⟨_, rfl⟩
  rw [← hDD] at HEnd HD ⊢
  obtain ⟨hst, hn, hbn⟩ := new_st w3 31 HD.out
  have hb3 := bchain b3 hbn
  have E0 : Hid (BlkW ((w3.alloc (zS 31)).setCells w3.heap.size 0 (cellsOf64 D)) w.heap.size 31 (lxk l D 0) ∧ BlkW ((w3.alloc (zS 31)).setCells w3.heap.size 0 (cellsOf64 D)) (w.heap.size + 1 + 1) 31 l0 ∧ Below w.heap.size w ((w3.alloc (zS 31)).setCells w3.heap.size 0 (cellsOf64 D))) := by
    refine ⟨?_, D2.out.up hb3, bchain D4.out hb3⟩
    rw [lxk_zero hl HD.out]
    exact D0.out.up hb3
  have HO := hid hn.range
  have HSz := hid (st_size HD.out)
  have hlenD := st_len HD.out
  have HLn := hid hl
  clear b3 hbn hb3 hn D0 D2 D4 hr3 hDD hl hb hlt hlen8 hz1 hz2 HSP HL
  unfold zS at hst E0 HO
  unfold st
  go_wp2_with (with_reducible refine wpList_load_mid rfl 31 (.tmp 6) rfl w3.heap.size 0 rfl (cellsOf64 D) _ HO.out Tryd.underlying31 rfl HSz.out ?_)
  clear hst HO
  generalize ((w3.alloc _).setCells _ _ _) = w4 at *
  generalize w3.heap.size = b6 at *
  clear hG2 hlenD
  go_loopw [19] (fun i wr => ∃ k : Nat, k ≤ 25 ∧ i = .int .i64 k ∧ BlkW wr w.heap.size 31 (lxk l D k) ∧ BlkW wr (w.heap.size + 1 + 1) 31 l0 ∧ Below w.heap.size w wr) (fun i _ => 25 - (intOf i).toNat)
  case atStart => exact ⟨0, by omega, rfl, E0.out⟩
  case round =>
    clear E0
    obtain ⟨k, hk, rfl, h1, h2, h4⟩ := hrel
    by_cases hlt : k < 25
    · have i2 : (k : Int) < 25 := by omega
      have c0 := h1.cell (i := k) (by rw [(lxk_lanes HLn.out HD.out k).len]; exact hlt)
      have f0 := h1.frozen k
      obtain ⟨u, hu⟩ : ∃ u, u = l.getD k 0 := ⟨_, rfl⟩
      have g0 : at64 (lxk l D k) k = (u : Int) := by unfold at64; rw [lxk_at l D k hlt, if_neg (Nat.lt_irrefl _), hu]
      rw [g0] at c0
      have hix := index_st wr HD.out hlt
      obtain ⟨z, hzz⟩ : ∃ z, z = l.getD k 0 ^^^ D.getD k 0 := ⟨_, rfl⟩
      have d1 : bits .xor .u64 (u : Int) (at64 D k) = (z : Int) := by
        unfold at64; rw [hu, bits_xor_u64_nat _ _ (HLn.out.at_ _) (HD.out.at_ _), hzz]
      have hz64 : z < 18446744073709551616 := by rw [hzz]; exact xor64_lt (HLn.out.at_ _) (HD.out.at_ _)
      have N1 : Hid (BlkW (wr.setCell ⟨w.heap.size, k, none⟩ (.int .u64 (z : Int))) w.heap.size 31 (lxk l D (k + 1))) := by
        have := h1.set k z hz64
        rw [hzz, lxk_succ HLn.out HD.out hlt, ← hzz] at this
        exact this
      have N2 := hid (h2.otherC (c := w.heap.size) (i := k) (v := .int .u64 (z : Int)) (by omega))
      have N4 := hid (h4.setCell (p := ⟨w.heap.size, k, none⟩) (Nat.le_refl _) (.int .u64 (z : Int)))
      clear h1 h2 h4 hzz hz64 g0 hu
      go_wp2
      go_roundw
      case rel => exact ⟨k + 1, by omega, by go_num, N1.out, N2.out, N4.out⟩
      case measure => simp [intOf]; omega
    · obtain rfl : k = 25 := by omega
      have HX := hid (lxk_lanes HLn.out HD.out 25)
      have HEnd2 := HEnd
      generalize lxk l D 25 = X at *
      have HO := hid h1.range
      have HSX := hid (st_size HX.out)
      have H2 := hid h2
      have H4 := hid h4
      clear h1 h2 h4
      go_wp2_with (with_reducible refine wpList_load_mid rfl 31 (.tmp 2) rfl w.heap.size 0 rfl (cellsOf64 X) _ HO.out Tryd.underlying31 rfl HSX.out ?_)
      refine (permute_c X wr HX.out (HG.out.up H4.out)).mono ?_
      rintro e w5 ⟨rfl, b5⟩
      rw [HEnd.out]
      obtain ⟨hst, HR⟩ := st_stored HLL.out (H2.out.up b5)
      have HB := hid (bchain H4.out b5)
      have hlenL := st_len HLL.out
      clear b5 H2 H4 HO
      unfold st
      go_wp2
      refine bodyPost_ret (st_result HLL.out Tryd.results20 rfl HR) rfl ?_
      exact ⟨rfl, below_cells (by omega) _ _ _ HB.out⟩
end Go.Proofs.YteogjnendkbjcaaDoor
