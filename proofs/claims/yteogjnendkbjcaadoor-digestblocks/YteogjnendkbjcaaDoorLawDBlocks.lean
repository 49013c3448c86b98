/-
  avouchlaw07.DigestBlocks: the walk.
-/
import Derived.Test.YteogjnendkbjcaaDoorDhI
import Derived.Test.YteogjnendkbjcaaDoorDrB
namespace Go.Proofs.YteogjnendkbjcaaDoor
open Go.RowKit
set_option linter.unusedVariables false
set_option linter.unusedSimpArgs false

theorem bits_xor_u8_nat (a b : Nat) (ha : a < 256) (hb : b < 256) : bits .xor .u8 (a : Int) (b : Int) = ((a ^^^ b : Nat) : Int) := by
  have hx : a ^^^ b < 256 := xor8_lt ha hb
  have h1 : (BitVec.ofInt 8 (a : Int)).toNat = a := by
    rw [BitVec.ofInt_natCast, BitVec.toNat_ofNat]; exact Nat.mod_eq_of_lt (by omega)
  have h2 : (BitVec.ofInt 8 (b : Int)).toNat = b := by
    rw [BitVec.ofInt_natCast, BitVec.toNat_ofNat]; exact Nat.mod_eq_of_lt (by omega)
  show IntKind.u8.wrap ((BitVec.ofInt 8 (a : Int) ^^^ BitVec.ofInt 8 (b : Int)).toNat : Int) = _
  rw [BitVec.toNat_xor, h1, h2, IntKind.wrap_u8]
  omega
/-- 200 bytes laid into a new variable. -/
theorem new_200d (w : World) {bs : List Nat} (h : bs.length = 200) (hlt : allLt8 bs) : (storeCells ⟨w.heap.size, 0, none⟩ (cells8 bs)).run Tryd.prog (w.alloc (o200 40)) = .ok () ((w.alloc (o200 40)).setCells w.heap.size 0 (cells8 bs)) ∧
    BlkB ((w.alloc (o200 40)).setCells w.heap.size 0 (cells8 bs)) w.heap.size 40 bs ∧ Below w.heap.size w ((w.alloc (o200 40)).setCells w.heap.size 0 (cells8 bs)) := by
  have h0 := o200_new w 40
  have hth := h0.there
  rw [z200_len'] at hth
  exact ⟨store8 w.heap.size bs _ (by rw [h]; exact hth), h0.overB bs (by rw [h, z200_len']) hlt, below_cells (Nat.le_refl _) _ _ _ ((Below.refl _ _).alloc (Nat.le_refl _) _)⟩
/-- What is kept: the last state's bytes, the digest. -/
structure EnvDB (w : World) (ks D : List Nat) (p q : Nat) (v : World) : Prop where
  x : BlkB v p 40 ks
  y : BlkB v q 24 D
  b : Below w.heap.size w v
theorem EnvDB.up {w : World} {ks D : List Nat} {p q : Nat} {v v' : World} (h : EnvDB w ks D p q v) (hb : Below v.heap.size v v') : EnvDB w ks D p q v' := ⟨h.x.up hb, h.y.up hb, bchain h.b hb⟩
/-- What is kept in the loops: the state. -/
structure EnvDL (w2 : World) (sb : Nat) (L : List Nat) (v : World) : Prop where
  s : BlkW v sb 31 L
  b : Below w2.heap.size w2 v
theorem EnvDL.up {w2 : World} {sb : Nat} {L : List Nat} {v v' : World} (h : EnvDL w2 sb L v) (hb : Below v.heap.size v v') : EnvDL w2 sb L v' := ⟨h.s.up hb, bchain h.b hb⟩

set_option maxRecDepth 100000 in
set_option maxHeartbeats 4000000 in
theorem digestBlocks_w (A : Option Addr) (n c : Nat) (b : List Nat) (w : World) (ha : Rd8 w w.heap.size A n b) (hc : n ≤ c) (hG : GlobK w) :
    Calls Tryd.prog 6 #[.slice A n c] w fun e w' => e = .returned (.bool true) ∧ Below w.heap.size w w' := by
  have HA := hid ha
  have HG := hid hG
  have HC := hid hc
  clear ha hG hc
  by_cases hbig : 700 < n
  · have i1 : (700 : Int) < (n : Int) := by omega
    clear hbig
    go_enter Tryd.func6, Tryd.ntmps6
    go_wp2_with fail
    refine (speaks7_c w HG.out).mono ?_
    rintro e w1 ⟨rfl, b1⟩
    go_wp2_with fail
    refine (speaks7_c w1 (HG.out.up b1)).mono ?_
    rintro e w2 ⟨rfl, b2⟩
    go_wp2
    go_ret
    exact ⟨rfl, bchain b1 b2⟩
  · have i1 : decide ((700 : Int) < (n : Int)) = false := decide_eq_false (by omega)
    have hn := (show n ≤ 700 by omega)
    clear hbig
    go_enter Tryd.func6, Tryd.ntmps6
    go_wp2_with fail
    refine (speaks7_c w HG.out).mono ?_
    rintro e w1 ⟨rfl, b1⟩
    have B1 := hid b1
    clear b1
    go_wp2_with fail
    refine (pad_c A n c b w1 (HA.out.up B1.out (Nat.le_refl _)) hn).mono ?_
    rintro e w2 ⟨vp, rfl, hown, hb2⟩
    obtain ⟨Ap, cp, rfl, hcp, hrp⟩ := hown.rd
    obtain ⟨N, hN⟩ : ∃ N, N = n / 136 + 1 := ⟨_, rfl⟩
    have hpl : (padB b).length = 136 * N := by rw [padB_len, HA.out.len, hN]; rfl
    have HDg : Hid (dig b = (kby (lblk (padB b) N)).take 32) := by rw [hN, ← HA.out.len]; exact rfl
    have HPL := hid (padB_lt HA.out.lt)
    rw [hpl] at hrp hcp ⊢
    generalize padB b = p at *
    obtain ⟨bp, op, rfl, hbp, _⟩ := hrp.cells (by rw [hN]; omega)
    have HP := hid hrp
    have B2 := hid (bchain B1.out hb2)
    have HG2 := hid (HG.out.up B2.out)
    have hN6 : N ≤ 6 := by rw [hN]; omega
    have E0 : Hid (EnvDL w2 w2.heap.size (lblk p 0) (w2.alloc (zS 31))) := ⟨zS_new w2 31, (Below.refl _ _).alloc (Nat.le_refl _) _⟩
    clear hown hb2 hrp hcp hpl hN hn B1
    unfold zS at E0
    go_wp2
    generalize w2.alloc _ = w3 at *
    go_loopw [5] (fun i wr => ∃ k : Nat, k ≤ N ∧ i = .int .i64 ((136 * k : Nat) : Int) ∧ EnvDL w2 w2.heap.size (lblk p k) wr) (fun i _ => 136 * N - (intOf i).toNat)
    case atStart => exact ⟨0, Nat.zero_le _, rfl, E0.out⟩
    case round =>
      clear E0
      obtain ⟨k, hk, rfl, hE⟩ := hrel
      have HLb := hid (lblk_lanes HPL.out k)
      by_cases hlt : k < N
      · have i2 : ((136 * k : Nat) : Int) < ((136 * N : Nat) : Int) := by omega
        have HS := hid (lblk_succ p k)
        have HXL := hid (xorb_lt (kby_lt (lblk p k)) HPL.out k)
        have HLS := hid (lblk_lanes HPL.out (k + 1))
        obtain ⟨L, hL⟩ : ∃ L, L = lblk p k := ⟨_, rfl⟩
        rw [← hL] at hE HLb HS HXL
        clear hL
        obtain ⟨at_, hat⟩ : ∃ a, a = 136 * k := ⟨_, rfl⟩
        rw [← hat] at i2 ⊢
        have HAT := hid hat
        have i7 : (at_ : Int) ≤ 1000 := by omega
        obtain ⟨pl, hpl⟩ : ∃ a, a = 136 * N := ⟨_, rfl⟩
        rw [← hpl] at i2 HP ⊢
        have HPN := hid hpl
        clear hat hpl
        obtain ⟨w4, rfl⟩ : ∃ x, x = wr := ⟨wr, rfl⟩
        have O4 := hid hE.s.range
        have HSz := hid (st_size HLb.out)
        have HE4 := hid hE
        clear hE
        go_wp2_with (with_reducible refine wpList_load_mid rfl 31 (.tmp 4) rfl w2.heap.size 0 rfl (cellsOf64 L) _ O4.out Tryd.underlying31 rfl HSz.out ?_)
        refine (kbytes_f L w4 HLb.out).mono ?_
        rintro e w5 ⟨rfl, b5⟩
        have HKL := hid (kby_len L)
        have HKB := hid (kby_lt L)
        generalize kby L = bs at *
        obtain ⟨hst, hn, hbn⟩ := new_200d w5 HKL.out HKB.out
        have hE5 := (HE4.out.up b5).up hbn
        have R1 : Hid (BlkB ((w5.alloc (o200 40)).setCells w5.heap.size 0 (cells8 bs)) w5.heap.size 40 (xbk bs p k 0) ∧ EnvDL w2 w2.heap.size L ((w5.alloc (o200 40)).setCells w5.heap.size 0 (cells8 bs))) := ⟨by rw [xbk_zero HKL.out]; exact hn, hE5⟩
        have HSB := hid (show w2.heap.size < w5.heap.size from (HE4.out.up b5).s.size)
        have hlb : (cells8 bs).length = 200 := by rw [c8_len, HKL.out]
        have hl0 : (cells8 z200).length = 200 := by rw [c8_len, z200_len']
        have hz := zero200
        clear b5 hbn hn hE5 HE4 O4
        unfold o200 at hst R1
        go_wp2_with fail
        clear hst hlb hl0 hz
        generalize ((w5.alloc _).setCells _ _ _) = w6 at *
        generalize w5.heap.size = bx at *
        go_loopw [30] (fun i wj => ∃ j : Nat, j ≤ 136 ∧ i = .int .i64 (j : Int) ∧ BlkB wj bx 40 (xbk bs p k j) ∧ EnvDL w2 w2.heap.size L wj) (fun i _ => 136 - (intOf i).toNat)
        case atStart => exact ⟨0, Nat.zero_le _, rfl, R1.out⟩
        case round =>
          clear R1
          obtain ⟨j, hj, rfl, hX, hE⟩ := hrel
          by_cases hlt2 : j < 136
          · have i3 : (j : Int) < 136 := by omega
            obtain ⟨u, hu⟩ : ∃ u, u = bs.getD j 0 := ⟨_, rfl⟩
            obtain ⟨q, hq⟩ : ∃ q, q = at_ + j := ⟨_, rfl⟩
            obtain ⟨v, hv2⟩ : ∃ v, v = p.getD q 0 := ⟨_, rfl⟩
            have hql : q < pl := by rw [hq, HAT.out, HPN.out]; omega
            have c0 := hX.cell (i := j) (by rw [xbk_len]; omega)
            rw [show at64 (xbk bs p k j) j = (u : Int) by unfold at64; rw [xbk_at _ _ _ _ (by omega), if_neg (Nat.lt_irrefl _), hu]] at c0
            have f0 := hX.frozen j
            obtain ⟨bp', op', e, _, hc1⟩ := (HP.out.below hE.b (Nat.le_refl _)).at_ hql
            obtain ⟨rfl, rfl⟩ : bp = bp' ∧ op = op' := by
              simp only [Option.some.injEq, Addr.mk.injEq, and_true] at e
              exact e
            rw [show at64 p q = (v : Int) by unfold at64; rw [hv2]] at hc1
            have hu8 : u < 256 := by rw [hu]; exact getD_lt _ (by decide) _ HKB.out j
            have hv8 : v < 256 := by rw [hv2]; exact getD_lt _ (by decide) _ HPL.out q
            obtain ⟨z, hz⟩ : ∃ z, z = u ^^^ v := ⟨_, rfl⟩
            have d2 : bits .xor .u8 (u : Int) (v : Int) = (z : Int) := by rw [bits_xor_u8_nat u v hu8 hv8, hz]
            have n1 := hX.setB j z (by rw [hz]; exact xor8_lt hu8 hv8)
            rw [show (xbk bs p k j).set j z = xbk bs p k (j + 1) by rw [hz, hu, hv2, hq, HAT.out]; exact xbk_succ (by omega)] at n1
            have N1 : Hid (BlkB (wr.setCell ⟨bx, j, none⟩ (.int .u8 (z : Int))).drew bx 40 (xbk bs p k (j + 1))) := n1.drew
            have N2 : Hid (EnvDL w2 w2.heap.size L (wr.setCell ⟨bx, j, none⟩ (.int .u8 (z : Int))).drew) := by
              have hlt3 := HSB.out
              exact ⟨(hE.s.otherC (by omega)).drew', (hE.b.setCell (p := ⟨bx, j, none⟩) (Nat.le_of_lt hlt3) _).drew⟩
            have d1 : IntKind.i64.wrap ((at_ : Int) + (j : Int)) = (q : Int) := by rw [IntKind.wrap_i64, hq]; have := HAT.out; omega
            have i4 : (0 : Int) ≤ (q : Int) := by omega
            have i5 : (q : Int) < (pl : Int) := by omega
            have i6 : (j : Int) < 200 := by omega
            clear hX hE hz hu hv2 hq hu8 hv8 n1 hql
            go_wp2
            go_still_tail 11, (by kernel_rfl)
            change wpList _ _ _ _ _ wr.drew
            clear d1 d2
            go_wp2
            go_roundw
            case rel => exact ⟨j + 1, by omega, by go_num, N1.out, N2.out⟩
            case measure => simp [intOf]; omega
          · have i3 : ¬ (j : Int) < 136 := by omega
            obtain rfl : j = 136 := by omega
            rw [xbk_end] at hX
            have HX2 := hid (xorb_len bs p k)
            generalize xorb bs p k = xs at *
            have hrd := hX.rd hX.size
            rw [HX2.out] at hrd
            have HE6 := hid hE
            clear hX hE i3
            go_wp2_with fail
            refine (kofBytes_f _ 200 xs wr hrd).mono ?_
            rintro e w7 ⟨rfl, b7⟩
            have HKX := hid (kwd_lanes HXL.out)
            generalize kwd xs = M at *
            obtain ⟨hst, hn, hbn⟩ := new_st w7 31 HKX.out
            have E7 := hid ((HE6.out.up b7).up hbn)
            have O7 := hid hn.range
            have hlM := st_len HKX.out
            have HSM := hid (st_size HKX.out)
            clear b7 hbn hn HE6 hrd
            unfold zS at hst E7 O7
            unfold st
            go_wp2_with (with_reducible refine wpList_load_mid rfl 31 (.tmp 8) rfl w7.heap.size 0 rfl (cellsOf64 M) _ O7.out Tryd.underlying31 rfl HSM.out ?_)
            clear hst hlM O7
            generalize ((w7.alloc _).setCells _ _ _) = w8 at *
            generalize w7.heap.size = b8 at *
            refine (permute_c M w8 HKX.out (HG2.out.up E7.out.b)).mono ?_
            rintro e w9 ⟨rfl, b9⟩
            rw [← HS.out]
            have E9 := E7.out.up b9
            obtain ⟨L1, hL1⟩ : ∃ x, x = lblk p (k + 1) := ⟨_, rfl⟩
            rw [← hL1] at HLS ⊢
            have hth := E9.s.there
            rw [HLb.out.len] at hth
            have hst := store64 w2.heap.size L1 w9 (by rw [HLS.out.len]; exact hth)
            have hl1 := st_len HLS.out
            have EF : Hid (EnvDL w2 w2.heap.size (lblk p (k + 1)) (w9.setCells w2.heap.size 0 (cellsOf64 L1))) := by
              rw [← hL1]
              exact ⟨E9.s.overW L1 (by rw [HLS.out.len, HLb.out.len]) HLS.out.all, below_cells (Nat.le_refl _) _ _ _ E9.b⟩
            clear b9 hth E9 E7 hL1
            unfold st
            go_wp2
            go_roundw
            case rel => exact ⟨k + 1, by omega, by have := HAT.out; exact congrArg (Value.int .i64) (by omega), EF.out⟩
            case measure => have := HAT.out; have := HPN.out; simp [intOf]; omega
      · have i2 : ¬ ((136 * k : Nat) : Int) < ((136 * N : Nat) : Int) := by omega
        have hkN : k = N := by omega
        rw [hkN] at hE HLb
        obtain ⟨L, hL⟩ : ∃ L, L = lblk p N := ⟨_, rfl⟩
        rw [← hL] at hE HLb HDg
        have O4 := hid hE.s.range
        have HSz := hid (st_size HLb.out)
        have HE4 := hid (show Below w.heap.size w wr from bchain B2.out hE.b)
        clear hE hL hkN
        go_wp2_with (with_reducible refine wpList_load_mid rfl 31 (.tmp 4) rfl w2.heap.size 0 rfl (cellsOf64 L) _ O4.out Tryd.underlying31 rfl HSz.out ?_)
        refine (kbytes_f L wr HLb.out).mono ?_
        rintro e w5 ⟨rfl, b5⟩
        have HKL := hid (kby_len L)
        have HKB := hid (kby_lt L)
        generalize kby L = ks at *
        have B5 := hid (bchain HE4.out b5)
        have hP := hid (RdP.one 22 (HA.out.up B5.out (Nat.le_refl _)) HC.out)
        have HB6 := hid (bchain B5.out ((Below.refl w5.heap.size w5).alloc (Nat.le_refl _) (.cells #[.slice A n c] 22)))
        clear b5 HE4 O4
        go_wp2_with fail
        refine (dsum_c _ 1 1 [b] _ hP.out (by decide) (HG.out.up HB6.out)).mono ?_
        rintro e w7 ⟨rfl, b7⟩
        rw [show [b].flatten = b by simp]
        obtain ⟨D, hD⟩ : ∃ D, D = dig b := ⟨_, rfl⟩
        rw [← hD] at HDg ⊢
        have HDL := hid (show D.length = 32 by rw [hD]; exact dig_len b)
        have HDB := hid (show allLt8 D by rw [hD]; exact dig_lt b)
        clear hD
        have B7 := hid (bchain HB6.out b7)
        have e1 : (w7.alloc (o200 40)).heap.size = w7.heap.size + 1 := by simp
        have y1 := (o200_new w7 40).alloc (o32d 24)
        have y2 := o32d_new (w7.alloc (o200 40)) 24
        rw [e1] at y2
        have y3 := ((Below.refl w7.heap.size w7).alloc (Nat.le_refl _) (o200 40)).alloc (by simp) (o32d 24)
        have th1 := y1.there
        rw [z200_len'] at th1
        have hst1 := store8 w7.heap.size ks _ (by rw [HKL.out]; exact th1)
        have y2' := y2.putB (show w7.heap.size + 1 ≠ w7.heap.size by omega) (cells8 ks) 0
        have th2 := y2'.there
        rw [z32d_len] at th2
        have hst2 := store8 (w7.heap.size + 1) D _ (by rw [HDL.out]; exact th2)
        have y1' := (y1.overB ks (by rw [HKL.out, z200_len']) HKB.out).putB (show w7.heap.size ≠ w7.heap.size + 1 by omega) (cells8 D) 0
        have y2'' := y2'.overB D (by rw [HDL.out, z32d_len]) HDB.out
        have y3' := below_cells (B := w7.heap.size) (show w7.heap.size ≤ w7.heap.size + 1 by omega) (cells8 D) 0 _ (below_cells (B := w7.heap.size) (Nat.le_refl w7.heap.size) (cells8 ks) 0 _ y3)
        have EF : Hid (EnvDB w ks D w7.heap.size (w7.heap.size + 1) ((((w7.alloc (o200 40)).alloc (o32d 24)).setCells w7.heap.size 0 (cells8 ks)).setCells (w7.heap.size + 1) 0 (cells8 D))) := ⟨y1', y2'', bchain B7.out y3'⟩
        have hlb : (cells8 ks).length = 200 := by rw [c8_len, HKL.out]
        have hl0 : (cells8 z200).length = 200 := by rw [c8_len, z200_len']
        have hl8 : (cells8 D).length = 32 := by rw [c8_len, HDL.out]
        have hlz : (cells8 z32d).length = 32 := by rw [c8_len, z32d_len]
        have hz := zero200
        have hz2 := zero32d
        clear b7 B7 e1 y1 y2 y3 th1 y2' th2 y1' y2'' y3' hP HB6 B5
        unfold o200 o32d at hst1 hst2 EF
        go_wp2_with fail
        clear hst1 hst2 hlb hl0 hl8 hlz hz hz2
        generalize ((((w7.alloc _).alloc _).setCells _ _ _).setCells _ _ _) = w8 at *
        generalize w7.heap.size + 1 = q at *
        generalize w7.heap.size = x at *
        have EX : EnvDB w ks D x q w8.drew := EF.out.up (Below.refl _ _).drew
        clear EF
        go_cut [2] (fun s wx => s = .bool true ∧ EnvDB w ks D x q wx)
        case first =>
          obtain ⟨sb, hsb⟩ : ∃ s, s = strOfNums (D.map fun (x : Nat) => (x : Int)) := ⟨_, rfl⟩
          have V1 : ∀ v, EnvDB w ks D x q v → (convert 22 9 (.slice (some ⟨q, 0, none⟩) 32 32)).run Tryd.prog v = .ok (.string sb) v := fun v h => by rw [hsb]; exact conv_32 h.y HDL.out 32
          have V2 : ∀ v, EnvDB w ks D x q v → (convert 22 9 (.slice (some ⟨x, 0, none⟩) 32 200)).run Tryd.prog v = .ok (.string sb) v := fun v h => by
            have hr : Rd8 v v.heap.size (some ⟨x, 0, none⟩) 32 D := by
              refine ⟨HDL.out, HDB.out, fun _ => ⟨x, 0, rfl, h.x.size, fun i hi => ?_⟩⟩
              rw [Nat.zero_add, h.x.cell (by rw [HKL.out]; omega), HDg.out]
              simp [at64, List.getD_eq_getElem?_getD, hi]
            rw [hsb]
            exact conv8l hr (by decide) 200
          have F4 : ∀ v, (Instr.sliceAt 24 (.pointer (some ⟨q, 0, none⟩)) none none none).run Tryd.prog v = .ok (.slice (some ⟨q, 0, none⟩) 32 32) v := fun v => by kernel_rfl
          have F5 : ∀ v, (Instr.sliceAt 40 (.pointer (some ⟨x, 0, none⟩)) none (some (.int .i64 32)) none).run Tryd.prog v = .ok (.slice (some ⟨x, 0, none⟩) 32 200) v := fun v => by kernel_rfl
          have HMX : Tryd.prog.follows .mixedOrders = true := by kernel_rfl
          clear hsb HDL HDB HA HG HC HDg HKL HKB HP HG2 HPL
          refine wp_region_held_drew (S := fun v => EnvDB w ks D x q v) HMX EX (fun hHeld => ?_)
          refine wpAnyH_take (i := 0) (v := ?_) rfl (by kernel_rfl) (by kernel_rfl) (by kernel_rfl) (fun _ _ _ h => h) (Or.inl ⟨by rfl, fun v hv => ?_⟩) (by with_reducible assumption) ?_
          rotate_left
          · go_simp
            try with_reducible rfl
          simp only [Act.put, List.setIfInBounds_toArray, List.set_cons_zero, List.set_cons_succ, List.getElem_toArray, List.getElem_cons_zero, List.getElem_cons_succ]
          refine wpAnyH_take (i := 1) (v := ?_) rfl (by kernel_rfl) (by kernel_rfl) (by kernel_rfl) (fun _ _ _ h => h) (Or.inl ⟨by rfl, fun v hv => ?_⟩) (by with_reducible assumption) ?_
          rotate_left
          · go_simp
            try with_reducible rfl
          simp only [Act.put, List.setIfInBounds_toArray, List.set_cons_zero, List.set_cons_succ, List.getElem_toArray, List.getElem_cons_zero, List.getElem_cons_succ]
          refine wpAnyH_take (i := 2) (v := ?_) rfl (by kernel_rfl) (by kernel_rfl) (by kernel_rfl) (fun _ _ _ h => h) (Or.inl ⟨by rfl, fun v hv => ?_⟩) (by with_reducible assumption) ?_
          rotate_left
          · go_simp
            try with_reducible rfl
          simp only [Act.put, List.setIfInBounds_toArray, List.set_cons_zero, List.set_cons_succ, List.getElem_toArray, List.getElem_cons_zero, List.getElem_cons_succ]
          refine wpAnyH_take (i := 3) (v := ?_) rfl (by kernel_rfl) (by kernel_rfl) (by kernel_rfl) (fun _ _ _ h => h) (Or.inl ⟨by rfl, fun v hv => ?_⟩) (by with_reducible assumption) ?_
          rotate_left
          · go_simp
            try with_reducible rfl
          simp only [Act.put, List.setIfInBounds_toArray, List.set_cons_zero, List.set_cons_succ, List.getElem_toArray, List.getElem_cons_zero, List.getElem_cons_succ]
          refine wpAnyH_take (i := 4) (v := ?_) rfl (by kernel_rfl) (by kernel_rfl) (by kernel_rfl) (fun _ _ _ h => h) (Or.inl ⟨by rfl, fun v hv => ?_⟩) (by with_reducible assumption) ?_
          rotate_left
          · go_simp
            try with_reducible rfl
          simp only [Act.put, List.setIfInBounds_toArray, List.set_cons_zero, List.set_cons_succ, List.getElem_toArray, List.getElem_cons_zero, List.getElem_cons_succ]
          refine wpAnyH_take (i := 5) (v := ?_) rfl (by kernel_rfl) (by kernel_rfl) (by kernel_rfl) (fun _ _ _ h => h) (Or.inl ⟨by rfl, fun v hv => ?_⟩) (by with_reducible assumption) ?_
          rotate_left
          · go_simp
            try with_reducible rfl
          simp only [Act.put, List.setIfInBounds_toArray, List.set_cons_zero, List.set_cons_succ, List.getElem_toArray, List.getElem_cons_zero, List.getElem_cons_succ]
          refine wpAnyH_done (by kernel_rfl) ?_ _
          go_wp2_with fail
          go_meet
          exact ⟨rfl, EX⟩
        case rest =>
          obtain ⟨rfl, hE⟩ := hcut
          clear EX
          go_wp2
          go_ret
          exact ⟨rfl, hE.b⟩
end Go.Proofs.YteogjnendkbjcaaDoor
