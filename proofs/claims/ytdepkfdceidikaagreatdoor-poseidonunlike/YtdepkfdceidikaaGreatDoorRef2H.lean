import Derived.Test.YtdepkfdceidikaaGreatDoorRef2G
import Derived.Deep.RegionHeld3
import Derived.StillTailTactics
import Derived.Test.YtdepkfdceidikaaGreatDoorLOpsC
/-
  avouchref02.Mul: what the call does.
-/
namespace Go.Proofs.YtdepkfdceidikaaGreatDoor
open Go.RowKit
set_option linter.unusedVariables false

theorem zero9 : val 4294967296 (List.replicate 9 0) = 0 := by unfold val; rw [pv_replicate]
theorem zero9_d : D32 (List.replicate 9 0) := by intro x hx; have := List.eq_of_mem_replicate hx; omega

theorem zc81 : Tryz.zeroCells143 = (cellsOf64 (List.replicate 81 0)).toArray := by kernel_rfl
theorem new81 (w : World) (L : List Nat) (hL : L = p9 ++ List.replicate 72 0) :
    ∃ wx, (storeCells ⟨w.heap.size, 0, none⟩ (cellsOf64 L)).run Tryz.prog (w.alloc (.cells Tryz.zeroCells143 143)) = .ok () wx ∧ Nine wx w.heap.size 1 L ∧ Below w.heap.size w wx := by
  have hB := BlkW.new64 w 143 (List.replicate 81 0) (zeros_all 81)
  have hlen : L.length = 81 := by rw [hL]; simp [p9]
  have hd : D32 L := by
    rw [hL]; intro x hx
    rcases List.mem_append.1 hx with h | h
    · simp only [p9, List.mem_cons, List.not_mem_nil, or_false] at h; omega
    · have := List.eq_of_mem_replicate h; omega
  rw [zc81]
  refine ⟨_, store9 w.heap.size 0 L _ (by rw [hlen]; exact hB.there), ⟨?_, hlen, hd, fun j hj => ?_⟩, below_cells (Nat.le_refl _) _ _ _ ((Below.refl _ _).alloc (Nat.le_refl _) _)⟩
  · have h := BlkW.sets (w := w) L 0 hB hd
    rw [sets_all (by rw [hlen]; simp)] at h
    exact h
  · have : j = 0 := by omega
    subst this
    rw [hL]; decide
theorem two_fits (k : Nat) (hk : k < 8) : 256 * 0 + 2 * (2 ^ k * pN) < 4294967296 ^ 9 := by
  have h1 : 2 ^ k ≤ 2 ^ 8 := Nat.pow_le_pow_right (by decide) (by omega)
  have h2 : 2 ^ k * pN ≤ 2 ^ 8 * pN := Nat.mul_le_mul_right _ h1
  have h3 : 2 * (2 ^ 8 * pN) < 4294967296 ^ 9 := by decide
  omega
/-- One multiple more. -/
theorem Nine.step {w : World} {b k : Nat} {L r : List Nat} (h : Nine w b k L) (hk : k < 9) (hr : r.length = 9) (dr : D32 r) (hv : val 4294967296 r = 2 ^ k * pN) : Nine (w.setCells b (k * 9) (cellsOf64 r)) b (k + 1) (sets L (k * 9) r) :=
  ⟨BlkW.sets (w := w) r (k * 9) h.blk dr, by rw [sets_length]; exact h.len, sets_d32 _ _ _ dr h.d, fun j hj => by
    by_cases e : j = k
    · subst e; rw [rowAt_sets_same h.len hr hk]; exact hv
    · rw [rowAt_sets_other h.len hr hk (by omega) e]; exact h.v j (by omega)⟩

theorem own_zero (w : World) : OwnW (w.alloc (.cells #[] 34)) w.heap.size (.slice (some ⟨w.heap.size, 0, none⟩) 0 0) [] := by
  have h := own_made w 0 (by omega)
  have e : zeros 0 = #[] := by rw [zeros_eq]; rfl
  rw [e] at h
  exact h
theorem new9 (w : World) (l : List Nat) (hl : l.length = 9) (hd : D32 l) :
    ∃ wx, (storeCells ⟨w.heap.size, 0, none⟩ (cellsOf64 l)).run Tryz.prog (w.alloc (.cells #[.int .u64 0, .int .u64 0, .int .u64 0, .int .u64 0, .int .u64 0, .int .u64 0, .int .u64 0, .int .u64 0, .int .u64 0] 141)) = .ok () wx ∧ BlkW wx w.heap.size 141 l ∧ Below w.heap.size w wx := by
  have hB := BlkW.new64 w 141 (List.replicate 9 0) (zeros_all 9)
  refine ⟨_, store9 w.heap.size 0 l _ (by rw [hl]; exact hB.there), ?_, below_cells (Nat.le_refl _) _ _ _ ((Below.refl _ _).alloc (Nat.le_refl _) _)⟩
  have h := BlkW.sets (w := w) l 0 hB hd
  rw [sets_all (by rw [hl]; simp)] at h
  exact h
set_option maxRecDepth 20000 in
set_option maxHeartbeats 4000000 in
theorem ref2Mul_c (u v : Value) (X Y : Nat) (w : World) (hu : Dg w u X) (hv : Dg w v Y) (hX : Hid (X < pN)) (hY : Hid (Y < pN)) :
    Calls Tryz.prog 69 #[u, v] w fun e w' => ∃ r, e = .returned r ∧ Dg w' r (X * Y % pN) ∧ Below w.heap.size w w' := by
  go_enter Tryz.func69, Tryz.ntmps69
  go_wp2_with fail
  refine (p2_c w).mono ?_
  rintro e w1 ⟨rp, rfl, hrp, b1⟩
  obtain ⟨Ap, cp, lp, rfl, hp1, hp2, hp3, hp4, hp5, hp6⟩ := hrp
  have hlp8 : lp.length ≤ 9 := Nat.le_trans (len_of_lt (n := 8) hp4 hp5 (by rw [hp6]; decide)) (by decide)
  have HP6 := hid hp6
  clear hp6
  go_wp2_with fail
  refine (rowOf_c Ap lp.length cp lp w1 hp3 hp4 hlp8).mono ?_
  rintro e w2 ⟨l9, rfl, hl9, hd9, hv9, b2⟩
  rw [HP6.out] at hv9
  have hb81 := build81 l9 (p9_of hl9 hd9 hv9)
  have b12 := bchain b1 b2
  obtain ⟨L, hL⟩ : ∃ L, L = p9 ++ List.replicate 72 0 := ⟨_, rfl⟩
  rw [← hL] at hb81
  have hLl : (cellsOf64 L).length = 81 := by rw [hL]; simp [cellsOf64, p9]
  obtain ⟨wx, hst, hN, bx⟩ := new81 w2 L hL
  have b1x := bchain b12 bx
  have hs2 := b12.size
  have hl9c : (cellsOf64 l9).length = 9 := by simp [cellsOf64, hl9]
  clear hL hv9 hd9 hl9 b1 b2 b12 hp3 hp4 hp5 hlp8 HP6
  go_wp2_with fail
  clear hst hb81 hLl hl9c
  go_loopw [6] (fun i wr => ∃ k : Nat, k ≤ 8 ∧ i = .int .i64 ((k : Int) + 1) ∧ (∃ L, Nine wr w2.heap.size (k + 1) L) ∧ Below w.heap.size w wr) (fun i _ => 10 - (intOf i).toNat)
  case atStart => exact ⟨0, by omega, rfl, ⟨L, hN⟩, b1x⟩
  case round =>
    obtain ⟨k, hk, rfl, ⟨L', hN'⟩, hbl⟩ := hrel
    clear hN bx b1x
    by_cases hlt : k < 8
    · have HR := hid (hN'.blk.rowRange hN'.len (k := k) (by omega))
      have HRL := hid (rowAt_length hN'.len (k := k) (by omega))
      have hrl : (cellsOf64 (rowAt L' k)).length = 9 := by simp [cellsOf64, HRL.out]
      have HRC := hid hrl
      have HV := hid (hN'.v k (by omega))
      have k0 : (0 : Int) ≤ (k : Int) := by omega
      have k1 : (k : Int) < 9 := by omega
      have k2 : (k : Int) + 1 < 9 := by omega
      have k3 : ((k : Int) + 1).toNat = k + 1 := by omega
      have k4 : (0 : Int) ≤ (k : Int) + 1 := by omega
      clear hrl
      go_wp2_with (with_reducible refine wpList_load_mid rfl 141 (.tmp 23) rfl (w2.heap.size) (k * 9) rfl (cellsOf64 (rowAt L' k)) _ HR.out Tryz.underlying141 rfl (size9.trans (congrArg some HRC.out.symm)) ?_)
      refine (more_c (List.replicate 9 0) (rowAt L' k) 2 wr (by simp) HRL.out zero9_d (rowAt_d32 hN'.d k) (by decide) (hid (by rw [zero9, HV.out]; exact two_fits k hlt))).mono ?_
      rintro e w3 ⟨lm, rfl, hlm, hdm, hvm, b3⟩
      rw [zero9, HV.out, Nat.mul_zero, Nat.zero_add, ← Nat.mul_assoc, ← Nat.pow_succ'] at hvm
      have hN3 := hN'.below b3 hN'.blk.size
      have hbl3 := hbl.trans (b3.mono hbl.size)
      have hst := store9 (w2.heap.size) ((k + 1) * 9) lm w3 (by rw [hlm]; exact hN3.blk.rowThere hN3.len (by omega))
      have hlc : (cellsOf64 lm).length = 9 := by simp [cellsOf64, hlm]
      have HS := hid (hN3.step (by omega) hlm hdm hvm)
      have HB := hid (below_cells (b := w2.heap.size) hs2 (cellsOf64 lm) ((k + 1) * 9) w3 hbl3)
      clear hvm b3 hN' hbl hN3 hbl3 HR HV hdm hlm
      go_wp2
      go_roundw
      case rel => exact ⟨k + 1, by omega, by go_num, ⟨_, HS.out⟩, HB.out⟩
      case measure => simp [intOf]; omega
    · have : k = 8 := by omega
      subst this
      obtain ⟨Au, cu, lu, rfl, hu1, hu2, hu3, hu4, hu5, hu6⟩ := hu
      obtain ⟨Av, cv, lv, rfl, hv1, hv2, hv3, hv4, hv5, hv6⟩ := hv
      have HU6 := hid hu6
      have HV6 := hid hv6
      have hlv9 : lv.length ≤ 9 := Nat.le_trans (len_of_lt (n := 8) hv4 hv5 (by rw [hv6]; exact Nat.lt_trans hY.out (by decide))) (by decide)
      clear hu6 hv6
      go_wp2_with fail
      refine (words_c Au lu.length cu lu 4 4 rfl wr (hu3.up hbl (Nat.le_refl _)) hu4 (by decide)).mono ?_
      rintro e w4' ⟨A4, c4, l4', rfl, hc4, r4, v4, b4⟩
      have hbl4 := bchain hbl b4
      have hN4 := hN'.below b4 hN'.blk.size
      go_wp2_with fail
      refine (refBytes_c A4 4 c4 l4' w4' r4 (by decide)).mono ?_
      rintro e w5 ⟨A5, c5, l5, rfl, hc5, r5, v5, b5⟩
      have hbl5 := bchain hbl4 b5
      have hN5 := hN4.below b5 hN4.blk.size
      rw [v4, HU6.out, show (18446744073709551616 : Nat) ^ 4 = 115792089237316195423570985008687907853269984665640564039457584007913129639936 by decide, Nat.mod_eq_of_lt (Nat.lt_trans hX.out (by decide))] at v5
      have HV5 := hid v5
      have b6 : Below w5.heap.size w5 (w5.alloc (.cells #[.int .u64 0, .int .u64 0, .int .u64 0, .int .u64 0, .int .u64 0, .int .u64 0, .int .u64 0, .int .u64 0, .int .u64 0] 141)) := (Below.refl _ _).alloc (Nat.le_refl _) _
      have hbl6 := bchain hbl5 b6
      have hN6 := hN5.below b6 hN5.blk.size
      have hR6 := hid (BlkW.new64 w5 141 (List.replicate 9 0) (zeros_all 9))
      have r6 : Rd8 _ w5.heap.size A5 32 l5 := r5.below b6 (Nat.le_refl _)
      have hs5 : w2.heap.size < w5.heap.size := hN5.blk.size
      clear v4 v5 hN' hN4 hN5 hbl hbl4 r4 r5 b4 b5 b6 hc4
      go_wp2_with fail
      refine (rowOf_c Av lv.length cv lv _ (hv3.up hbl6 (Nat.le_refl _)) hv4 hlv9).mono ?_
      rintro e w7 ⟨ly, rfl, hly, hdy, hvy, b7⟩
      rw [HV6.out] at hvy
      obtain ⟨w8, hst8, hY8, b8⟩ := new9 w7 ly hly hdy
      have hlyc : (cellsOf64 ly).length = 9 := by simp [cellsOf64, hly]
      have hs7 : w5.heap.size < w7.heap.size := by have h1 := b7.size; have h2 : (w5.alloc (.cells #[.int .u64 0, .int .u64 0, .int .u64 0, .int .u64 0, .int .u64 0, .int .u64 0, .int .u64 0, .int .u64 0, .int .u64 0] 141)).heap.size = w5.heap.size + 1 := (by simp); omega
      have hbl8 := bchain (bchain hbl6 b7) b8
      have hN8 : Nine w8 w2.heap.size 9 L' := (hN6.below b7 hN6.blk.size).below b8 (by omega)
      have hR8 : BlkW w8 w5.heap.size 141 (List.replicate 9 0) := (BlkW.below hR6.out b7 hR6.out.size).below b8 hs7
      have r8 : Rd8 w8 w5.heap.size A5 32 l5 := (r6.below b7 (by simp)).below b8 (by omega)
      obtain ⟨ba, oa, rfl, -, -⟩ := r8.cells (by decide)
      have M8 : MEnv w w2.heap.size w5.heap.size w7.heap.size (some ⟨ba, oa, none⟩) l5 L' ly w8 (List.replicate 9 0) := ⟨hN8, hR8, by simp, zero9_d, hY8, r8, hbl8, by have := hbl5.size; omega, hs5, hs7⟩
      have HVY := hid hvy
      clear b7 b8 hN6 r6 hbl6 hvy hR6 hu3 hu4 hu5 hv3 hv4 hv5 hlv9 hN8 hR8 r8 hbl8 hY8
      go_wp2_with fail
      clear hst8 hlyc
      generalize w2.heap.size = bp at *
      generalize w5.heap.size = br at *
      generalize w7.heap.size = b_y at *
      go_loopw [10] (fun i wr => ∃ m : Nat, m ≤ 32 ∧ i = .int .i64 ((m : Int) - 1) ∧ ∃ lr, MEnv w bp br b_y (some ⟨ba, oa, none⟩) l5 L' ly wr lr ∧ Hid (val 4294967296 lr = X / 256 ^ m * Y % pN)) (fun i _ => (intOf i + 1).toNat)
      case atStart =>
        refine ⟨32, by omega, rfl, _, M8, hid ?_⟩
        rw [zero9, Nat.div_eq_of_lt (Nat.lt_trans hX.out (by decide)), Nat.zero_mul, Nat.zero_mod]
      case round =>
        obtain ⟨m, hm, rfl, lr, hM, HR⟩ := hrel
        clear M8
        rcases m with _ | m
        · have hown : OwnW (wr.alloc (.cells #[] 34)) wr.heap.size (.slice (some ⟨wr.heap.size, 0, none⟩) 0 0) [] := own_zero wr
          have hM1 := hM.up ((Below.refl wr.heap.size wr).alloc (Nat.le_refl _) (.cells #[] 34))
          have hsz : wr.heap.size ≤ (wr.alloc (.cells #[] 34)).heap.size := by simp
          have HC : Hid (∀ i, i < lr.length → (wr.alloc (.cells #[] 34)).cell? ⟨br, i, none⟩ = some (.int .u64 (at64 lr i))) := hid (fun i hi => hM1.r.cell hi)
          have HRL := hid hM.rl
          have HSZ := hid hsz
          have HB := hid hM.bel
          have HRD := hid hM.rd
          have HBS := hid hM.bel.size
          clear hM1 hsz
          go_wp2_with (at_builtin; refine append_words rfl (.tmp 59) (.tmp 60) rfl wr.heap.size _ [] rfl hown br 9 lr (d32_all HRD.out) (by rw [HRL.out]; rfl) HC.out (by rw [HRL.out]; decide) HSZ.out ?_)
          intro v' w9 hown' hb9
          have hbb : Below w.heap.size w w9 := HB.out.trans ((((Below.refl wr.heap.size wr).alloc (Nat.le_refl _) (.cells #[] 34)).trans hb9).mono HBS.out)
          clear hM hown hb9 HC
          go_wp2_with fail
          refine (trim_own (w := w) hown' HRD.out hbb (by rw [HRL.out]; decide)).mono ?_
          intro e w10 hD
          rw [HR.out, Nat.pow_zero, Nat.div_one] at hD
          obtain ⟨vr, rfl, hvr, hbr⟩ := Dg.of hD (lt_big (p_big (Nat.mod_lt _ pN_pos)))
          have RR := hid hvr
          clear hvr hown' hbb hD
          go_wp2
          go_ret
          exact ⟨_, rfl, RR.out, hbr⟩
        · have e1 : (((m + 1 : Nat) : Int) - 1) = (m : Int) := by omega
          rw [e1]
          clear e1
          have HT := hid (byte_of l5 hM.b.lt m)
          rw [HV5.out] at HT
          have ht := getD_lt _ (by decide) l5 hM.b.lt m
          have hcb := hM.b.cellAt (i := m) (by omega)
          have HF := hid (byte_fits (R := X / 256 ^ (m + 1) * Y % pN) (Y := Y) (Nat.mod_lt _ pN_pos) hY.out ht)
          have m0 : (0 : Int) ≤ (m : Int) := by omega
          have m1 : (m : Int) < 32 := by omega
          have x0 := at64_nonneg l5 m
          have x1 := at64_lt8 hM.b.lt m
          have hcv : IntKind.u64.wrap (at64 l5 m) = at64 l5 m := by rw [IntKind.wrap_u64]; omega
          have hM1 := hM.drew
          have hlrc : (cellsOf64 lr).length = 9 := by simp [cellsOf64, hM.rl]
          have hlyc : (cellsOf64 ly).length = 9 := by simp [cellsOf64, hly]
          have HI1 := hid (size9.trans (congrArg some hlrc.symm))
          have HI2 := hid (size9.trans (congrArg some hlyc.symm))
          have HG1 := hid hM1.r.range
          have HG2 := hid hM1.y.range
          have hcb1 : wr.drew.cell? ⟨ba, oa + m, none⟩ = some (.int .u8 (at64 l5 m)) := hcb
          clear hlrc hlyc
          go_wp2_with fail
          refine wp_region_still_tail 7 (by kernel_rfl) (by kernel_rfl) ?_
          simp only [List.take_succ_cons, List.take_zero, List.drop_succ_cons, List.drop_zero]
          refine still_load rfl 141 (.tmp 8) rfl br 0 rfl (cellsOf64 lr) _ HG1.out Tryz.underlying141 rfl HI1.out ?_
          refine still_load rfl 141 (.tmp 9) rfl b_y 0 rfl (cellsOf64 ly) _ HG2.out Tryz.underlying141 rfl HI2.out ?_
          repeat still_step
          refine wpStill_nil ?_
          change wpList _ _ _ _ _ wr.drew
          generalize wr.drew = w9 at hM1 HG1 HG2 hcb1 ⊢
          clear hM hcb
          go_wp2_with fail
          refine (more_c lr ly (l5.getD m 0) _ hM1.rl hly hM1.rd hdy ht (hid (by rw [HR.out, HVY.out]; exact HF.out.2))).mono ?_
          rintro e w10 ⟨lm, rfl, hlm, hdm, hvm, b10⟩
          have hM2 := hM1.up b10
          have hlmc : (cellsOf64 lm).length = 9 := by simp [cellsOf64, hlm]
          have hst := store9 br 0 lm w10 (by have h := hM2.r.there; rw [hM2.rl] at h; rw [hlm]; exact h)
          have hM3 := hM2.put hlm hdm
          rw [HR.out, HVY.out] at hvm
          have HVM := hid hvm
          clear hvm b10 hM1 hM2 HG1 HG2 HI1 HI2 hcb1 hcv
          go_wp2
          clear hst hlmc
          generalize w10.setCells br 0 (cellsOf64 lm) = w11 at hM3 ⊢
          obtain ⟨w12, rfl⟩ : ∃ x, x = w11 := ⟨w11, rfl⟩
          go_loopw [11] (fun i ws => ∃ k : Nat, k ≤ 9 ∧ i = .int .i64 ((k : Int) - 1) ∧ ∃ lq, MEnv w bp br b_y (some ⟨ba, oa, none⟩) l5 L' ly ws lq ∧ Hid (val 4294967296 lq < 2 ^ k * pN ∧ val 4294967296 lq % pN = X / 256 ^ m * Y % pN)) (fun i _ => (intOf i + 1).toNat)
          case atStart =>
            refine ⟨9, by omega, rfl, lm, hM3, hid ⟨?_, ?_⟩⟩
            · rw [HVM.out]; exact HF.out.1
            · rw [HVM.out]; exact mul_byte X Y m _ HT.out
          case round =>
            obtain ⟨k, hk, rfl, lq, hQ, HQ⟩ := hrel
            rcases k with _ | k
            · have HV : Hid (val 4294967296 lq = X / 256 ^ m * Y % pN) := by
                obtain ⟨h1, h2⟩ := HQ.out
                rw [Nat.pow_zero, Nat.one_mul] at h1
                rw [Nat.mod_eq_of_lt h1] at h2
                exact hid h2
              clear HQ hM3
              go_wp2
              go_roundw
              case rel => exact ⟨m, by omega, by go_num, lq, hQ, HV⟩
              case measure => simp [intOf]
            · have e1 : (((k + 1 : Nat) : Int) - 1) = (k : Int) := by omega
              rw [e1]
              clear e1 hM3
              have k0 : (0 : Int) ≤ (k : Int) := by omega
              have k1 : (k : Int) < 9 := by omega
              have HRL := hid (rowAt_length hQ.n.len (k := k) (by omega))
              have hrl : (cellsOf64 (rowAt L' k)).length = 9 := by simp [cellsOf64, HRL.out]
              have hql : (cellsOf64 lq).length = 9 := by simp [cellsOf64, hQ.rl]
              have HI1 := hid (size9.trans (congrArg some hql.symm))
              have HI2 := hid (size9.trans (congrArg some hrl.symm))
              have HVR := hid (hQ.n.v k (by omega))
              have hQ1 := hQ.drew
              have H1r := hid hQ1.r.range
              have H1p := hid (hQ1.n.blk.rowRange hQ1.n.len (k := k) (by omega))
              clear hrl hql
              go_wp2_with fail
              refine wp_region_still_tail 4 (by kernel_rfl) (by kernel_rfl) ?_
              simp only [List.take_succ_cons, List.take_zero, List.drop_succ_cons, List.drop_zero]
              refine still_load rfl 141 (.tmp 8) rfl br 0 rfl (cellsOf64 lq) _ H1r.out Tryz.underlying141 rfl HI1.out ?_
              still_step
              still_step
              refine still_load rfl 141 (.tmp 51) rfl bp (k * 9) rfl (cellsOf64 (rowAt L' k)) _ H1p.out Tryz.underlying141 rfl HI2.out ?_
              refine wpStill_nil ?_
              change wpList _ _ _ _ _ wr.drew
              generalize wr.drew = v1 at hQ1 H1r H1p ⊢
              clear hQ
              go_wp2_with fail
              refine (reaches_c lq (rowAt L' k) v1 hQ1.rl HRL.out hQ1.rd (rowAt_d32 hQ1.n.d k)).mono ?_
              rintro e v2 ⟨rfl, q2⟩
              rw [HVR.out]
              have hQ2 := hQ1.up q2
              clear hQ1 q2 H1r H1p
              by_cases hge : 2 ^ k * pN ≤ val 4294967296 lq
              · rw [decide_eq_true hge]
                have HC := hid (cut_one HQ.out.1 hge)
                have HGE := hid hge
                have hQ3 := hQ2.drew
                have H3r := hid hQ3.r.range
                have H3p := hid (hQ3.n.blk.rowRange hQ3.n.len (k := k) (by omega))
                clear hge
                go_wp2_with fail
                refine wp_region_still_tail 4 (by kernel_rfl) (by kernel_rfl) ?_
                simp only [List.take_succ_cons, List.take_zero, List.drop_succ_cons, List.drop_zero]
                refine still_load rfl 141 (.tmp 8) rfl br 0 rfl (cellsOf64 lq) _ H3r.out Tryz.underlying141 rfl HI1.out ?_
                still_step
                still_step
                refine still_load rfl 141 (.tmp 56) rfl bp (k * 9) rfl (cellsOf64 (rowAt L' k)) _ H3p.out Tryz.underlying141 rfl HI2.out ?_
                refine wpStill_nil ?_
                change wpList _ _ _ _ _ v2.drew
                generalize v2.drew = v3 at hQ3 H3r H3p ⊢
                clear hQ2
                go_wp2_with fail
                refine (minus_c lq (rowAt L' k) v3 hQ3.rl HRL.out hQ3.rd (rowAt_d32 hQ3.n.d k) (hid (by rw [HVR.out]; exact HGE.out))).mono ?_
                rintro e v4 ⟨ln, rfl, hln, hdn, hvn, q4⟩
                rw [HVR.out] at hvn
                have hQ4 := hQ3.up q4
                have hlnc : (cellsOf64 ln).length = 9 := by simp [cellsOf64, hln]
                have hst := store9 br 0 ln v4 (by have h := hQ4.r.there; rw [hQ4.rl] at h; rw [hln]; exact h)
                have hQ5 := hQ4.put hln hdn
                have HV : Hid (val 4294967296 ln < 2 ^ k * pN ∧ val 4294967296 ln % pN = X / 256 ^ m * Y % pN) := by
                  rw [hvn]
                  exact hid ⟨HC.out.1, HC.out.2.trans HQ.out.2⟩
                clear hvn q4 hQ3 hQ4 H3r H3p HI1 HI2 HQ HC HGE
                go_wp2
                go_roundw
                case rel => exact ⟨k, by omega, by go_num, ln, hQ5, HV⟩
                case measure => simp [intOf]
              · rw [decide_eq_false hge]
                have HV : Hid (val 4294967296 lq < 2 ^ k * pN ∧ val 4294967296 lq % pN = X / 256 ^ m * Y % pN) := hid ⟨by omega, HQ.out.2⟩
                clear hge HI1 HI2 HQ
                go_wp2
                go_roundw
                case rel => exact ⟨k, by omega, by go_num, lq, hQ2, HV⟩
                case measure => simp [intOf]
end Go.Proofs.YtdepkfdceidikaaGreatDoor
/-
  avouchref02.Add, Sub, Exp, Inverse: what each call does.
-/
namespace Go.Proofs.YtdepkfdceidikaaGreatDoor
open Go.RowKit
set_option linter.unusedVariables false

theorem add_mod_p {X Y : Nat} (hX : X < pN) (hY : Y < pN) (h : pN ≤ X + Y) : X + Y - pN = (X + Y) % pN := by
  rw [Nat.mod_eq_sub_mod h, Nat.mod_eq_of_lt (by omega)]
theorem sub_mod_p {X Y : Nat} (hX : X < pN) (hY : Y < pN) (h : Y ≤ X) : X - Y = (X + (pN - Y)) % pN := by
  rw [show X + (pN - Y) = (X - Y) + pN by omega, Nat.add_mod_right, Nat.mod_eq_of_lt (by omega)]
theorem sub_mod_p' {X Y : Nat} (hX : X < pN) (hY : Y < pN) (h : ¬ Y ≤ X) : X + pN - Y = (X + (pN - Y)) % pN := by
  rw [Nat.mod_eq_of_lt (by omega)]; omega
def bits1000 : Nat := 1000
theorem p_1000 : pN < 2 ^ bits1000 := Nat.lt_of_lt_of_le (show pN < 2 ^ 254 by decide) (Nat.pow_le_pow_right (by decide) (by decide))
theorem two_p : pN + pN < 4294967296 ^ 20 := by decide

set_option maxRecDepth 20000 in
theorem dAddP_c (u v : Value) (X Y : Nat) (w : World) (hu : Dg w u X) (hv : Dg w v Y) (hX : Hid (X < pN)) (hY : Hid (Y < pN)) :
    Calls Tryz.prog 38 #[u, v] w fun e w' => ∃ r, e = .returned r ∧ Dg w' r ((X + Y) % pN) ∧ Below w.heap.size w w' := by
  have HB : Hid (X + Y < 4294967296 ^ 20) := hid (Nat.lt_trans (Nat.add_lt_add hX.out hY.out) two_p)
  go_enter Tryz.func38, Tryz.ntmps38
  go_wp2_with fail
  refine (dAdd_c u v X Y w hu hv HB.out).mono ?_
  rintro e w1 ⟨rs, rfl, hs, b1⟩
  go_wp2_with fail
  refine (p2_c w1).mono ?_
  rintro e w2 ⟨rp, rfl, hp, b2⟩
  have hs2 := hs.up b2
  have b12 := bchain b1 b2
  go_wp2_with fail
  refine (dCmp_c rs rp _ _ w2 hs2 hp).mono ?_
  rintro e w' ⟨rfl, rfl⟩
  by_cases hge : pN ≤ X + Y
  · have hd : decide (0 ≤ cmpN (X + Y) pN) = true := cmpN_ge hge
    have HV := hid (add_mod_p hX.out hY.out hge)
    have HGE := hid hge
    clear hge hp
    go_wp2_with fail
    refine (p2_c w2).mono ?_
    rintro e w3 ⟨rq, rfl, hq, b3⟩
    have b13 := bchain b12 b3
    go_wp2_with fail
    refine (dSub_c rs rq _ _ w3 (hs2.up b3) hq HGE.out HB.out).mono ?_
    rintro e w4' ⟨r, rfl, hr, b4⟩
    rw [HV.out] at hr
    have R := hid (And.intro hr (bchain b13 b4))
    clear hr hs hs2 hq hd
    go_wp2
    go_ret
    exact ⟨_, rfl, R.out.1, R.out.2⟩
  · have hd : decide (0 ≤ cmpN (X + Y) pN) = false := cmpN_lt' (Nat.lt_of_not_le hge)
    rw [← Nat.mod_eq_of_lt (Nat.lt_of_not_le hge)] at hs2
    have R := hid (And.intro hs2 b12)
    clear hs hs2 hp hge
    go_wp2
    go_ret
    exact ⟨_, rfl, R.out.1, R.out.2⟩

theorem dOne (w : World) (v : Nat) (hv : v < 4294967296) (h0 : v ≠ 0) : Dg (w.alloc (.cells #[.int .u64 (v : Int)] 34)) (.slice (some ⟨w.heap.size, 0, none⟩) 1 1) v := by
  have h := rdw_one w v (Nat.lt_trans hv (by decide))
  have hs : (w.alloc (.cells #[.int .u64 (v : Int)] 34)).heap.size = w.heap.size + 1 := by simp
  rw [← hs] at h
  exact ⟨_, 1, [v], rfl, Nat.le_refl _, by simp, h, by intro x hx; simp at hx; omega, Or.inr (by simpa using h0), by simp [val, pv]⟩

set_option maxRecDepth 20000 in
set_option maxHeartbeats 4000000 in
theorem dExpP_c (u v : Value) (X E : Nat) (w : World) (hu : Dg w u X) (hv : Dg w v E) (hX : Hid (X < pN)) (hE : Hid (E < 2 ^ bits1000)) :
    Calls Tryz.prog 78 #[u, v] w fun e w' => ∃ r, e = .returned r ∧ Dg w' r (X ^ E % pN) ∧ Below w.heap.size w w' := by
  have b1 : Below w.heap.size w (w.alloc (.cells #[.int .u64 1] 34)) := (Below.refl _ _).alloc (Nat.le_refl _) _
  have ho := dOne w 1 (by decide) (by decide)
  have hu1 := hu.up b1
  have hv1 := hv.up b1
  obtain ⟨Av, cv, lv, rfl, k1, k2, k3, k4, k5, k6⟩ := hv1
  have hblE0 := blen_le hE.out
  have hblE : blen E ≤ 1000 := hblE0
  clear hblE0
  have HBL := hid (blen_lt E)
  have K6 := hid k6
  have B1 := hid b1
  clear k6 b1 hu hv
  change Dg (w.alloc (.cells #[.int .u64 1] 34)) _ 1 at ho
  go_enter Tryz.func78, Tryz.ntmps78
  go_wp2_with fail
  refine (refBits_c Av lv.length cv _ lv _ k3 k4 (by omega) k1).mono ?_
  rintro e w' ⟨rfl, rfl⟩
  rw [K6.out]
  generalize w.alloc (.cells #[.int .u64 1] 34) = w1 at *
  go_wp2
  go_loopw [5, 6] (fun r i wr => ∃ k : Nat, k ≤ bits1000 ∧ i = .int .i64 ((k : Int) - 1) ∧ Below w1.heap.size w1 wr ∧ Dg wr r (X ^ (E / 2 ^ k) % pN)) (fun _ i _ => (intOf i + 1).toNat)
  case atStart =>
    refine ⟨blen E, hblE, rfl, Below.refl _ _, ?_⟩
    rw [Nat.div_eq_of_lt HBL.out, Nat.pow_zero]
    exact ho
  case round =>
    obtain ⟨k, hk, rfl, hbw, hr⟩ := hrel
    rcases k with _ | k
    · have R : Hid (Dg wr u5 (X ^ E % pN) ∧ Below w.heap.size w wr) := by
        rw [Nat.pow_zero, Nat.div_one] at hr
        exact hid ⟨hr, bchain B1.out hbw⟩
      clear hr ho hu1
      go_wp2
      go_ret
      exact ⟨_, rfl, R.out.1, R.out.2⟩
    · have e1 : (((k + 1 : Nat) : Int) - 1) = (k : Int) := by omega
      rw [e1]
      clear e1
      go_wp2_with fail
      refine (ref2Mul_c _ _ _ _ wr hr hr (hid (Nat.mod_lt _ pN_pos)) (hid (Nat.mod_lt _ pN_pos))).mono ?_
      rintro e w2 ⟨q, rfl, hq, b2⟩
      have hk' : k < 1000 := hk
      have b12 := bchain hbw b2
      have HST := hid (pow_step X E k pN _ rfl)
      go_wp2_with fail
      refine (bit_c Av lv.length cv _ lv k w2 (k3.up b12 (Nat.le_refl _)) k4 (by omega)).mono ?_
      rintro e w' ⟨rfl, rfl⟩
      rw [K6.out]
      have hb2 : E / 2 ^ k % 2 = 0 ∨ E / 2 ^ k % 2 = 1 := by omega
      rcases hb2 with hb2 | hb2
      · rw [hb2]
        have HF : Hid (Dg w2 q (X ^ (E / 2 ^ k) % pN)) := by
          rw [← HST.out, hb2, if_neg (by decide), Nat.mul_one, Nat.mod_mod]
          exact hid hq
        clear hb2 hq hr ho
        go_wp2
        go_roundw
        case rel => exact ⟨k, by omega, by go_num, b12, HF.out⟩
        case measure => simp [intOf]
      · rw [hb2]
        have HB2 := hid hb2
        clear hb2
        go_wp2_with fail
        refine (ref2Mul_c q u _ X w2 hq (hu1.up b12) (hid (Nat.mod_lt _ pN_pos)) hX).mono ?_
        rintro e w3 ⟨s, rfl, hs, b3⟩
        have b13 := bchain b12 b3
        have HF : Hid (Dg w3 s (X ^ (E / 2 ^ k) % pN)) := by
          rw [← HST.out, HB2.out, if_pos rfl, Nat.mul_mod_mod]
          exact hid hs
        clear hs hq hr ho
        go_wp2
        go_roundw
        case rel => exact ⟨k, by omega, by go_num, b13, HF.out⟩
        case measure => simp [intOf]

set_option maxRecDepth 20000 in
theorem dInvP_c (u : Value) (X : Nat) (w : World) (hu : Dg w u X) (hX : Hid (X < pN)) :
    Calls Tryz.prog 54 #[u] w fun e w' => ∃ r, e = .returned r ∧ Dg w' r (X ^ (pN - 2) % pN) ∧ Below w.heap.size w w' := by
  go_enter Tryz.func54, Tryz.ntmps54
  go_wp2_with fail
  refine (p2_c w).mono ?_
  rintro e w1 ⟨rp, rfl, hp, b1⟩
  have b2 : Below w1.heap.size w1 (w1.alloc (.cells #[.int .u64 2] 34)) := (Below.refl _ _).alloc (Nat.le_refl _) _
  have ht := dOne w1 2 (by decide) (by decide)
  change Dg (w1.alloc (.cells #[.int .u64 2] 34)) _ 2 at ht
  have hp2 := hp.up b2
  have b12 := bchain b1 b2
  clear b2 hp
  go_wp2_with fail
  refine (dSub_c _ _ pN 2 _ hp2 ht (by decide) (by decide)).mono ?_
  rintro e w3 ⟨re, rfl, he, b3⟩
  have b13 := bchain b12 b3
  clear ht hp2
  go_wp2_with fail
  refine (dExpP_c u re X (pN - 2) w3 (hu.up b13) he hX (hid (Nat.lt_of_le_of_lt (Nat.sub_le _ _) p_1000))).mono ?_
  rintro e w4' ⟨r, rfl, hr, b4⟩
  have R := hid (And.intro hr (bchain b13 b4))
  clear hr he
  go_wp2
  go_ret
  exact ⟨_, rfl, R.out.1, R.out.2⟩
end Go.Proofs.YtdepkfdceidikaaGreatDoor
