/-
  avouchref07.Sum: what the call does.
-/
import Derived.Test.YteogjnendkbjcaaDoorDrA
import Derived.Test.YteogjnendkbjcaaDoorKRj
namespace Go.Proofs.YteogjnendkbjcaaDoor
open Go.RowKit
set_option linter.unusedVariables false

/-- The bytes when i of the block are xored. -/
def xbk (bs p : List Nat) (k i : Nat) : List Nat := (List.range 200).map fun j => if j < i then bs.getD j 0 ^^^ p.getD (136 * k + j) 0 else bs.getD j 0
theorem xbk_len (bs p : List Nat) (k i : Nat) : (xbk bs p k i).length = 200 := len_map_range _ _
theorem xbk_at (bs p : List Nat) (k i : Nat) {j : Nat} (h : j < 200) : (xbk bs p k i).getD j 0 = if j < i then bs.getD j 0 ^^^ p.getD (136 * k + j) 0 else bs.getD j 0 := getD_map_range _ _ h
theorem xbk_zero {bs p : List Nat} {k : Nat} (hb : bs.length = 200) : xbk bs p k 0 = bs := by
  refine same_of_all (by rw [xbk_len, hb]) fun j hj => ?_
  rw [xbk_len] at hj
  rw [xbk_at _ _ _ _ hj, if_neg (by omega)]
theorem xbk_succ {bs p : List Nat} {k i : Nat} (hi : i < 200) : (xbk bs p k i).set i (bs.getD i 0 ^^^ p.getD (136 * k + i) 0) = xbk bs p k (i + 1) := by
  refine same_of_all (by rw [List.length_set, xbk_len, xbk_len]) fun j hj => ?_
  rw [List.length_set, xbk_len] at hj
  rw [xbk_at _ _ _ _ hj]
  by_cases c : j = i
  · rw [c, getD_set_eq _ _ _ (by rw [xbk_len]; exact hi), if_pos (by omega)]
  · rw [getD_set_ne _ _ _ _ (by omega), xbk_at _ _ _ _ hj]
    by_cases e : j < i
    · rw [if_pos e, if_pos (by omega)]
    · rw [if_neg e, if_neg (by omega)]
theorem xbk_end (bs p : List Nat) (k : Nat) : xbk bs p k 136 = xorb bs p k := rfl
theorem ownB_made200 (w : World) : OwnB (w.alloc (.cells (zeros8 200) 5)) w.heap.size (.slice (some ⟨w.heap.size, 0, none⟩) 200 200) (kby (lblk [] 0)) := by
  have e : cells8 (kby (lblk [] 0)) = (zeros8 200).toList := by
    rw [zeros8_eq]
    have : kby (lblk [] 0) = List.replicate 200 0 := by decide +kernel
    rw [this]
    rfl
  refine ⟨?_, kby_lt _⟩
  rw [e, kby_len]
  exact World.ownsRow_lit w (zeros8 200) 200 (Nat.le_refl _) (by decide) (by rw [zeros8_eq, List.size_toArray, List.length_map, List.length_replicate])

set_option maxRecDepth 20000 in
set_option maxHeartbeats 2000000 in
theorem ref7Sum_c (A : Option Addr) (n c : Nat) (b : List Nat) (w : World) (ha : Rd8 w w.heap.size A n b) (hn : n ≤ 700) :
    Calls Tryd.prog 9 #[.slice A n c] w fun e w' => ∃ A' c', e = .returned (.slice A' 32 c') ∧ 32 ≤ c' ∧ Rd8 w' w'.heap.size A' 32 (dig b) ∧ Below w.heap.size w w' := by
  have HA := hid ha
  clear ha
  go_enter Tryd.func9, Tryd.ntmps9
  go_wp2_with fail
  refine (pad_c A n c b w HA.out hn).mono ?_
  rintro e w1 ⟨vp, rfl, hown, hb1⟩
  obtain ⟨Ap, cp, rfl, hcp, hrp⟩ := hown.rd
  obtain ⟨N, hN⟩ : ∃ N, N = n / 136 + 1 := ⟨_, rfl⟩
  have hpl : (padB b).length = 136 * N := by rw [padB_len, HA.out.len, hN]; rfl
  have HDg : Hid (dig b = (kby (lblk (padB b) N)).take 32) := by rw [hN, ← HA.out.len]; exact rfl
  have HPL := hid (padB_lt HA.out.lt)
  rw [hpl] at hrp hcp ⊢
  generalize padB b = p at *
  have R0 := hid (ownB_made200 w1)
  have RB := hid ((Below.refl w1.heap.size w1).alloc (Nat.le_refl _) (.cells (zeros8 200) 5))
  have hmk : (Instr.makeSlice 22 (.int .i64 200) (.int .i64 200)).run Tryd.prog w1 = .ok (.slice (some ⟨w1.heap.size, 0, none⟩) 200 200) (w1.alloc (.cells (zeros8 200) 5)) := make8 200 200 (Nat.le_refl _) (by decide) w1
  obtain ⟨bp, op, rfl, hbp, _⟩ := hrp.cells (by rw [hN]; omega)
  have HP := hid hrp
  have HB := hid hb1
  have hN6 : N ≤ 6 := by rw [hN]; omega
  clear hown hb1 hrp hcp hpl hN HA hn
  go_wp2
  clear hmk
  generalize w1.alloc _ = w2 at *
  go_loopw [4, 5] (fun v i wr => ∃ k : Nat, k ≤ N ∧ i = .int .i64 ((136 * k : Nat) : Int) ∧ OwnB wr w1.heap.size v (kby (lblk p k)) ∧ Below w1.heap.size w1 wr) (fun _ i _ => 136 * N - (intOf i).toNat)
  case atStart => exact ⟨0, Nat.zero_le _, rfl, R0.out, RB.out⟩
  case round =>
    clear R0 RB
    obtain ⟨k, hk, rfl, hown, hbl⟩ := hrel
    have HLb := hid (lblk_lanes HPL.out k)
    have HXL := hid (xorb_lt (kby_lt (lblk p k)) HPL.out k)
    by_cases hlt : k < N
    · have i2 : ((136 * k : Nat) : Int) < ((136 * N : Nat) : Int) := by omega
      have HS := hid (lblk_succ p k)
      have HKL := hid (kby_len (lblk p k))
      have HKB := hid (kby_lt (lblk p k))
      have HLS := hid (lblk_lanes HPL.out (k + 1))
      generalize kby (lblk p k) = bs at *
      obtain ⟨g, cap, hv, hbg, hcap, hgs, hfz, hcell, hset⟩ := hown.open_ (by rw [HKL.out]; decide)
      rw [HKL.out] at hv hcap
      subst hv
      obtain ⟨w3, rfl⟩ : ∃ x, x = wr := ⟨wr, rfl⟩
      clear hcell hset hfz
      obtain ⟨at_, hat⟩ : ∃ a, a = 136 * k := ⟨_, rfl⟩
      rw [← hat] at i2 ⊢
      have HAT := hid hat
      have i7 : (at_ : Int) ≤ 1000 := by omega
      obtain ⟨pl, hpl⟩ : ∃ a, a = 136 * N := ⟨_, rfl⟩
      rw [← hpl] at i2 HP ⊢
      have HPN := hid hpl
      have R1 : Hid (OwnB w3 w1.heap.size (.slice (some ⟨g, 0, none⟩) 200 cap) (xbk bs p k 0) ∧ Below w1.heap.size w1 w3) := ⟨by rw [xbk_zero HKL.out]; exact hown, hbl⟩
      clear hat hpl hown hbl
      go_wp2
      go_loopw [6] (fun i wj => ∃ j : Nat, j ≤ 136 ∧ i = .int .i64 (j : Int) ∧ OwnB wj w1.heap.size (.slice (some ⟨g, 0, none⟩) 200 cap) (xbk bs p k j) ∧ Below w1.heap.size w1 wj) (fun i _ => 136 - (intOf i).toNat)
      case atStart => exact ⟨0, Nat.zero_le _, rfl, R1.out⟩
      case round =>
        clear R1
        obtain ⟨j, hj, rfl, hown, hbl⟩ := hrel
        by_cases hlt2 : j < 136
        · have i3 : (j : Int) < 136 := by omega
          obtain ⟨g', cap', hv, hbg', hcap', hgs', hfz, hcell, hset⟩ := hown.open_ (by rw [xbk_len]; decide)
          obtain ⟨rfl, rfl⟩ : g = g' ∧ cap = cap' := by
            rw [xbk_len] at hv
            simp only [Value.slice.injEq, Option.some.injEq, Addr.mk.injEq, and_true, true_and] at hv
            exact hv
          rw [xbk_len] at hcell hset
          obtain ⟨u, hu⟩ : ∃ u, u = bs.getD j 0 := ⟨_, rfl⟩
          obtain ⟨q, hq⟩ : ∃ q, q = at_ + j := ⟨_, rfl⟩
          obtain ⟨v, hv2⟩ : ∃ v, v = p.getD q 0 := ⟨_, rfl⟩
          have hql : q < pl := by rw [hq, HAT.out, HPN.out]; omega
          have c0 := hcell j (by omega)
          rw [show at64 (xbk bs p k j) j = (u : Int) by unfold at64; rw [xbk_at _ _ _ _ (by omega), if_neg (Nat.lt_irrefl _), hu]] at c0
          have f0 := hfz j
          obtain ⟨bp', op', e, _, hc1⟩ := (HP.out.below hbl (Nat.le_refl _)).at_ hql
          obtain ⟨rfl, rfl⟩ : bp = bp' ∧ op = op' := by
            simp only [Option.some.injEq, Addr.mk.injEq, and_true] at e
            exact e
          rw [show at64 p q = (v : Int) by unfold at64; rw [hv2]] at hc1
          have hu8 : u < 256 := by rw [hu]; exact getD_lt _ (by decide) _ HKB.out j
          have hv8 : v < 256 := by rw [hv2]; exact getD_lt _ (by decide) _ HPL.out q
          obtain ⟨z, hz⟩ : ∃ z, z = u ^^^ v := ⟨_, rfl⟩
          have C1 : ∀ wv, Calls Tryd.prog 16 #[.int .u8 (u : Int), .int .u8 (v : Int)] wv fun e w' => e = .returned (.int .u8 (z : Int)) ∧ wv = w' := fun wv => by
            refine (xor7_c u v wv hu8 hv8).mono ?_
            rintro e w' ⟨rfl, rfl⟩
            rw [hz]; exact ⟨rfl, rfl⟩
          have n1 := hset j z (by omega) (by rw [hz]; exact xor8_lt hu8 hv8)
          rw [show (xbk bs p k j).set j z = xbk bs p k (j + 1) by rw [hz, hu, hv2, hq, HAT.out]; exact xbk_succ (by omega)] at n1
          have N1 : Hid (OwnB (wr.setCell ⟨g, j, none⟩ (.int .u8 (z : Int))).drew w1.heap.size (.slice (some ⟨g, 0, none⟩) 200 cap) (xbk bs p k (j + 1))) := ⟨n1.own, n1.lt⟩
          have N2 : Hid (Below w1.heap.size w1 (wr.setCell ⟨g, j, none⟩ (.int .u8 (z : Int))).drew) := (hbl.setCell (p := ⟨g, j, none⟩) hbg' _).drew
          have d1 : IntKind.i64.wrap ((at_ : Int) + (j : Int)) = (q : Int) := by rw [IntKind.wrap_i64, hq]; have := HAT.out; omega
          have i4 : (0 : Int) ≤ (q : Int) := by omega
          have i5 : (q : Int) < (pl : Int) := by omega
          have i6 : (j : Int) < 200 := by omega
          clear hown hbl hcell hset hfz hv hz hu hv2 hq hu8 hv8 n1 hbg' hcap' hgs' hql
          go_wp2
          go_region_with (go_at_call 16; with_reducible refine (C1 _).mono ?_; rintro e w' ⟨rfl, rfl⟩)
          all_goals go_wp2
          all_goals go_roundw
          all_goals first | exact ⟨j + 1, by omega, by go_num, N1.out, N2.out⟩ | (simp [intOf]; omega)
        · have i3 : ¬ (j : Int) < 136 := by omega
          obtain rfl : j = 136 := by omega
          rw [xbk_end] at hown
          have HXL2 := HXL
          have HX2 := hid (xorb_len bs p k)
          generalize xorb bs p k = xs at *
          obtain ⟨A', c', hv, hc', hrd⟩ := hown.rd
          rw [HX2.out] at hv hrd
          obtain ⟨rfl, rfl⟩ : some ⟨g, 0, none⟩ = A' ∧ cap = c' := by
            simp only [Value.slice.injEq, true_and] at hv
            exact hv
          have HBL := hid hbl
          clear hown hbl hv hc' i3
          go_wp2_with fail
          refine (ofBytes6_f _ cap xs wr hrd).mono ?_
          rintro e w4 ⟨rfl, b4⟩
          have HKX := hid (kwd_lanes HXL.out)
          go_wp2_with fail
          refine (permute6_c _ w4 HKX.out).mono ?_
          rintro e w5 ⟨rfl, b5⟩
          rw [← HS.out]
          go_wp2_with fail
          refine (bytes6_f _ w5 HLS.out).mono ?_
          rintro e w6 ⟨v6, rfl, o6, b6⟩
          have B6 := hid (bchain (bchain b4 b5) b6)
          have hsz : w1.heap.size ≤ w5.heap.size + 1 := Nat.le_trans HBL.out.size (Nat.le_trans (bchain b4 b5).size (Nat.le_succ _))
          have O6 := hid (o6.more hsz)
          have BF : Hid (Below w1.heap.size w1 w6) := HBL.out.trans (B6.out.mono HBL.out.size)
          clear b4 b5 b6 o6 B6 HBL hrd
          go_wp2
          go_roundw
          case rel => exact ⟨k + 1, by omega, by have := HAT.out; exact congrArg (Value.int .i64) (by omega), O6.out, BF.out⟩
          case measure => have := HAT.out; have := HPN.out; simp [intOf]; omega
    · have hkN : k = N := by omega
      have i2 : ¬ ((136 * k : Nat) : Int) < ((136 * N : Nat) : Int) := by omega
      rw [hkN] at hown
      have HKL := hid (kby_len (lblk p N))
      obtain ⟨A', c', rfl, hc', hrd⟩ := hown.rd
      rw [HKL.out] at hrd hc' ⊢
      obtain ⟨ba, oa, rfl, hba, hcl⟩ := hrd.cells (by decide)
      have HF : Hid (Rd8 wr wr.heap.size (some ⟨ba, oa, none⟩) 32 (dig b)) := by
        rw [HDg.out]
        refine ⟨by rw [List.length_take, HKL.out]; rfl, fun x hx => kby_lt _ x (List.mem_of_mem_take hx), fun _ => ⟨ba, oa, rfl, hba, fun i hi => ?_⟩⟩
        rw [hcl i (by omega)]
        simp [at64, List.getD_eq_getElem?_getD, hi]
      have HBF := hid (HB.out.trans (hbl.mono HB.out.size))
      have hc32 : 32 ≤ c' := by omega
      clear hown hbl hrd hcl HLb HXL
      go_wp2
      go_ret
      exact ⟨_, _, rfl, hc32, HF.out, HBF.out⟩
end Go.Proofs.YteogjnendkbjcaaDoor
