/-
  avouchlaw08.GrainElements: the walk.
-/
import Derived.Test.YtpjjobophplleaaDoorFldN
import Derived.Test.YtpjjobophplleaaDoorGnH
import Derived.Test.YtpjjobophplleaaDoorHrE
import Derived.Test.YtpjjobophplleaaDoorRef2B
import Derived.Test.YtpjjobophplleaaDoorLAdd
namespace Go.Proofs.YtpjjobophplleaaDoor
open Go.RowKit
set_option linter.unusedVariables false

set_option maxRecDepth 100000 in
set_option maxHeartbeats 4000000 in
theorem grainElements_w (a b c d : Int) (my : Nat) (w : World) (hmy : my < 256) (hG : Glob w) :
    Calls Tryd.prog 3 #[four a b c d, .int .u8 (my : Int)] w fun e w' => e = .returned (.bool true) ∧ Below w.heap.size w w' := by
  have B0 := hid (show Below w.heap.size w (w.alloc (.cells #[.int .i64 a, .int .i64 b, .int .i64 c, .int .i64 d] 22)) from (Below.refl _ _).alloc (Nat.le_refl _) _)
  have K0 := hid (BlkV.new w 22 [.int .i64 a, .int .i64 b, .int .i64 c, .int .i64 d])
  have HG := hid hG
  unfold four
  by_cases hok : gOk a b c d
  case neg =>
    clear hmy hG HG
    go_enter Tryd.func3, Tryd.ntmps3
    go_wp2_with fail
    refine (speaks8_c _).mono ?_
    rintro e w1 ⟨rfl, b1⟩
    have B1 := hid (B0.out.trans (b1.mono B0.out.size))
    have K1 := BlkV.up K0.out b1
    obtain ⟨c0, c1, c2, c3⟩ := four_cells K1
    clear b1 B0 K0 K1
    go_wp2_with fail
    refine (new_err a b c d w1 hok).mono ?_
    rintro e v1 ⟨rfl, rfl⟩
    go_wp2_with fail
    refine (rnew_err a b c d v1 hok).mono ?_
    rintro e w2 ⟨rfl, b2⟩
    obtain ⟨hst, hn2, hb2⟩ := newR w2 0
    have hlz := rg_len 0
    have hz := zeroR
    have B2 := hid (B1.out.trans ((b2.trans (hb2.mono b2.size)).mono B1.out.size))
    clear b2 hn2 hb2 c0 c1 c2 c3
    unfold rg oR at *
    go_wp2_with fail
    go_ret
    exact ⟨rfl, B2.out⟩
  obtain ⟨a, b, c, d, rfl, rfl, rfl, rfl⟩ := gOk_nat hok
  have HGS := hid (gS_gs a b c d)
  have HN1 := hid (fun v => new_ok a b c d v hok)
  have HN2 := hid (fun v => rnew_ok a b c d v hok)
  generalize gS a b c d = S at *
  clear hok hG
  go_enter Tryd.func3, Tryd.ntmps3
  go_wp2_with fail
  refine (speaks8_c _).mono ?_
  rintro e w1 ⟨rfl, b1⟩
  have B1 := hid (B0.out.trans (b1.mono B0.out.size))
  have K1 := BlkV.up K0.out b1
  obtain ⟨c0, c1, c2, c3⟩ := four_cells K1
  have K1' := hid K1
  clear b1 B0 K0 K1
  go_wp2_with fail
  refine (HN1.out w1).mono ?_
  rintro e v1 ⟨p, rfl, hp, g1, bp⟩
  clear c0 c1 c2 c3
  obtain ⟨c0, c1, c2, c3⟩ := four_cells (BlkV.up K1'.out bp)
  go_wp2_with fail
  refine (HN2.out v1).mono ?_
  rintro e w2 ⟨rfl, b2⟩
  obtain ⟨hst, hM⟩ := TwoM.start hp g1 bp b2 S
  have R0 := hid hM
  have HLP : Hid (0 < p ∧ 1 < p) := by
    have h1 := HG.out.sizeP
    have h2 := HG.out.sizeR
    have h3 := B1.out.size
    exact ⟨by omega, by omega⟩
  have HG1 := hid (HG.out.up B1.out)
  have hlS := rg_len S
  have hlz := rg_len 0
  have hz := zeroR
  obtain ⟨M, hM7⟩ : ∃ M, M = my % 7 := ⟨_, rfl⟩
  have e7 : (my : Int) % 7 = (M : Int) := by omega
  have M7 : M < 7 := by omega
  clear c0 c1 c2 c3 hp g1 bp b2 hM HN1 HN2 K1' HG hM7
  unfold rg oR at *
  go_wp2_with fail
  clear hst hlS hlz hz
  generalize ((w2.alloc _).setCells _ _ _) = w3 at *
  generalize w2.heap.size = m at *
  simp only [e7]
  clear e7 hmy
  go_loopw [54] (fun i wr => ∃ (k x : Nat), k ≤ M ∧ Hid (GS x) ∧ i = .int .i64 k ∧ TwoM w1.heap.size w1 p m x x wr) (fun i _ => M - (intOf i).toNat)
  case atStart => exact ⟨0, S, Nat.zero_le _, HGS, rfl, R0.out⟩
  case round =>
    clear R0 HGS
    obtain ⟨k, x, hk, HX, rfl, hrel⟩ := hrel
    have HR := hid hrel
    have HO := hid hrel.gm.range
    have HSz := hid (sizeR_s x)
    clear hrel
    by_cases hlt : k < M
    · have i2 : (k : Int) < (M : Int) := by omega
      have hlz := rg_len 0
      have hz := zeroR
      go_wp2_with (with_reducible refine wpList_load_mid rfl 29 (.tmp 7) rfl m 0 rfl (bcell 80 x.testBit) _ (by with_reducible exact HO.out) Tryd.underlying29 rfl HSz.out ?_)
      refine (relem_c x wr HX.out).mono ?_
      rintro e w4 ⟨r, rfl, hr, b4⟩
      obtain ⟨y, hy⟩ : ∃ y, y = gelr x := ⟨_, rfl⟩
      rw [← hy]
      have HY := hid hy
      clear hy
      obtain ⟨hst, hn, hbn⟩ := newR w4 y
      have hR4 := HR.out.up (b4.trans (hbn.mono b4.size))
      have hst2 := hR4.store y
      have HN := hid (hR4.put y)
      have hmB : m < wr.heap.size := BlkV.size HR.out.gm
      have hpB : p < wr.heap.size := BlkV.size HR.out.gp
      have HZ := hid ((hr.up hbn).put hmB (bcell 80 y.testBit) 0)
      have HPB := hid hpB
      have HO2 := hid hn.range
      have HSz2 := hid (sizeR_s y)
      have hly := rg_len y
      have HEL := hid (fun v (hv : G8 v p 51 x) (hg : Glob v) => gelem_c x p 51 v HX.out hv hg HLP.out)
      have HVL := hid (gelv_lt HX.out)
      have HXN : Hid (GS y) := by rw [HY.out]; exact hid HX.out.elr
      rw [← HY.out] at HEL
      generalize gelv x = v at *
      clear b4 hn hbn hR4 hr hmB hpB HO HSz HR
      unfold rg oR at *
      go_wp2_with (with_reducible refine wpList_load_mid rfl 29 (.tmp 9) rfl w4.heap.size 0 rfl (bcell 80 y.testBit) _ (by with_reducible exact HO2.out) Tryd.underlying29 rfl HSz2.out ?_)
      refine (HEL.out _ HN.out.gp (HG1.out.up HN.out.b)).mono ?_
      rintro e w5 ⟨r1, rfl, hr1, g5, o5⟩
      have HN5 := hid (HN.out.left o5 g5)
      have HZ5 := hid (HZ.out.only o5 HPB.out)
      have HR1 := hid hr1
      clear g5 o5 hr1 HN HZ hst hst2 HO2 HSz2 hly hlz hz
      go_wp2_with fail
      refine (is_c r1 r v v w5 HR1.out HZ5.out.dg (Nat.lt_trans HVL.out (by decide)) (HG1.out.up HN5.out.b)).mono ?_
      rintro e w6 ⟨rfl, b6⟩
      rw [decide_eq_true rfl]
      have HN6 := hid (HN5.out.up b6)
      clear b6 HN5 HZ5
      go_wp2
      go_roundw
      case rel => exact ⟨k + 1, y, by omega, HXN, by go_num, HN6.out⟩
      case measure => simp [intOf]; omega
    · have j2 : decide ((k : Int) < (M : Int)) = false := by simp; omega
      go_wp2
      go_ret
      exact ⟨rfl, B1.out.trans (HR.out.b.mono B1.out.size)⟩
end Go.Proofs.YtpjjobophplleaaDoor
