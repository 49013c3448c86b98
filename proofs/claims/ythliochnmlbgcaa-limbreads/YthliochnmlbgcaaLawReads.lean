/-
  avouchlaw01.LimbReads returns true, whatever it is given, and turns nothing that was there.
-/
import Derived.Test.YthliochnmlbgcaaLawLib
import Derived.Test.YthliochnmlbgcaaBytesC
namespace Go.Proofs.Ythliochnmlbgcaa
open Go.RowKit
set_option linter.unusedVariables false

theorem limbWords_m (A : Option Addr) (n c m : Nat) (b : List Nat) (w : World) (ha : Rd8 w w.heap.size A n b) (hn : n ≤ 1000) (hm : m = (n + 7) / 8) :
    Calls Try.prog 25 #[.slice A n c] w fun e w' => Wds w e w' m (val 256 b) := by subst hm; exact limbWords_c A n c b w ha hn
theorem byte_bd {w : World} {B n N : Nat} {A : Option Addr} {l : List Nat} (h : Rd8 w B A n l) (hn : n ≤ 4 * N) : val 256 l < 4294967296 ^ N := by
  have h1 := val_lt 256 (by decide) l h.lt
  have h2 : 256 ^ n ≤ 256 ^ (4 * N) := Nat.pow_le_pow_right (by decide) hn
  rw [h.len] at h1
  rw [Nat.pow_mul] at h2
  exact Nat.lt_of_lt_of_le h1 h2
theorem byte_bd64 {w : World} {B n N : Nat} {A : Option Addr} {l : List Nat} (h : Rd8 w B A n l) (hn : n ≤ 8 * N) : val 256 l < 18446744073709551616 ^ N := by
  have h1 := val_lt 256 (by decide) l h.lt
  have h2 : 256 ^ n ≤ 256 ^ (8 * N) := Nat.pow_le_pow_right (by decide) hn
  rw [h.len] at h1
  rw [Nat.pow_mul] at h2
  exact Nat.lt_of_lt_of_le h1 h2

set_option maxRecDepth 100000 in
set_option maxHeartbeats 16000000 in
theorem limbReads_w (A0 : Option Addr) (n0 c0 : Nat) (l0 : List Nat) (w : World) (r0 : Rd8 w w.heap.size A0 n0 l0) :
    Calls Try.prog 4 #[.slice A0 n0 c0] w fun e w' => e = .returned (.bool true) ∧ Below w.heap.size w w' := by
  by_cases g0 : 300 < n0
  · have d0 : decide ((300 : Int) < (n0 : Int)) = true := by simp; omega
    go_enter Try.func4, Try.ntmps4
    go_wp2_with fail
    refine (speaks_c _).mono ?_
    rintro e w1 ⟨rfl, b1⟩
    go_wp2_with fail
    refine (speaks_c _).mono ?_
    rintro e w2 ⟨rfl, b2⟩
    go_wp2
    go_ret
    exact ⟨rfl, (bchain b1 b2)⟩
  have d0 : decide ((300 : Int) < (n0 : Int)) = false := by simp; omega
  go_enter Try.func4, Try.ntmps4
  go_wp2_with fail
  refine (speaks_c _).mono ?_
  rintro e w1 ⟨rfl, b1⟩
  obtain ⟨m, hm⟩ : ∃ m, m = (n0 + 7) / 8 := ⟨_, rfl⟩
  have hm1 : n0 ≤ 8 * m := by omega
  have hm2 : m ≤ 38 := by omega
  have hq : ((n0 : Int) + 7) / 8 = (m : Int) := by omega
  have HM := hid hm
  clear hm
  go_wp2_with fail
  refine (limbWords_m A0 n0 c0 m l0 _ (r0.up b1 (Nat.le_refl _)) (by omega) HM.out).mono ?_
  rintro e w2 ⟨T1, ct1, t1, rfl, hct1, rt1, vt1, b2⟩
  have HV1 := hid vt1
  clear vt1
  go_wp2_with fail
  refine (limbBytes_c T1 m ct1 t1 _ rt1 (by omega)).mono ?_
  rintro e w3 ⟨T2, ct2, t2, rfl, hct2, rt2, vt2, b3⟩
  have HV2 := hid vt2
  clear vt2
  go_wp2_with fail
  refine (ofBytes_c A0 n0 c0 l0 _ (r0.up (bchain (bchain b1 b2) b3) (Nat.le_refl _)) (by omega)).mono ?_
  rintro e w4 ⟨T3, ct3, t3, rfl, hct3, rt3, dt3, tt3, vt3, b4⟩
  have HV3 := hid vt3
  have HB3 : Hid (val 4294967296 t3 < 4294967296 ^ 76) := by rw [vt3]; exact byte_bd r0 (by omega)
  have hl3' : t3.length ≤ 76 := tr_len tt3 76 HB3.out
  clear vt3 tt3
  go_wp2_with fail
  refine (words_c T3 t3.length ct3 t3 m (m : Int) (rfl) _ rt3 dt3 (by omega)).mono ?_
  rintro e w5 ⟨T4, ct4, t4, rfl, hct4, rt4, vt4, b5⟩
  have HV4 := hid vt4
  clear vt4
  go_wp2_with fail
  refine (same_c T1 T4 m m ct1 ct4 _ t1 t4 _ (rt1.up (bchain (bchain b3 b4) b5) (Nat.le_refl _)) rt4 (by omega)).mono ?_
  rintro e w6 ⟨rfl, S6⟩
  have b6 := S6 w5.heap.size
  clear S6
  rw [decide_eq_true (eq_of_val rt1 rt4 (by rw [HV1.out, HV4.out, HV3.out, Nat.mod_eq_of_lt (byte_bd64 r0 hm1)]))]
  have HG : Hid (∀ i, i < 8 * m → t2.getD i 0 = l0.getD i 0) := by
    refine pv_inj 256 (by decide) _ _ rt2.lt r0.lt _ ?_
    rw [pv_out _ _ _ (by rw [rt2.len]; exact Nat.le_refl _), pv_out _ _ _ (by rw [r0.len]; exact hm1), HV2.out, HV1.out]
  have rb := (rt2.up (bchain (bchain b4 b5) b6) (Nat.le_refl _))
  have ra := (r0.up (bchain (bchain (bchain (bchain (bchain b1 b2) b3) b4) b5) b6) (Nat.le_refl _))
  have bl := (bchain (bchain (bchain (bchain (bchain b1 b2) b3) b4) b5) b6)
  clear b1 b2 b3 b4 b5 b6
  go_wp2
  go_loopw [41] (fun i wr => ∃ k : Nat, k ≤ 8 * m ∧ i = .int .i64 k ∧ Hid (wr = w6)) (fun i _ => 8 * m - (intOf i).toNat)
  case atStart => exact ⟨0, Nat.zero_le _, rfl, rfl⟩
  case round =>
    obtain ⟨k, hk, rfl, HW⟩ := hrel
    have hww := HW.out
    subst hww
    by_cases hlt : k < 8 * m
    · obtain ⟨bb, ob, rfl, hbb, hcb⟩ := rb.at_ hlt
      have hlt' : (k : Int) < 8 * (m : Int) := by omega
      by_cases hin : k < n0
      · obtain ⟨ba, oa, rfl, hba, hca⟩ := ra.at_ hin
        have e : at64 t2 k = at64 l0 k := by unfold at64; rw [HG.out k hlt]
        rw [e] at hcb
        clear e
        have t1 : decide ((n0 : Int) ≤ (k : Int)) = false := by simp; omega
        go_wp2
        go_roundw
        case rel => exact ⟨_, _, _, _, ⟨k + 1, by omega, rfl⟩, rfl, rfl, rfl, by go_num⟩
        case measure => simp [intOf]; omega
      · have e : at64 t2 k = 0 := by unfold at64; rw [HG.out k hlt, getD_out _ _ (by rw [r0.len]; omega)]; rfl
        rw [e] at hcb
        clear e
        have t1 : decide ((k : Int) < (n0 : Int)) = false := by simp; omega
        go_wp2
        go_roundw
        case rel => exact ⟨_, _, _, _, ⟨k + 1, by omega, rfl⟩, rfl, rfl, rfl, by go_num⟩
        case measure => simp [intOf]; omega
    · obtain rfl : k = 8 * m := by omega
      go_wp2
      go_ret
      exact ⟨rfl, bl⟩
end Go.Proofs.Ythliochnmlbgcaa
