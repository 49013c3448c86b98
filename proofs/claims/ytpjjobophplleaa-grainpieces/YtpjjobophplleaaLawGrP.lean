/-
  avouchlaw08.GrainPieces: the walk.
-/
import Derived.Test.YtpjjobophplleaaGnS
import Derived.Test.YtpjjobophplleaaFrameI
import Derived.Laws.Bits64b
namespace Go.Proofs.Ytpjjobophplleaa
open Go.RowKit
set_option linter.unusedVariables false

theorem four_cells' {w : World} {b : Nat} {t : TypeId} {a0 a1 a2 a3 : Int} (h : BlkV w b t [.int .i64 a0, .int .i64 a1, .int .i64 a2, .int .i64 a3]) :
    w.cell? ⟨b, 0, none⟩ = some (.int .i64 a0) ∧ w.cell? ⟨b, 1, none⟩ = some (.int .i64 a1) ∧ w.cell? ⟨b, 2, none⟩ = some (.int .i64 a2) ∧ w.cell? ⟨b, 3, none⟩ = some (.int .i64 a3) :=
  ⟨h.cell (i := 0) (by simp), h.cell (i := 1) (by simp), h.cell (i := 2) (by simp), h.cell (i := 3) (by simp)⟩
theorem gOk_nat' {a b c d : Int} (h : gOk a b c d) : ∃ a' b' c' d' : Nat, a = a' ∧ b = b' ∧ c = c' ∧ d = d' := by
  unfold gOk at h
  exact ⟨a.toNat, b.toNat, c.toNat, d.toNat, by omega, by omega, by omega, by omega⟩
theorem gval_add : ∀ (k m s : Nat), gval (k + m) s = gval k s * 2 ^ m + gval m (gns k s)
  | 0, m, s => by
    rw [Nat.zero_add]
    show gval m s = 0 * 2 ^ m + gval m s
    rw [Nat.zero_mul, Nat.zero_add]
  | k + 1, m, s => by
    rw [Nat.add_right_comm]
    show (gbit s).toNat * 2 ^ (k + m) + gval (k + m) (gnext s) = ((gbit s).toNat * 2 ^ k + gval k (gnext s)) * 2 ^ m + gval m (gns k (gnext s))
    rw [gval_add k m (gnext s), Nat.pow_add, Nat.add_mul, Nat.mul_assoc, Nat.add_assoc]
theorem or_one (v : Nat) (hv : v < 9223372036854775808) : bits .or .u64 ((v : Int) * 2) 1 = ((2 * v + 1 : Nat) : Int) := by
  have h := or_bit v 1 hv (Nat.le_refl _)
  exact h
theorem or_pieces {L h k m : Nat} (hL : L < 2 ^ m) (hh : h < 2 ^ k) (hkm : k + m ≤ 64) : bits .or .u64 (L : Int) (IntKind.u64.wrap ((h : Int) * 2 ^ m)) = ((h * 2 ^ m + L : Nat) : Int) := by
  have e1 : (h : Int) * 2 ^ m = ((h * 2 ^ m : Nat) : Int) := by simp
  have h64 : h * 2 ^ m + 2 ^ m ≤ 2 ^ 64 := by
    have h1 : (h + 1) * 2 ^ m ≤ 2 ^ k * 2 ^ m := Nat.mul_le_mul_right _ hh
    have h2 : (2 : Nat) ^ k * 2 ^ m = 2 ^ (k + m) := (Nat.pow_add 2 k m).symm
    have h3 : (2 : Nat) ^ (k + m) ≤ 2 ^ 64 := Nat.pow_le_pow_right (by decide) hkm
    rw [Nat.add_mul, Nat.one_mul] at h1
    omega
  have h5 := Nat.shiftLeft_add_eq_or_of_lt hL h
  rw [Nat.shiftLeft_eq] at h5
  have e64 : (2 : Nat) ^ 64 = 18446744073709551616 := by decide
  rw [e64] at h64
  generalize h * 2 ^ m = x at *
  generalize 2 ^ m = z at *
  rw [e1, show IntKind.u64.wrap (x : Int) = (x : Int) by rw [IntKind.wrap_u64]; omega, bits_or_u64_nat _ _ (by omega) (by omega), Nat.or_comm, ← h5]
theorem gns_zero (s : Nat) : gns 0 s = s := rfl
theorem gmany_nat {n : Nat} (h : n ≤ 64) : gmany (n : Int) = n := by unfold gmany; omega
set_option maxRecDepth 100000 in
set_option maxHeartbeats 4000000 in
theorem grainPieces_w (a b c d : Int) (x y : Nat) (w : World) (hx : x < 256) (hy : y < 256) :
    Calls Try.prog 4 #[four a b c d, .int .u8 (x : Int), .int .u8 (y : Int)] w fun e w' => e = .returned (.bool true) ∧ Below w.heap.size w w' := by
  have B0 := hid (show Below w.heap.size w (w.alloc (.cells #[.int .i64 a, .int .i64 b, .int .i64 c, .int .i64 d] 22)) from (Below.refl _ _).alloc (Nat.le_refl _) _)
  have K0 := hid (BlkV.new w 22 [.int .i64 a, .int .i64 b, .int .i64 c, .int .i64 d])
  unfold four
  by_cases hok : gOk a b c d
  case neg =>
    clear hx hy
    go_enter Try.func4, Try.ntmps4
    go_wp2_with fail
    refine (speaks8_c _).mono ?_
    rintro e w1 ⟨rfl, b1⟩
    have B1 := hid (B0.out.trans (b1.mono B0.out.size))
    have K1 := BlkV.up K0.out b1
    obtain ⟨c0, c1, c2, c3⟩ := four_cells' K1
    clear b1 B0 K0 K1
    go_wp2_with fail
    refine (new_err a b c d w1 hok).mono ?_
    rintro e v1 ⟨rfl, rfl⟩
    go_wp2_with fail
    refine (new_err a b c d v1 hok).mono ?_
    rintro e w2 ⟨rfl, rfl⟩
    clear c0 c1 c2 c3
    go_wp2_with fail
    go_ret
    exact ⟨rfl, B1.out⟩
  obtain ⟨a, b, c, d, rfl, rfl, rfl, rfl⟩ := gOk_nat' hok
  have HGS := hid (gS_gs a b c d)
  have HN1 := hid (fun v => new_ok a b c d v hok)
  generalize gS a b c d = S at *
  clear hok
  obtain ⟨n, hn⟩ : ∃ n, n = x % 65 := ⟨_, rfl⟩
  obtain ⟨k, hk⟩ : ∃ k, k = y % (n + 1) := ⟨_, rfl⟩
  have hn64 : n ≤ 64 := by omega
  have hkn : k ≤ n := by rw [hk]; exact Nat.le_of_lt_succ (Nat.mod_lt y (Nat.succ_pos n))
  have e1 : (x : Int) % 65 = (n : Int) := by omega
  have e2 : (y : Int) % ((n : Int) + 1) = (k : Int) := by rw [hk, Int.natCast_emod, Int.natCast_add]; rfl
  have en1 : ((n : Int) + 1 == 0) = false := by simp; omega
  clear hn hk
  go_enter Try.func4, Try.ntmps4
  go_wp2_with fail
  refine (speaks8_c _).mono ?_
  rintro e w1 ⟨rfl, b1⟩
  have B1 := hid (B0.out.trans (b1.mono B0.out.size))
  have K1 := BlkV.up K0.out b1
  obtain ⟨c0, c1, c2, c3⟩ := four_cells' K1
  have K1' := hid K1
  clear b1 B0 K0 K1
  go_wp2_with fail
  refine (HN1.out w1).mono ?_
  rintro e v1 ⟨p, rfl, hp, g1, bp⟩
  clear c0 c1 c2 c3
  obtain ⟨c0, c1, c2, c3⟩ := four_cells' (BlkV.up K1'.out bp)
  go_wp2_with fail
  refine (HN1.out v1).mono ?_
  rintro e w2 ⟨q, rfl, hq, g2, b2⟩
  have R0 := hid (TwoS.start hp g1 bp hq g2 b2)
  clear c0 c1 c2 c3 hp hq g1 g2 bp b2 HN1 K1'
  go_wp2_with fail
  rw [e1, e2]
  clear e1 e2 en1 hx hy
  have HX := HGS
  have hM1 := gnumber_c S p (n : Int) 45 w2 HGS.out R0.out.gp
  rw [gmany_nat hn64] at hM1
  refine hM1.mono ?_
  rintro e w3 ⟨rfl, g3, o3⟩
  have R3 := hid (R0.out.left o3 g3)
  clear g3 o3 R0
  go_wp2_with fail
  have hM2 := gnumber_c S q (k : Int) 45 w3 HGS.out R3.out.gq
  rw [gmany_nat (Nat.le_trans hkn hn64)] at hM2
  refine hM2.mono ?_
  rintro e w4 ⟨rfl, g4, o4⟩
  have R4 := hid (R3.out.right o4 g4)
  have HGV := hid (gval_lt k S)
  obtain ⟨m, hm⟩ : ∃ m, m = n - k := ⟨_, rfl⟩
  have HNM : Hid (n = k + m) := by show _ = _; omega
  have HM := hid hm
  have HADD : Hid (gval n S = gval k S * 2 ^ m + gval m (gns k S)) := by
    show _ = _
    rw [HNM.out, gval_add]
  have HNS : Hid (gns n S = gns m (gns k S)) := by
    show _ = _
    rw [HNM.out, gns_add]
  have HGT := hid (GS.ns k HGS.out)
  have hm64 : m ≤ 64 := by omega
  generalize gval n S = V at *
  generalize gval k S = h at *
  generalize gns n S = X at *
  generalize gns k S = s at *
  clear g4 o4 hM1 hM2 hm
  go_wp2_with fail
  go_loopw [15, 73] (fun u j wr => ∃ i : Nat, i ≤ m ∧ u = .int .u64 (gval i s : Nat) ∧ j = .int .i64 i ∧ TwoS w1.heap.size w1 p q X (gns i s) wr) (fun _ j _ => m - (intOf j).toNat)
  case atStart => exact ⟨0, Nat.zero_le _, rfl, rfl, by rw [gns_zero]; exact R4.out⟩
  case round =>
    clear R4
    obtain ⟨i, hi, rfl, rfl, hrel⟩ := hrel
    have HR := hid hrel
    clear hrel
    by_cases hlt : i < m
    · have i2 : (i : Int) < (n : Int) - (k : Int) := by have := HNM.out; omega
      have hv := gval_lt i s
      have h63 : (2 : Nat) ^ i ≤ 2 ^ 63 := Nat.pow_le_pow_right (by decide) (by omega)
      have hv2 : gval i s < 9223372036854775808 := Nat.lt_of_lt_of_le hv h63
      have HV := hid (gval_last i s)
      have HN1 := hid (gns_succ i s)
      have HB := hid (fun v (hv : G8 v q 45 (gns i s)) => gbit_c (gns i s) q 45 v (GS.ns i HGT.out) hv)
      obtain ⟨v, hvv⟩ : ∃ v, v = gval i s := ⟨_, rfl⟩
      rw [← hvv] at hv2 HV ⊢
      clear hv h63 hvv
      go_wp2_with fail
      refine (HB.out wr HR.out.gq).mono ?_
      rintro e w5 ⟨rfl, g5, o5⟩
      have HN := hid (HR.out.right o5 g5)
      rw [← HN1.out] at HN
      clear g5 o5 HB
      cases hb : gbit (gns i s)
      · rw [hb] at HV
        have HV2 : Hid (gval (i + 1) s = 2 * v) := HV
        clear HV hb
        go_wp2
        go_roundw
        case rel => exact ⟨i + 1, by omega, by rw [HV2.out]; go_num, by go_num, HN.out⟩
        case measure => simp [intOf]; omega
      · rw [hb] at HV
        have HV2 : Hid (gval (i + 1) s = 2 * v + 1) := HV
        clear HV hb
        go_wp2
        have HOR := hid (or_one v hv2)
        go_roundw
        case rel => exact ⟨i + 1, by omega, by rw [HV2.out, HOR.out], by go_num, HN.out⟩
        case measure => simp [intOf]; omega
    · have eM : i = m := by omega
      rw [eM] at HR ⊢
      have j2 : decide ((m : Int) < (n : Int) - (k : Int)) = false := by have := HNM.out; simp; omega
      have HL := hid (gval_lt m s)
      rw [← HNS.out] at HR
      have HXX := hid (show GS X by rw [HNS.out]; exact GS.ns m HGT.out)
      generalize gval m s = L at *
      by_cases hm2 : m < 64
      · have i5 : (n : Int) - (k : Int) < 64 := by have := HNM.out; omega
        have et : ((n : Int) - (k : Int)).toNat = m := by have := HNM.out; omega
        have hor := or_pieces HL.out HGV.out (by have := HNM.out; omega)
        rw [← HADD.out] at hor
        go_wp2_with fail
        refine (gbit_c X p 45 wr HXX.out HR.out.gp).mono ?_
        rintro e w5 ⟨rfl, g5, o5⟩
        have HR5 := hid (HR.out.left o5 g5)
        clear g5 o5
        go_wp2_with fail
        refine (gbit_c X q 45 w5 HXX.out HR5.out.gq).mono ?_
        rintro e w6 ⟨rfl, g6, o6⟩
        have HR6 := hid (HR5.out.right o6 g6)
        clear g6 o6
        generalize gbit X = tb
        go_wp2
        go_ret
        exact ⟨rfl, B1.out.trans (HR6.out.b.mono B1.out.size)⟩
      · have i5 : decide ((n : Int) - (k : Int) < 64) = false := by have := HNM.out; simp; omega
        obtain rfl : L = V := by
          have h0 : k = 0 := by have := HNM.out; omega
          have h1 := HGV.out
          rw [h0] at h1
          have h2 : h = 0 := by simp at h1; exact h1
          rw [HADD.out, h2, Nat.zero_mul, Nat.zero_add]
        go_wp2_with fail
        refine (gbit_c X p 45 wr HXX.out HR.out.gp).mono ?_
        rintro e w5 ⟨rfl, g5, o5⟩
        have HR5 := hid (HR.out.left o5 g5)
        clear g5 o5
        go_wp2_with fail
        refine (gbit_c X q 45 w5 HXX.out HR5.out.gq).mono ?_
        rintro e w6 ⟨rfl, g6, o6⟩
        have HR6 := hid (HR5.out.right o6 g6)
        clear g6 o6
        generalize gbit X = tb
        go_wp2
        go_ret
        exact ⟨rfl, B1.out.trans (HR6.out.b.mono B1.out.size)⟩
end Go.Proofs.Ytpjjobophplleaa
