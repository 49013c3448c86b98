import Derived.Test.YtdepkfdceidikaaGreatDoorLNew
import Derived.Test.YtdepkfdceidikaaGreatDoorLMul
import Derived.Deep.CutBlock
import Derived.Deep.DeepCutAuto
import Derived.Deep.QuietTactic
import Derived.BigQuiet
import Derived.Test.YtdepkfdceidikaaGreatDoorLShift
import Derived.Deep.LoopGhost
/-
  bits.Div64 (by a divisor whose highest bit is set), limb.guess: what each call does.
-/
namespace Go.Proofs.YtdepkfdceidikaaGreatDoor
open Go.RowKit
set_option linter.unusedVariables false

theorem lz64_top (y : Int) (h0 : 9223372036854775808 ≤ y) (h1 : y < 18446744073709551616) (w : World) :
    Calls Tryz.prog 81 #[.int .u64 y] w fun e w' => e = .returned (.int .i64 0) ∧ w = w' := by
  refine (lz64_c y (by omega) (by omega) w).mono ?_
  rintro e w' ⟨rfl, rfl⟩
  have e1 := Lib.bitLen_shift 63 y.toNat (by omega) (by omega)
  have e2 : y.toNat / 2 ^ 63 = 1 := by omega
  rw [e2] at e1
  have e3 : Lib.bitLen 1 = 1 := by decide
  rw [e3] at e1
  exact ⟨ret_int (by rw [e1]; rfl), rfl⟩

set_option maxHeartbeats 1000000 in
theorem div64_hi0 (lo y : Nat) (hy : 0 < y) (hy' : y < 18446744073709551616) (hlo : lo < 18446744073709551616) (w : World) :
    Calls Tryz.prog 134 #[.int .u64 0, .int .u64 lo, .int .u64 y] w fun e w' => (∃ r : Int, e = .returned (.tuple #[.int .u64 ((lo / y : Nat) : Int), .int .u64 r])) ∧ ∃ n, w' = w.drewN n := by
  have hy0 : ((y : Int) == 0) = false := by simp; omega
  have hle : ¬ (y : Int) ≤ 0 := by omega
  go_enter Tryz.func134, Tryz.ntmps134
  go_wp2
  go_quiet (fail)
  have HQ : Hid (IntKind.u64.wrap ((lo : Int) / y) = ((lo / y : Nat) : Int)) := by
    show _ = _
    have h1 : lo / y ≤ lo := Nat.div_le_self _ _
    have h2 : ((lo / y : Nat) : Int) = (lo : Int) / y := Int.natCast_ediv _ _
    rw [IntKind.wrap_u64, ← h2]
    generalize lo / y = z at h1 ⊢
    omega
  go_wp2
  rw [HQ.out]
  go_ret2
  exact ⟨⟨_, rfl⟩, nq, rfl⟩

/-- A guessed digit of a quotient, and what is left. -/
def DI (n v1 v0 u q r : Nat) : Prop := q * v1 + r = n ∧ (n * 4294967296 + u) / (v1 * 4294967296 + v0) ≤ q ∧ q ≤ 4294967297
theorem di_more {n v1 v0 u q r : Nat} (h : DI n v1 v0 u q r) (hv : 0 < v1) (hv0 : v0 < 4294967296) (hn : n < v1 * 4294967296 + v0) (hu : u < 4294967296) (ht : 4294967296 ≤ q ∨ 4294967296 * r + u < q * v0) : (n * 4294967296 + u) / (v1 * 4294967296 + v0) < q := by
  rw [Nat.div_lt_iff_lt_mul (by omega)]
  obtain ⟨h1, _, _⟩ := h
  rcases ht with ht | ht
  · have h2 : 4294967296 * (v1 * 4294967296 + v0) ≤ q * (v1 * 4294967296 + v0) := Nat.mul_le_mul_right _ ht
    omega
  · have e : q * (v1 * 4294967296 + v0) = q * v1 * 4294967296 + q * v0 := by rw [Nat.mul_add, Nat.mul_assoc]
    rw [e]; omega
theorem di_done {n v1 v0 u q r : Nat} (h : DI n v1 v0 u q r) (hv : 0 < v1) (ht : q * v0 ≤ 4294967296 * r + u) : q = (n * 4294967296 + u) / (v1 * 4294967296 + v0) := by
  obtain ⟨h1, h2, _⟩ := h
  refine Nat.le_antisymm ?_ h2
  rw [Nat.le_div_iff_mul_le (by omega)]
  have e : q * (v1 * 4294967296 + v0) = q * v1 * 4294967296 + q * v0 := by rw [Nat.mul_add, Nat.mul_assoc]
  rw [e]; omega
theorem di_step {n v1 v0 u q r : Nat} (h : DI n v1 v0 u q r) (hm : (n * 4294967296 + u) / (v1 * 4294967296 + v0) < q) : DI n v1 v0 u (q - 1) (r + v1) := by
  obtain ⟨h1, h2, h3⟩ := h
  have hq0 : 0 < q := Nat.lt_of_le_of_lt (Nat.zero_le _) hm
  obtain ⟨p, rfl⟩ : ∃ p, q = p + 1 := ⟨q - 1, by omega⟩
  refine ⟨?_, by omega, by omega⟩
  rw [Nat.add_mul] at h1
  show p * v1 + (r + v1) = n
  omega
theorem di_out {n v1 v0 u q r : Nat} (h : DI n v1 v0 u q r) (hv : 0 < v1) (hv0 : v0 < 4294967296) (hq : q ≤ 4294967296) (hr : 4294967296 ≤ r) : q = (n * 4294967296 + u) / (v1 * 4294967296 + v0) := by
  refine di_done h hv ?_
  have : q * v0 ≤ 4294967296 * 4294967295 := Nat.mul_le_mul hq (by omega)
  omega
theorem di_start (n v1 v0 u : Nat) (hv : 2147483648 ≤ v1) (hv0 : v0 < 4294967296) (hn : n < v1 * 4294967296 + v0) (hu : u < 4294967296) : DI n v1 v0 u (n / v1) (n % v1) := by
  refine ⟨by rw [Nat.mul_comm]; exact Nat.div_add_mod _ _, ?_, ?_⟩
  · apply Nat.le_of_lt_succ
    rw [Nat.div_lt_iff_lt_mul (by omega)]
    have h1 := Nat.div_add_mod n v1
    have h2 := Nat.mod_lt n (show 0 < v1 by omega)
    have e : (n / v1).succ * (v1 * 4294967296 + v0) = (v1 * (n / v1) + v1) * 4294967296 + (n / v1).succ * v0 := by
      rw [Nat.succ_mul, Nat.succ_mul, Nat.mul_add]; grind
    rw [e]
    have h3 : n + 1 ≤ v1 * (n / v1) + v1 := by omega
    have h4 : (n + 1) * 4294967296 ≤ (v1 * (n / v1) + v1) * 4294967296 := Nat.mul_le_mul_right _ h3
    omega
  · apply Nat.le_of_lt_succ
    rw [Nat.div_lt_iff_lt_mul (by omega)]
    omega

theorem or_zero (a : Nat) (h : a < 18446744073709551616) (lo : Nat) (hl : lo < 18446744073709551616) : bits .or .u64 (a : Int) ((lo : Int) / 18446744073709551616) = (a : Int) := by
  have e : (lo : Int) / 18446744073709551616 = ((0 : Nat) : Int) := by omega
  have := bits_or_u64_nat a 0 h (by omega)
  rw [e, this]; simp
theorem d_quot (n v : Nat) (hn : n < 18446744073709551616) : IntKind.u64.wrap ((n : Int).tdiv (v : Int)) = ((n / v : Nat) : Int) := by
  have h1 : n / v ≤ n := Nat.div_le_self _ _
  rw [Int.tdiv_eq_ediv_of_nonneg (by omega), ← Int.natCast_ediv, IntKind.wrap_u64]
  generalize n / v = z at h1 ⊢
  omega
theorem d_rest (n v : Nat) (hn : n < 18446744073709551616) : IntKind.u64.wrap ((n : Int) - IntKind.u64.wrap (((n / v : Nat) : Int) * (v : Int))) = ((n % v : Nat) : Int) := by
  have h1 := Nat.div_add_mod n v
  have h2 : n / v * v ≤ n := Nat.div_mul_le_self n v
  rw [Nat.mul_comm] at h1
  rw [← Int.natCast_mul, IntKind.wrap_u64, IntKind.wrap_u64]
  generalize n / v * v = z at h1 h2 ⊢
  omega

theorem d_un (n u q y R : Nat) (h : q * y + R = n * 4294967296 + u) (hR : R < 18446744073709551616) :
    IntKind.u64.wrap (IntKind.u64.wrap (IntKind.u64.wrap ((n : Int) * 4294967296) + u) - IntKind.u64.wrap ((q : Int) * y)) = (R : Int) := by
  rw [← Int.natCast_mul]
  simp only [IntKind.wrap_u64]
  generalize q * y = z at h ⊢
  omega
theorem d_last (n u y d q1 R1 q2 : Nat) (hy : y = d) (h1 : q1 = (n * 4294967296 + u / 4294967296) / d) (h2 : q1 * y + R1 = n * 4294967296 + u / 4294967296) (h3 : q2 = (R1 * 4294967296 + u % 4294967296) / d) (hd : 0 < d) :
    q1 * 4294967296 + q2 = (n * 18446744073709551616 + u) / y := by
  subst hy
  have e : n * 18446744073709551616 + u = q1 * 4294967296 * y + (R1 * 4294967296 + u % 4294967296) := by
    have e1 : q1 * 4294967296 * y = q1 * y * 4294967296 := by rw [Nat.mul_right_comm]
    rw [e1]
    generalize q1 * y = z at h2
    omega
  rw [e, Nat.add_comm (q1 * 4294967296 * y), Nat.add_mul_div_right _ _ hd, h3, Nat.add_comm]

set_option maxRecDepth 100000 in
set_option maxHeartbeats 4000000 in
theorem div64_n (hi lo y : Nat) (hy : 9223372036854775808 ≤ y) (hy' : y < 18446744073709551616) (hlo : lo < 18446744073709551616) (hhi : hi < y) (h0 : 0 < hi) (w : World) :
    Calls Tryz.prog 134 #[.int .u64 hi, .int .u64 lo, .int .u64 y] w fun e w' => (∃ r : Int, e = .returned (.tuple #[.int .u64 (((hi * 18446744073709551616 + lo) / y : Nat) : Int), .int .u64 r])) ∧ ∃ n, w' = w.drewN n := by
  have hy0 : ((y : Int) == 0) = false := by simp; omega
  have hhi0 : ((hi : Int) == 0) = false := by simp; omega
  have hle : ¬ (y : Int) ≤ hi := by omega
  go_enter Tryz.func134, Tryz.ntmps134
  go_wp2_with fail
  refine (lz64_top _ (by omega) (by omega) _).mono ?_
  rintro e w' ⟨rfl, rfl⟩
  go_upto_block 0 with fail
  have hny : (y : Int) / 4294967296 = ((y / 4294967296 : Nat) : Int) := by omega
  have hnl : (lo : Int) / 4294967296 = ((lo / 4294967296 : Nat) : Int) := by omega
  simp only [or_zero hi (by omega) lo hlo, Mul64.maskN y hy', Mul64.maskN lo hlo, hny, hnl, d_quot hi _ (show hi < 18446744073709551616 by omega), d_rest hi _ (show hi < 18446744073709551616 by omega)]
  have hv1 : 2147483648 ≤ y / 4294967296 := by omega
  have hv1' : y / 4294967296 < 4294967296 := by omega
  have hv0 : y % 4294967296 < 4294967296 := by omega
  have hu1 : lo / 4294967296 < 4294967296 := by omega
  have hu0 : lo % 4294967296 < 4294967296 := by omega
  have HY : Hid (y = y / 4294967296 * 4294967296 + y % 4294967296) := by show _ = _; omega
  have HL : Hid (lo = lo / 4294967296 * 4294967296 + lo % 4294967296) := by show _ = _; omega
  clear hny hnl
  generalize y / 4294967296 = v1 at hv1 hv1' HY ⊢
  generalize y % 4294967296 = v0 at hv0 HY ⊢
  generalize lo / 4294967296 = u1 at hu1 HL ⊢
  generalize lo % 4294967296 = u0 at hu0 HL ⊢
  have HN : Hid (hi < v1 * 4294967296 + v0) := by have h := HY.out; show _ < _; omega
  go_cut [15] (fun a wx => a = .int .u64 (((hi * 4294967296 + u1) / (v1 * 4294967296 + v0) : Nat) : Int) ∧ w = wx)
  case first =>
    go_wp2_with fail
    go_loop [15, 16] (fun a b => ∃ q r : Nat, a = .int .u64 q ∧ b = .int .u64 r ∧ Hid (DI hi v1 v0 u1 q r ∧ q ≤ 4294967297 ∧ r < 4294967296)) (fun a _ => (intOf a).toNat)
    case atStart => exact ⟨_, _, rfl, rfl, ⟨di_start hi v1 v0 u1 hv1 hv0 HN.out (by omega), (di_start hi v1 v0 u1 hv1 hv0 HN.out (by omega)).2.2, Nat.lt_trans (Nat.mod_lt _ (by omega)) hv1'⟩⟩
    case round =>
      obtain ⟨q, r, rfl, rfl, HX⟩ := hrel
      obtain ⟨hd, hq, hr⟩ := HX.out
      have HD := hid hd
      clear hd HX
      have e1 : IntKind.u64.wrap ((q : Int) * v0) = ((q * v0 : Nat) : Int) ∨ 4294967296 ≤ q := by
        rcases Nat.lt_or_ge q 4294967296 with h | h
        · left
          have : q * v0 ≤ 4294967295 * 4294967295 := Nat.mul_le_mul (by omega) (by omega)
          rw [IntKind.wrap_u64, ← Int.natCast_mul]; omega
        · exact .inr h
      by_cases hA : 4294967296 ≤ q
      · have hm := di_more HD.out (by omega) hv0 HN.out (by omega) (.inl hA)
        have HS := hid (di_step HD.out hm)
        have hA' : (4294967296 : Int) ≤ q := by omega
        clear hm e1
        by_cases hR : 4294967296 ≤ r + v1
        · have HO := hid (di_out HS.out (by omega) hv0 (by omega) hR)
          have hR' : (4294967296 : Int) ≤ (r : Int) + v1 := by omega
          clear hR
          go_wp2
          go_meet
          case rel => exact ⟨(by rw [← HO.out]; go_num), rfl⟩
        · have hR' : decide ((4294967296 : Int) ≤ (r : Int) + v1) = false := by simp; omega
          have HR := hid hR
          clear hR
          go_wp2
          go_round
          case rel => exact ⟨q - 1, r + v1, by go_num, by go_num, ⟨HS.out, by omega, (by have := HR.out; omega)⟩⟩
          case measure => simp [intOf]; omega
      · have e2 : IntKind.u64.wrap ((q : Int) * v0) = ((q * v0 : Nat) : Int) := by rcases e1 with h | h; exact h; omega
        clear e1
        obtain ⟨P, hP⟩ : ∃ P : Nat, P = q * v0 := ⟨_, rfl⟩
        rw [← hP] at e2
        by_cases hB : 4294967296 * r + u1 < P
        · have hm := di_more HD.out (by omega) hv0 HN.out (by omega) (.inr (by rw [← hP]; exact hB))
          have hq1 : 1 ≤ q := Nat.lt_of_le_of_lt (Nat.zero_le _) hm
          have HS := hid (di_step HD.out hm)
          have HP := hid hP
          have hB' : 4294967296 * (r : Int) + u1 < P := by omega
          have hA' : ¬ (4294967296 : Int) ≤ q := by omega
          clear hm hP
          by_cases hR : 4294967296 ≤ r + v1
          · have HO := hid (di_out HS.out (by omega) hv0 (by omega) hR)
            have hR' : (4294967296 : Int) ≤ (r : Int) + v1 := by omega
            clear hR
            go_wp2
            go_meet
            case rel => exact ⟨(by rw [← HO.out]; go_num), rfl⟩
          · have hR' : decide ((4294967296 : Int) ≤ (r : Int) + v1) = false := by simp; omega
            have HR := hid hR
            clear hR
            go_wp2
            go_round
            case rel => exact ⟨q - 1, r + v1, by go_num, by go_num, ⟨HS.out, by omega, (by have := HR.out; omega)⟩⟩
            case measure => simp [intOf]; omega
        · have HO := hid (di_done HD.out (by omega) (by rw [← hP]; omega))
          have HP := hid hP
          have hB' : ¬ 4294967296 * (r : Int) + u1 < P := by omega
          have hA' : ¬ (4294967296 : Int) ≤ q := by omega
          clear hP
          go_wp2
          go_meet
          case rel => exact ⟨(by rw [← HO.out]), rfl⟩
  case rest =>
    obtain ⟨rfl, rfl⟩ := hcut
    obtain ⟨R1, hR1⟩ : ∃ R1, R1 = (hi * 4294967296 + u1) % (v1 * 4294967296 + v0) := ⟨_, rfl⟩
    obtain ⟨q1, hq1⟩ : ∃ q1, q1 = (hi * 4294967296 + u1) / (v1 * 4294967296 + v0) := ⟨_, rfl⟩
    have hsum : q1 * y + R1 = hi * 4294967296 + u1 := by
      rw [hq1, hR1, HY.out, Nat.mul_comm]; exact Nat.div_add_mod _ _
    have hR2 : R1 < v1 * 4294967296 + v0 := by rw [hR1]; exact Nat.mod_lt _ (by omega)
    have hq2 : q1 < 4294967296 := by
      rw [hq1, Nat.div_lt_iff_lt_mul (by omega)]
      have := HN.out
      omega
    have HN2 := hid hR2
    have HQ1 := hid hq1
    have HSUM := hid hsum
    rw [← hq1]
    clear hR1 hq1 hsum hR2
    go_upto_block 2 with fail
    have hR3 : R1 < 18446744073709551616 := by have := HN2.out; omega
    simp only [d_un hi u1 q1 y R1 HSUM.out hR3, d_quot R1 _ hR3, d_rest R1 _ hR3]
    go_cut [18] (fun a wx => a = .int .u64 (((R1 * 4294967296 + u0) / (v1 * 4294967296 + v0) : Nat) : Int) ∧ w = wx)
    case first =>
      go_wp2_with fail
      go_loop [18, 16] (fun a b => ∃ q r : Nat, a = .int .u64 q ∧ b = .int .u64 r ∧ Hid (DI R1 v1 v0 u0 q r ∧ q ≤ 4294967297 ∧ r < 4294967296)) (fun a _ => (intOf a).toNat)
      case atStart => exact ⟨_, _, rfl, rfl, ⟨di_start R1 v1 v0 u0 hv1 hv0 HN2.out (by omega), (di_start R1 v1 v0 u0 hv1 hv0 HN2.out (by omega)).2.2, Nat.lt_trans (Nat.mod_lt _ (by omega)) hv1'⟩⟩
      case round =>
        obtain ⟨q, r, rfl, rfl, HX⟩ := hrel
        obtain ⟨hd, hq, hr⟩ := HX.out
        have HD := hid hd
        clear hd HX
        have e1 : IntKind.u64.wrap ((q : Int) * v0) = ((q * v0 : Nat) : Int) ∨ 4294967296 ≤ q := by
          rcases Nat.lt_or_ge q 4294967296 with h | h
          · left
            have : q * v0 ≤ 4294967295 * 4294967295 := Nat.mul_le_mul (by omega) (by omega)
            rw [IntKind.wrap_u64, ← Int.natCast_mul]; omega
          · exact .inr h
        by_cases hA : 4294967296 ≤ q
        · have hm := di_more HD.out (by omega) hv0 HN2.out (by omega) (.inl hA)
          have HS := hid (di_step HD.out hm)
          have hA' : (4294967296 : Int) ≤ q := by omega
          clear hm e1
          by_cases hR : 4294967296 ≤ r + v1
          · have HO := hid (di_out HS.out (by omega) hv0 (by omega) hR)
            have hR' : (4294967296 : Int) ≤ (r : Int) + v1 := by omega
            clear hR
            go_wp2
            go_meet
            case rel => exact ⟨(by rw [← HO.out]; go_num), rfl⟩
          · have hR' : decide ((4294967296 : Int) ≤ (r : Int) + v1) = false := by simp; omega
            have HR := hid hR
            clear hR
            go_wp2
            go_round
            case rel => exact ⟨q - 1, r + v1, by go_num, by go_num, ⟨HS.out, by omega, (by have := HR.out; omega)⟩⟩
            case measure => simp [intOf]; omega
        · have e2 : IntKind.u64.wrap ((q : Int) * v0) = ((q * v0 : Nat) : Int) := by rcases e1 with h | h; exact h; omega
          clear e1
          obtain ⟨P, hP⟩ : ∃ P : Nat, P = q * v0 := ⟨_, rfl⟩
          rw [← hP] at e2
          by_cases hB : 4294967296 * r + u0 < P
          · have hm := di_more HD.out (by omega) hv0 HN2.out (by omega) (.inr (by rw [← hP]; exact hB))
            have hq1 : 1 ≤ q := Nat.lt_of_le_of_lt (Nat.zero_le _) hm
            have HS := hid (di_step HD.out hm)
            have HP := hid hP
            have hB' : 4294967296 * (r : Int) + u0 < P := by omega
            have hA' : ¬ (4294967296 : Int) ≤ q := by omega
            clear hm hP
            by_cases hR : 4294967296 ≤ r + v1
            · have HO := hid (di_out HS.out (by omega) hv0 (by omega) hR)
              have hR' : (4294967296 : Int) ≤ (r : Int) + v1 := by omega
              clear hR
              go_wp2
              go_meet
              case rel => exact ⟨(by rw [← HO.out]; go_num), rfl⟩
            · have hR' : decide ((4294967296 : Int) ≤ (r : Int) + v1) = false := by simp; omega
              have HR := hid hR
              clear hR
              go_wp2
              go_round
              case rel => exact ⟨q - 1, r + v1, by go_num, by go_num, ⟨HS.out, by omega, (by have := HR.out; omega)⟩⟩
              case measure => simp [intOf]; omega
          · have HO := hid (di_done HD.out (by omega) (by rw [← hP]; omega))
            have HP := hid hP
            have hB' : ¬ 4294967296 * (r : Int) + u0 < P := by omega
            have hA' : ¬ (4294967296 : Int) ≤ q := by omega
            clear hP
            go_wp2
            go_meet
            case rel => exact ⟨(by rw [← HO.out]), rfl⟩
    case rest =>
      obtain ⟨rfl, rfl⟩ := hcut
      obtain ⟨q2, hq2'⟩ : ∃ q2, q2 = (R1 * 4294967296 + u0) / (v1 * 4294967296 + v0) := ⟨_, rfl⟩
      have hq3 : q2 < 4294967296 := by
        rw [hq2', Nat.div_lt_iff_lt_mul (by omega)]
        have := HN2.out
        omega
      have HF : Hid (q1 * 4294967296 + q2 = (hi * 18446744073709551616 + lo) / y) := by
        have hl := HL.out
        have e1 : lo / 4294967296 = u1 := by omega
        have e2 : lo % 4294967296 = u0 := by omega
        exact d_last hi lo y _ q1 R1 q2 HY.out (by rw [e1]; exact HQ1.out) (by rw [e1]; exact HSUM.out) (by rw [e2]; exact hq2') (by omega)
      rw [← hq2']
      clear hq2'
      go_wp2
      go_ret2
      exact ⟨⟨_, by rw [← HF.out]; go_num⟩, 0, rfl⟩

/-- The guessed word of a quotient. -/
def guessN (hi lo y : Nat) : Nat := if y ≤ hi then 18446744073709551615 else (hi * 18446744073709551616 + lo) / y
theorem guessN_lt (hi lo y : Nat) (hlo : lo < 18446744073709551616) : guessN hi lo y < 18446744073709551616 := by
  unfold guessN
  split
  · omega
  · rw [Nat.div_lt_iff_lt_mul (by omega)]
    have : (hi + 1) * 18446744073709551616 ≤ y * 18446744073709551616 := Nat.mul_le_mul_right _ (by omega)
    rw [Nat.mul_comm 18446744073709551616 y]
    omega

set_option maxRecDepth 100000 in
set_option maxHeartbeats 400000 in
theorem guess_c (hi lo y : Nat) (hy : 9223372036854775808 ≤ y) (hy' : y < 18446744073709551616) (hhi : hi < 18446744073709551616) (hlo : lo < 18446744073709551616) (w : World) :
    Calls Tryz.prog 121 #[.int .u64 hi, .int .u64 lo, .int .u64 y] w fun e w' => e = .returned (.int .u64 ((guessN hi lo y : Nat) : Int)) ∧ ∃ n, w' = w.drewN n := by
  by_cases h : y ≤ hi
  · have HG : Hid (((guessN hi lo y : Nat) : Int) = 18446744073709551615) := by show _ = _; unfold guessN; rw [if_pos h]; rfl
    have h' : decide (y ≤ hi) = true := by simpa using h
    clear h
    go_enter Tryz.func121, Tryz.ntmps121
    go_wp2
    go_ret
    exact ⟨ret_int HG.out.symm, 0, rfl⟩
  · have h' : decide (y ≤ hi) = false := by simp; omega
    have HG : Hid (guessN hi lo y = (hi * 18446744073709551616 + lo) / y) := by show _ = _; unfold guessN; rw [if_neg h]
    have hc : Calls Tryz.prog 134 #[.int .u64 hi, .int .u64 lo, .int .u64 y] w fun e w' => (∃ r : Int, e = .returned (.tuple #[.int .u64 (((hi * 18446744073709551616 + lo) / y : Nat) : Int), .int .u64 r])) ∧ ∃ n, w' = w.drewN n := by
      rcases Nat.eq_zero_or_pos hi with h0 | h0
      · subst h0
        have := div64_hi0 lo y (by omega) hy' hlo w
        simpa using this
      · exact div64_n hi lo y hy hy' hlo (by omega) h0 w
    have HC := hid hc
    clear hc h
    go_enter Tryz.func121, Tryz.ntmps121
    go_wp2_with fail
    refine HC.out.mono ?_
    rintro e w' ⟨⟨r, rfl⟩, n, rfl⟩
    go_wp2
    go_ret
    exact ⟨ret_int (by rw [HG.out, Int.natCast_ediv, Int.natCast_add, Int.natCast_mul]; rfl), n, rfl⟩
end Go.Proofs.YtdepkfdceidikaaGreatDoor
/-
  limb.cutOff: what the call does.
-/
namespace Go.Proofs.YtdepkfdceidikaaGreatDoor
open Go.RowKit
set_option linter.unusedVariables false

/-- The guess is never too small. -/
theorem guess_ge (U d lo V D P q Wn : Nat) (hV : V = U * P + lo) (hlo : lo < P) (hD : d * P ≤ D) (hd : 0 < d) (hq : q = U / d) : V < (q + 1) * D := by
  have h1 : U + 1 ≤ (q + 1) * d := by
    rw [hq]
    have := Nat.lt_mul_div_succ U hd
    rw [Nat.mul_comm] at this
    exact this
  have h2 : (U + 1) * P ≤ (q + 1) * d * P := Nat.mul_le_mul_right _ h1
  have h3 : (q + 1) * (d * P) ≤ (q + 1) * D := Nat.mul_le_mul_left _ hD
  rw [← Nat.mul_assoc] at h3
  rw [Nat.add_mul] at h2
  omega
theorem guessN_ge (hi md d lo V D P n : Nat) (hV : V = (hi * 18446744073709551616 + md) * P + lo) (hlo : lo < P) (hD : d * P ≤ D) (hd : 0 < d) (hlt : V < 18446744073709551616 * D) : V < (guessN hi md d + 1) * D := by
  unfold guessN
  split
  · exact hlt
  · exact guess_ge _ d lo V D P _ n hV hlo hD hd rfl

/-- What a cut window is: so many multiples of the divisor taken away, and perhaps too many. -/
def CutRel (w : World) (b o n : Nat) (ws0 ld : List Nat) (V : Nat) (wr : World) (t c : Nat) : Prop :=
  ∃ ws : List Nat, ws.length = ws0.length ∧ BlkW wr b 34 ws ∧ Below b w wr ∧ (∀ j, (j < o ∨ o + n < j) → ws.getD j 0 = ws0.getD j 0) ∧ c ≤ 1 ∧ V < (t + 1) * val 18446744073709551616 ld ∧
    pv 18446744073709551616 (ws.drop o) (n + 1) + t * val 18446744073709551616 ld = V + c * 18446744073709551616 ^ (n + 1)

theorem CutRel.start {w wr : World} {b o n q c : Nat} {ws0 ld : List Nat} (hn : ld.length = n) (h0 : allLt ws0) (h : SMRel w b o n ws0 ld q wr n c) (ho : o + n < ws0.length)
    (hq : pv 18446744073709551616 (ws0.drop o) (n + 1) < (q + 1) * val 18446744073709551616 ld) (v : Int) (hv : v = (at64 ws0 (o + n) - c) % 18446744073709551616) :
    CutRel w b o n ws0 ld (pv 18446744073709551616 (ws0.drop o) (n + 1)) (wr.setCell ⟨b, o + n, none⟩ (.int .u64 v)) q (borN (ws0.getD (o + n) 0) c) := by
  obtain ⟨ws, hl, hB, hb', hj, hc, he⟩ := h
  have h1 := getD_lt _ (by decide) ws0 h0 (o + n)
  have hs := sub_word (ws0.getD (o + n) 0) c 0 h1 hc (by omega)
  rw [Nat.sub_zero, Nat.add_zero, Nat.add_zero] at hs
  refine ⟨ws.set (o + n) ((ws0.getD (o + n) 0 + 18446744073709551616 - c) % 18446744073709551616), by simp [hl], hB.setI _ _ _ (Nat.mod_lt _ (by decide)) ?_, hb'.setCell (Nat.le_refl _) _, ?_, borN_le _ _, hq, ?_⟩
  · rw [hv]; unfold at64; omega
  · intro j hjj
    rw [getD_set_ne _ _ _ _ (by omega)]
    exact hj j (by omega)
  · rw [pv_drop_set _ _ _ _ _ (by omega), pv_succ, getD_drop, Nat.pow_succ]
    unfold val
    rw [hn]
    generalize pv 18446744073709551616 (ws.drop o) n = r at *
    generalize pv 18446744073709551616 (ws0.drop o) n = p at *
    generalize pv 18446744073709551616 ld n = d at *
    generalize 18446744073709551616 ^ n = P at *
    generalize ws0.getD (o + n) 0 = x at *
    generalize borN x c = z at *
    generalize (x + 18446744073709551616 - c) % 18446744073709551616 = s at *
    have e : (s + c) * P = (x + z * 18446744073709551616) * P := by rw [hs]
    grind

theorem CutRel.step {w wr w2 : World} {b o n t c : Nat} {ws0 ws ld : List Nat} {V : Nat} (hn : ld.length = n) (hD : 0 < val 18446744073709551616 ld)
    (hl : ws.length = ws0.length) (hB : BlkW wr b 34 ws) (hbl : Below b w wr) (hj : ∀ j, (j < o ∨ o + n < j) → ws.getD j 0 = ws0.getD j 0) (hV : V < (t + 1) * val 18446744073709551616 ld)
    (he : pv 18446744073709551616 (ws.drop o) (n + 1) + t * val 18446744073709551616 ld = V + 1 * 18446744073709551616 ^ (n + 1))
    (h : AMRel wr b o n ws ld 1 w2 n c) (ho : o + n < ws0.length) (v : Int) (hv : v = (at64 ws (o + n) + c) % 18446744073709551616) :
    1 ≤ t ∧ (ws.getD (o + n) 0 + c) / 18446744073709551616 ≤ 1 ∧ CutRel w b o n ws0 ld V (w2.setCell ⟨b, o + n, none⟩ (.int .u64 v)) (t - 1) (1 - (ws.getD (o + n) 0 + c) / 18446744073709551616) := by
  obtain ⟨ws2, hl2, hB2, hb2, hj2, hc2, he2⟩ := h
  have h1 := getD_lt _ (by decide) ws hB.lt (o + n)
  have hlt : pv 18446744073709551616 (ws.drop o) (n + 1) < 18446744073709551616 ^ (n + 1) := pv_lt _ (by decide) _ (fun x hx => hB.lt x (List.mem_of_mem_drop hx)) _
  have ht : 1 ≤ t := by
    rcases Nat.eq_zero_or_pos t with h0 | h0
    · subst h0; omega
    · exact h0
  have htV : V < t * val 18446744073709551616 ld := by omega
  refine ⟨ht, by omega, ws2.set (o + n) ((ws.getD (o + n) 0 + c) % 18446744073709551616), by simp [hl2, hl], hB2.setI _ _ _ (Nat.mod_lt _ (by decide)) ?_, (hbl.trans hb2).setCell (Nat.le_refl _) _, ?_, by omega, ?_, ?_⟩
  · rw [hv]; unfold at64; omega
  · intro j hjj
    rw [getD_set_ne _ _ _ _ (by omega), hj2 j (by omega)]
    exact hj j hjj
  · rw [show t - 1 + 1 = t by omega]; exact htV
  · obtain ⟨t, rfl⟩ : ∃ s, t = s + 1 := ⟨t - 1, by omega⟩
    rw [pv_drop_set _ _ _ _ _ (by omega)]
    rw [pv_succ, getD_drop, Nat.pow_succ] at he
    rw [Nat.pow_succ]
    have hw : (ws.getD (o + n) 0 + c) % 18446744073709551616 + (ws.getD (o + n) 0 + c) / 18446744073709551616 * 18446744073709551616 = ws.getD (o + n) 0 + c := by omega
    have hz : (ws.getD (o + n) 0 + c) / 18446744073709551616 ≤ 1 := by omega
    unfold val at *
    rw [hn] at *
    show _ + t * _ = _
    generalize pv 18446744073709551616 (ws2.drop o) n = r at *
    generalize pv 18446744073709551616 (ws.drop o) n = p at *
    generalize pv 18446744073709551616 ld n = d at *
    generalize 18446744073709551616 ^ n = P at *
    generalize ws.getD (o + n) 0 = x at *
    generalize (x + c) / 18446744073709551616 = z at *
    generalize (x + c) % 18446744073709551616 = s at *
    have e : (s + z * 18446744073709551616) * P = (x + c) * P := by rw [hw]
    have hz2 : z = 0 ∨ z = 1 := by omega
    rcases hz2 with rfl | rfl
    · grind
    · grind
end Go.Proofs.YtdepkfdceidikaaGreatDoor
/-
  limb.cutOff: what the call does.
-/
namespace Go.Proofs.YtdepkfdceidikaaGreatDoor
open Go.RowKit
set_option linter.unusedVariables false

theorem guess_i (hi lo y : Int) (a b c : Nat) (ha : hi = (a : Int)) (hb : lo = (b : Int)) (hc : y = (c : Int)) (hy : 9223372036854775808 ≤ c) (hy' : c < 18446744073709551616) (hhi : a < 18446744073709551616) (hlo : b < 18446744073709551616) (w : World) :
    Calls Tryz.prog 121 #[.int .u64 hi, .int .u64 lo, .int .u64 y] w fun e w' => e = .returned (.int .u64 ((guessN a b c : Nat) : Int)) ∧ ∃ n, w' = w.drewN n := by
  subst ha hb hc; exact guess_c a b c hy hy' hhi hlo w

set_option maxRecDepth 100000 in
set_option maxHeartbeats 2000000 in
theorem cutOff_c (D : Option Addr) (b o m cw cd : Nat) (ws ld : List Nat) (w : World) (hB : BlkW w b 34 ws) (ho : o + (m + 1) < ws.length) (hcw : m + 2 ≤ cw) (hd : Rd w b D (m + 1) ld) (htop : 9223372036854775808 ≤ ld.getD m 0)
    (hlt : pv 18446744073709551616 (ws.drop o) (m + 2) < 18446744073709551616 * val 18446744073709551616 ld) (hm : m ≤ 10000) :
    Calls Tryz.prog 111 #[.slice (some ⟨b, o, none⟩) (m + 2) cw, .slice D (m + 1) cd] w fun e w' => e = .returned (.tuple #[]) ∧
      ∃ ws', ws'.length = ws.length ∧ BlkW w' b 34 ws' ∧ Below b w w' ∧ (∀ j, (j < o ∨ o + (m + 1) < j) → ws'.getD j 0 = ws.getD j 0) ∧ pv 18446744073709551616 (ws'.drop o) (m + 2) = pv 18446744073709551616 (ws.drop o) (m + 2) % val 18446744073709551616 ld := by
  have hpos : 0 < val 18446744073709551616 ld := by
    unfold val; rw [hd.len, pv_succ]
    have h1 : 0 < ld.getD m 0 * 18446744073709551616 ^ m := Nat.mul_pos (by omega) (Nat.pow_pos (by decide))
    omega
  have hge : pv 18446744073709551616 (ws.drop o) (m + 2) < (guessN (ws.getD (o + (m + 1)) 0) (ws.getD (o + m) 0) (ld.getD m 0) + 1) * val 18446744073709551616 ld := by
    refine guessN_ge _ _ _ (pv 18446744073709551616 (ws.drop o) m) _ _ (18446744073709551616 ^ m) 0 ?_ (pv_lt _ (by decide) _ (fun x hx => hB.lt x (List.mem_of_mem_drop hx)) m) ?_ (by omega) hlt
    · rw [pv_succ, pv_succ, getD_drop, getD_drop, Nat.pow_succ]; grind
    · unfold val; rw [hd.len, pv_succ]; omega
  have hgl := guessN_lt (ws.getD (o + (m + 1)) 0) (ws.getD (o + m) 0) (ld.getD m 0) (getD_lt _ (by decide) ws hB.lt _)
  have c1 := hB.cell (i := o + (m + 1)) (by omega)
  have c2 := hB.cell (i := o + m) (by omega)
  obtain ⟨bd, od, rfl, hbd, c3⟩ := hd.at_ (k := m) (by omega)
  have HC := hid (fun W => guess_i (at64 ws (o + (m + 1))) (at64 ws (o + m)) (at64 ld m) _ _ _ rfl rfl rfl htop (getD_lt _ (by decide) ld hd.lt _) (getD_lt _ (by decide) ws hB.lt _) (getD_lt _ (by decide) ws hB.lt _) W)
  have HGE := hid hge
  have HGL := hid hgl
  have HLT := hid hlt
  have HTOP := hid htop
  clear hge hgl hlt htop
  have ei : IntKind.i64.wrap ((m : Int) + 1 - 1) = (m : Int) := by rw [IntKind.wrap_i64]; omega
  have h0 : (0 : Int) ≤ (m : Int) := by omega
  have h1 : (m : Int) < (m : Int) + 1 := by omega
  have h2 : (m : Int) < (m : Int) + 2 := by omega
  have h3 : (m : Int) + 1 < (m : Int) + 2 := by omega
  have h4 : ((m : Int) + 1).toNat = m + 1 := by omega
  have h5 : (0 : Int) ≤ (m : Int) + 1 := by omega
  go_enter Tryz.func111, Tryz.ntmps111
  go_wp2
  go_quiet ((go_at_call 121; exact Calls.quiet_of (HC.out _)))
  clear ei h4 c1 c2 c3 HC
  have hq0 : Hid (BlkW (w.drewN nq) b 34 ws ∧ Rd (w.drewN nq) b (some ⟨bd, od, none⟩) (m + 1) ld ∧ Below b w (w.drewN nq)) := ⟨⟨hB.heap, hB.lt⟩, ⟨hd.len, hd.lt, hd.cells⟩, below_drewN (Below.refl _ _) nq⟩
  generalize w.drewN nq = w1 at hq0 ⊢
  obtain ⟨hB1, hd1, hb1⟩ := hq0.out
  clear hq0
  generalize guessN (ws.getD (o + (m + 1)) 0) (ws.getD (o + m) 0) (ld.getD m 0) = q at HGE HGL ⊢
  go_wp2_with fail
  refine (subMultiple_c _ _ b o (m + 1) _ cd ws ld q w1 (fun _ => rfl) hB1 (by omega) hd1 HGL.out (by omega)).mono ?_
  rintro e w2 ⟨c2, rfl, hsm⟩
  have HST := hid (fun v hv => CutRel.start hd.len hB.lt hsm ho HGE.out v hv)
  obtain ⟨ws2, hl2, hB2, hb2, hj2, hc2, he2⟩ := hsm
  have k1 := hB2.cell (i := o + (m + 1)) (by omega)
  have hgd : at64 ws2 (o + (m + 1)) = at64 ws (o + (m + 1)) := by unfold at64; rw [hj2 _ (Or.inr (Nat.le_refl _))]
  rw [hgd] at k1
  have kf := hB2.frozen (o + (m + 1))
  have x0 := at64_nonneg ws (o + (m + 1))
  have y0 : (0 : Int) ≤ c2 := by omega
  have y1 : (c2 : Int) < 18446744073709551616 := by omega
  clear hl2 hj2 he2 hgd
  go_wp2_with (simp only [sub64_0 _ _ x0 y0 y1])
  have hst := HST.out _ rfl
  clear HST k1 kf
  have hbn : bor (at64 ws (o + (m + 1))) c2 = ((borN (ws.getD (o + (m + 1)) 0) c2 : Nat) : Int) := bor_nat _ _
  rw [hbn]
  generalize borN (ws.getD (o + (m + 1)) 0) c2 = c0 at hst ⊢
  clear hbn
  go_loopg [6] q (fun t s6 wr => ∃ c : Nat, s6 = .int .u64 c ∧ CutRel w1 b o (m + 1) ws ld (pv 18446744073709551616 (ws.drop o) (m + 2)) wr t c)
  case atStart => exact ⟨c0, rfl, hst⟩
  case round =>
    obtain ⟨c, rfl, hrel⟩ := hrel
    obtain ⟨ws3, hl3, hB3, hb3, hj3, hc3, hV3, he3⟩ := id hrel
    have hc01 : c = 0 ∨ c = 1 := by omega
    rcases hc01 with rfl | rfl
    · have HF : Hid (pv 18446744073709551616 (ws3.drop o) (m + 2) = pv 18446744073709551616 (ws.drop o) (m + 2) % val 18446744073709551616 ld) := by
        show _ = _
        rw [Nat.zero_mul] at he3
        have he5 : pv 18446744073709551616 (ws.drop o) (m + 2) = pv 18446744073709551616 (ws3.drop o) (m + 2) + gk * val 18446744073709551616 ld := by
          have h : pv 18446744073709551616 (ws3.drop o) (m + 2) + gk * val 18446744073709551616 ld = pv 18446744073709551616 (ws.drop o) (m + 2) + 0 := he3
          omega
        rw [he5, Nat.add_mul_mod_self_right, Nat.mod_eq_of_lt]
        rw [Nat.add_mul, he5] at hV3
        omega
      have R : Hid (∃ ws', ws'.length = ws.length ∧ BlkW wr b 34 ws' ∧ Below b w wr ∧ (∀ j, (j < o ∨ o + (m + 1) < j) → ws'.getD j 0 = ws.getD j 0) ∧ pv 18446744073709551616 (ws'.drop o) (m + 2) = pv 18446744073709551616 (ws.drop o) (m + 2) % val 18446744073709551616 ld) :=
        ⟨ws3, hl3, hB3, hb1.trans hb3, hj3, HF.out⟩
      clear hl3 hj3 hV3 he3 HF
      go_wp2
      go_end0
      exact ⟨rfl, R.out⟩
    · have rd3 := hd1.below hb3 (Nat.le_refl _)
      have HST := hid (fun w2 c h v hv => CutRel.step (w2 := w2) (c := c) (V := pv 18446744073709551616 (ws.drop o) (m + 2)) hd.len hpos hl3 hB3 hb3 hj3 hV3 he3 h ho v hv)
      have hl3' : ws3.length ≤ ws.length := by omega
      have hl3'' : ws.length ≤ ws3.length := by omega
      have HH := hid hj3
      clear hl3 hj3 hV3 he3
      go_wp2_with fail
      refine (addMultiple_c _ _ b o (m + 1) _ cd ws3 ld 1 wr (fun _ => rfl) hB3 (by omega) rd3 (by omega) (by omega)).mono ?_
      rintro e w4 ⟨c4, rfl, ham⟩
      have hst4 := HST.out _ _ ham _ rfl
      obtain ⟨ws4, hl4, hB4, hb4, hj4, hc4, he4⟩ := ham
      have k4 := hB4.cell (i := o + (m + 1)) (by omega)
      have hgd : at64 ws4 (o + (m + 1)) = at64 ws3 (o + (m + 1)) := by unfold at64; rw [hj4 _ (Or.inr (Nat.le_refl _))]
      rw [hgd] at k4
      have kf := hB4.frozen (o + (m + 1))
      have x3 := at64_nonneg ws3 (o + (m + 1))
      have x4 := at64_lt hB3.lt (o + (m + 1))
      have y3 : (0 : Int) ≤ c4 := by omega
      have y4 : (c4 : Int) < 18446744073709551616 := by omega
      have z0 : 0 ≤ (at64 ws3 (o + (m + 1)) + c4) / 18446744073709551616 := by omega
      have z1 : (at64 ws3 (o + (m + 1)) + c4) / 18446744073709551616 ≤ 1 := by omega
      obtain ⟨g1, g2, g3⟩ := hst4
      have HG3 := hid g3
      have HG2 := hid g2
      clear hl4 hj4 he4 hgd HST g3 g2
      go_wp2_with (simp only [add64_0 _ _ x3 y3])
      go_roundg (gk - 1)
      case measure => omega
      case rel => exact ⟨_, (by have := HG2.out; unfold at64 at *; go_num), HG3.out⟩
end Go.Proofs.YtdepkfdceidikaaGreatDoor
