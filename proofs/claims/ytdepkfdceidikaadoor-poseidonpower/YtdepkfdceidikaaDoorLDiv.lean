/-
  bits.Div64 (by a divisor whose highest bit is set), limb.guess: what each call does.
-/
import Derived.Test.YtdepkfdceidikaaDoorLNew
import Derived.Test.YtdepkfdceidikaaDoorLMul
import Derived.Deep.CutBlock
import Derived.Deep.DeepCutAuto
import Derived.Deep.QuietTactic
import Derived.BigQuiet
namespace Go.Proofs.YtdepkfdceidikaaDoor
open Go.RowKit
set_option linter.unusedVariables false

theorem lz64_top (y : Int) (h0 : 9223372036854775808 ≤ y) (h1 : y < 18446744073709551616) (w : World) :
    Calls Tryd.prog 43 #[.int .u64 y] w fun e w' => e = .returned (.int .i64 0) ∧ w = w' := by
  refine (lz64_c y (by omega) (by omega) w).mono ?_
  rintro e w' ⟨rfl, rfl⟩
  have e1 := Lib.bitLen_shift 63 y.toNat (by omega) (by omega)
  have e2 : y.toNat / 2 ^ 63 = 1 := by omega
  rw [e2] at e1
  have e3 : Lib.bitLen 1 = 1 := by decide
  rw [e3] at e1
  exact ⟨ret_int (by rw [e1]; rfl), rfl⟩

set_option maxHeartbeats 1000000 in
theorem div64_hi0 (lo y : Nat) (hy : 0 < y) (hy' : y < 18446744073709551616) (hlo : lo < 18446744073709551616) (w : World) :
    Calls Tryd.prog 101 #[.int .u64 0, .int .u64 lo, .int .u64 y] w fun e w' => (∃ r : Int, e = .returned (.tuple #[.int .u64 ((lo / y : Nat) : Int), .int .u64 r])) ∧ ∃ n, w' = w.drewN n := by
  have hy0 : ((y : Int) == 0) = false := by simp; omega
  have hle : ¬ (y : Int) ≤ 0 := by omega
  go_enter Tryd.func101, Tryd.ntmps101
  go_wp2
  go_quiet (fail)
  have HQ : Hid (IntKind.u64.wrap ((lo : Int) / y) = ((lo / y : Nat) : Int)) := by
    show _ = _
    have h1 : lo / y ≤ lo := Nat.div_le_self _ _
    have h2 : ((lo / y : Nat) : Int) = (lo : Int) / y := Int.natCast_ediv _ _
    rw [IntKind.wrap_u64, ← h2]
    generalize lo / y = z at h1 ⊢
    omega
  go_wp2
  rw [HQ.out]
  go_ret2
  exact ⟨⟨_, rfl⟩, nq, rfl⟩

/-- A guessed digit of a quotient, and what is left. -/
def DI (n v1 v0 u q r : Nat) : Prop := q * v1 + r = n ∧ (n * 4294967296 + u) / (v1 * 4294967296 + v0) ≤ q ∧ q ≤ 4294967297
theorem di_more {n v1 v0 u q r : Nat} (h : DI n v1 v0 u q r) (hv : 0 < v1) (hv0 : v0 < 4294967296) (hn : n < v1 * 4294967296 + v0) (hu : u < 4294967296) (ht : 4294967296 ≤ q ∨ 4294967296 * r + u < q * v0) : (n * 4294967296 + u) / (v1 * 4294967296 + v0) < q := by
  rw [Nat.div_lt_iff_lt_mul (by omega)]
  obtain ⟨h1, _, _⟩ := h
  rcases ht with ht | ht
  · have h2 : 4294967296 * (v1 * 4294967296 + v0) ≤ q * (v1 * 4294967296 + v0) := Nat.mul_le_mul_right _ ht
    omega
  · have e : q * (v1 * 4294967296 + v0) = q * v1 * 4294967296 + q * v0 := by rw [Nat.mul_add, Nat.mul_assoc]
    rw [e]; omega
theorem di_done {n v1 v0 u q r : Nat} (h : DI n v1 v0 u q r) (hv : 0 < v1) (ht : q * v0 ≤ 4294967296 * r + u) : q = (n * 4294967296 + u) / (v1 * 4294967296 + v0) := by
  obtain ⟨h1, h2, _⟩ := h
  refine Nat.le_antisymm ?_ h2
  rw [Nat.le_div_iff_mul_le (by omega)]
  have e : q * (v1 * 4294967296 + v0) = q * v1 * 4294967296 + q * v0 := by rw [Nat.mul_add, Nat.mul_assoc]
  rw [e]; omega
theorem di_step {n v1 v0 u q r : Nat} (h : DI n v1 v0 u q r) (hm : (n * 4294967296 + u) / (v1 * 4294967296 + v0) < q) : DI n v1 v0 u (q - 1) (r + v1) := by
  obtain ⟨h1, h2, h3⟩ := h
  have hq0 : 0 < q := Nat.lt_of_le_of_lt (Nat.zero_le _) hm
  obtain ⟨p, rfl⟩ : ∃ p, q = p + 1 := ⟨q - 1, by omega⟩
  refine ⟨?_, by omega, by omega⟩
  rw [Nat.add_mul] at h1
  show p * v1 + (r + v1) = n
  omega
theorem di_out {n v1 v0 u q r : Nat} (h : DI n v1 v0 u q r) (hv : 0 < v1) (hv0 : v0 < 4294967296) (hq : q ≤ 4294967296) (hr : 4294967296 ≤ r) : q = (n * 4294967296 + u) / (v1 * 4294967296 + v0) := by
  refine di_done h hv ?_
  have : q * v0 ≤ 4294967296 * 4294967295 := Nat.mul_le_mul hq (by omega)
  omega
theorem di_start (n v1 v0 u : Nat) (hv : 2147483648 ≤ v1) (hv0 : v0 < 4294967296) (hn : n < v1 * 4294967296 + v0) (hu : u < 4294967296) : DI n v1 v0 u (n / v1) (n % v1) := by
  refine ⟨by rw [Nat.mul_comm]; exact Nat.div_add_mod _ _, ?_, ?_⟩
  · apply Nat.le_of_lt_succ
    rw [Nat.div_lt_iff_lt_mul (by omega)]
    have h1 := Nat.div_add_mod n v1
    have h2 := Nat.mod_lt n (show 0 < v1 by omega)
    have e : (n / v1).succ * (v1 * 4294967296 + v0) = (v1 * (n / v1) + v1) * 4294967296 + (n / v1).succ * v0 := by
      rw [Nat.succ_mul, Nat.succ_mul, Nat.mul_add]; grind
    rw [e]
    have h3 : n + 1 ≤ v1 * (n / v1) + v1 := by omega
    have h4 : (n + 1) * 4294967296 ≤ (v1 * (n / v1) + v1) * 4294967296 := Nat.mul_le_mul_right _ h3
    omega
  · apply Nat.le_of_lt_succ
    rw [Nat.div_lt_iff_lt_mul (by omega)]
    omega

theorem or_zero (a : Nat) (h : a < 18446744073709551616) (lo : Nat) (hl : lo < 18446744073709551616) : bits .or .u64 (a : Int) ((lo : Int) / 18446744073709551616) = (a : Int) := by
  have e : (lo : Int) / 18446744073709551616 = ((0 : Nat) : Int) := by omega
  have := bits_or_u64_nat a 0 h (by omega)
  rw [e, this]; simp
theorem d_quot (n v : Nat) (hn : n < 18446744073709551616) : IntKind.u64.wrap ((n : Int).tdiv (v : Int)) = ((n / v : Nat) : Int) := by
  have h1 : n / v ≤ n := Nat.div_le_self _ _
  rw [Int.tdiv_eq_ediv_of_nonneg (by omega), ← Int.natCast_ediv, IntKind.wrap_u64]
  generalize n / v = z at h1 ⊢
  omega
theorem d_rest (n v : Nat) (hn : n < 18446744073709551616) : IntKind.u64.wrap ((n : Int) - IntKind.u64.wrap (((n / v : Nat) : Int) * (v : Int))) = ((n % v : Nat) : Int) := by
  have h1 := Nat.div_add_mod n v
  have h2 : n / v * v ≤ n := Nat.div_mul_le_self n v
  rw [Nat.mul_comm] at h1
  rw [← Int.natCast_mul, IntKind.wrap_u64, IntKind.wrap_u64]
  generalize n / v * v = z at h1 h2 ⊢
  omega

theorem d_un (n u q y R : Nat) (h : q * y + R = n * 4294967296 + u) (hR : R < 18446744073709551616) :
    IntKind.u64.wrap (IntKind.u64.wrap (IntKind.u64.wrap ((n : Int) * 4294967296) + u) - IntKind.u64.wrap ((q : Int) * y)) = (R : Int) := by
  rw [← Int.natCast_mul]
  simp only [IntKind.wrap_u64]
  generalize q * y = z at h ⊢
  omega
theorem d_last (n u y d q1 R1 q2 : Nat) (hy : y = d) (h1 : q1 = (n * 4294967296 + u / 4294967296) / d) (h2 : q1 * y + R1 = n * 4294967296 + u / 4294967296) (h3 : q2 = (R1 * 4294967296 + u % 4294967296) / d) (hd : 0 < d) :
    q1 * 4294967296 + q2 = (n * 18446744073709551616 + u) / y := by
  subst hy
  have e : n * 18446744073709551616 + u = q1 * 4294967296 * y + (R1 * 4294967296 + u % 4294967296) := by
    have e1 : q1 * 4294967296 * y = q1 * y * 4294967296 := by rw [Nat.mul_right_comm]
    rw [e1]
    generalize q1 * y = z at h2
    omega
  rw [e, Nat.add_comm (q1 * 4294967296 * y), Nat.add_mul_div_right _ _ hd, h3, Nat.add_comm]

set_option maxRecDepth 100000 in
set_option maxHeartbeats 4000000 in
theorem div64_n (hi lo y : Nat) (hy : 9223372036854775808 ≤ y) (hy' : y < 18446744073709551616) (hlo : lo < 18446744073709551616) (hhi : hi < y) (h0 : 0 < hi) (w : World) :
    Calls Tryd.prog 101 #[.int .u64 hi, .int .u64 lo, .int .u64 y] w fun e w' => (∃ r : Int, e = .returned (.tuple #[.int .u64 (((hi * 18446744073709551616 + lo) / y : Nat) : Int), .int .u64 r])) ∧ ∃ n, w' = w.drewN n := by
  have hy0 : ((y : Int) == 0) = false := by simp; omega
  have hhi0 : ((hi : Int) == 0) = false := by simp; omega
  have hle : ¬ (y : Int) ≤ hi := by omega
  go_enter Tryd.func101, Tryd.ntmps101
  go_wp2_with fail
  refine (lz64_top _ (by omega) (by omega) _).mono ?_
  rintro e w' ⟨rfl, rfl⟩
  go_upto_block 0 with fail
  have hny : (y : Int) / 4294967296 = ((y / 4294967296 : Nat) : Int) := by omega
  have hnl : (lo : Int) / 4294967296 = ((lo / 4294967296 : Nat) : Int) := by omega
  simp only [or_zero hi (by omega) lo hlo, Mul64.maskN y hy', Mul64.maskN lo hlo, hny, hnl, d_quot hi _ (show hi < 18446744073709551616 by omega), d_rest hi _ (show hi < 18446744073709551616 by omega)]
  have hv1 : 2147483648 ≤ y / 4294967296 := by omega
  have hv1' : y / 4294967296 < 4294967296 := by omega
  have hv0 : y % 4294967296 < 4294967296 := by omega
  have hu1 : lo / 4294967296 < 4294967296 := by omega
  have hu0 : lo % 4294967296 < 4294967296 := by omega
  have HY : Hid (y = y / 4294967296 * 4294967296 + y % 4294967296) := by show _ = _; omega
  have HL : Hid (lo = lo / 4294967296 * 4294967296 + lo % 4294967296) := by show _ = _; omega
  clear hny hnl
  generalize y / 4294967296 = v1 at hv1 hv1' HY ⊢
  generalize y % 4294967296 = v0 at hv0 HY ⊢
  generalize lo / 4294967296 = u1 at hu1 HL ⊢
  generalize lo % 4294967296 = u0 at hu0 HL ⊢
  have HN : Hid (hi < v1 * 4294967296 + v0) := by have h := HY.out; show _ < _; omega
  go_cut [15] (fun a wx => a = .int .u64 (((hi * 4294967296 + u1) / (v1 * 4294967296 + v0) : Nat) : Int) ∧ w = wx)
  case first =>
    go_wp2_with fail
    go_loop [15, 16] (fun a b => ∃ q r : Nat, a = .int .u64 q ∧ b = .int .u64 r ∧ Hid (DI hi v1 v0 u1 q r ∧ q ≤ 4294967297 ∧ r < 4294967296)) (fun a _ => (intOf a).toNat)
    case atStart => exact ⟨_, _, rfl, rfl, ⟨di_start hi v1 v0 u1 hv1 hv0 HN.out (by omega), (di_start hi v1 v0 u1 hv1 hv0 HN.out (by omega)).2.2, Nat.lt_trans (Nat.mod_lt _ (by omega)) hv1'⟩⟩
    case round =>
      obtain ⟨q, r, rfl, rfl, HX⟩ := hrel
      obtain ⟨hd, hq, hr⟩ := HX.out
      have HD := hid hd
      clear hd HX
      have e1 : IntKind.u64.wrap ((q : Int) * v0) = ((q * v0 : Nat) : Int) ∨ 4294967296 ≤ q := by
        rcases Nat.lt_or_ge q 4294967296 with h | h
        · left
          have : q * v0 ≤ 4294967295 * 4294967295 := Nat.mul_le_mul (by omega) (by omega)
          rw [IntKind.wrap_u64, ← Int.natCast_mul]; omega
        · exact .inr h
      by_cases hA : 4294967296 ≤ q
      · have hm := di_more HD.out (by omega) hv0 HN.out (by omega) (.inl hA)
        have HS := hid (di_step HD.out hm)
        have hA' : (4294967296 : Int) ≤ q := by omega
        clear hm e1
        by_cases hR : 4294967296 ≤ r + v1
        · have HO := hid (di_out HS.out (by omega) hv0 (by omega) hR)
          have hR' : (4294967296 : Int) ≤ (r : Int) + v1 := by omega
          clear hR
          go_wp2
          go_meet
          case rel => exact ⟨(by rw [← HO.out]; go_num), rfl⟩
        · have hR' : decide ((4294967296 : Int) ≤ (r : Int) + v1) = false := by simp; omega
          have HR := hid hR
          clear hR
          go_wp2
          go_round
          case rel => exact ⟨q - 1, r + v1, by go_num, by go_num, ⟨HS.out, by omega, (by have := HR.out; omega)⟩⟩
          case measure => simp [intOf]; omega
      · have e2 : IntKind.u64.wrap ((q : Int) * v0) = ((q * v0 : Nat) : Int) := by rcases e1 with h | h; exact h; omega
        clear e1
        obtain ⟨P, hP⟩ : ∃ P : Nat, P = q * v0 := ⟨_, rfl⟩
        rw [← hP] at e2
        by_cases hB : 4294967296 * r + u1 < P
        · have hm := di_more HD.out (by omega) hv0 HN.out (by omega) (.inr (by rw [← hP]; exact hB))
          have hq1 : 1 ≤ q := Nat.lt_of_le_of_lt (Nat.zero_le _) hm
          have HS := hid (di_step HD.out hm)
          have HP := hid hP
          have hB' : 4294967296 * (r : Int) + u1 < P := by omega
          have hA' : ¬ (4294967296 : Int) ≤ q := by omega
          clear hm hP
          by_cases hR : 4294967296 ≤ r + v1
          · have HO := hid (di_out HS.out (by omega) hv0 (by omega) hR)
            have hR' : (4294967296 : Int) ≤ (r : Int) + v1 := by omega
            clear hR
            go_wp2
            go_meet
            case rel => exact ⟨(by rw [← HO.out]; go_num), rfl⟩
          · have hR' : decide ((4294967296 : Int) ≤ (r : Int) + v1) = false := by simp; omega
            have HR := hid hR
            clear hR
            go_wp2
            go_round
            case rel => exact ⟨q - 1, r + v1, by go_num, by go_num, ⟨HS.out, by omega, (by have := HR.out; omega)⟩⟩
            case measure => simp [intOf]; omega
        · have HO := hid (di_done HD.out (by omega) (by rw [← hP]; omega))
          have HP := hid hP
          have hB' : ¬ 4294967296 * (r : Int) + u1 < P := by omega
          have hA' : ¬ (4294967296 : Int) ≤ q := by omega
          clear hP
          go_wp2
          go_meet
          case rel => exact ⟨(by rw [← HO.out]), rfl⟩
  case rest =>
    obtain ⟨rfl, rfl⟩ := hcut
    obtain ⟨R1, hR1⟩ : ∃ R1, R1 = (hi * 4294967296 + u1) % (v1 * 4294967296 + v0) := ⟨_, rfl⟩
    obtain ⟨q1, hq1⟩ : ∃ q1, q1 = (hi * 4294967296 + u1) / (v1 * 4294967296 + v0) := ⟨_, rfl⟩
    have hsum : q1 * y + R1 = hi * 4294967296 + u1 := by
      rw [hq1, hR1, HY.out, Nat.mul_comm]; exact Nat.div_add_mod _ _
    have hR2 : R1 < v1 * 4294967296 + v0 := by rw [hR1]; exact Nat.mod_lt _ (by omega)
    have hq2 : q1 < 4294967296 := by
      rw [hq1, Nat.div_lt_iff_lt_mul (by omega)]
      have := HN.out
      omega
    have HN2 := hid hR2
    have HQ1 := hid hq1
    have HSUM := hid hsum
    rw [← hq1]
    clear hR1 hq1 hsum hR2
    go_upto_block 2 with fail
    have hR3 : R1 < 18446744073709551616 := by have := HN2.out; omega
    simp only [d_un hi u1 q1 y R1 HSUM.out hR3, d_quot R1 _ hR3, d_rest R1 _ hR3]
    go_cut [18] (fun a wx => a = .int .u64 (((R1 * 4294967296 + u0) / (v1 * 4294967296 + v0) : Nat) : Int) ∧ w = wx)
    case first =>
      go_wp2_with fail
      go_loop [18, 16] (fun a b => ∃ q r : Nat, a = .int .u64 q ∧ b = .int .u64 r ∧ Hid (DI R1 v1 v0 u0 q r ∧ q ≤ 4294967297 ∧ r < 4294967296)) (fun a _ => (intOf a).toNat)
      case atStart => exact ⟨_, _, rfl, rfl, ⟨di_start R1 v1 v0 u0 hv1 hv0 HN2.out (by omega), (di_start R1 v1 v0 u0 hv1 hv0 HN2.out (by omega)).2.2, Nat.lt_trans (Nat.mod_lt _ (by omega)) hv1'⟩⟩
      case round =>
        obtain ⟨q, r, rfl, rfl, HX⟩ := hrel
        obtain ⟨hd, hq, hr⟩ := HX.out
        have HD := hid hd
        clear hd HX
        have e1 : IntKind.u64.wrap ((q : Int) * v0) = ((q * v0 : Nat) : Int) ∨ 4294967296 ≤ q := by
          rcases Nat.lt_or_ge q 4294967296 with h | h
          · left
            have : q * v0 ≤ 4294967295 * 4294967295 := Nat.mul_le_mul (by omega) (by omega)
            rw [IntKind.wrap_u64, ← Int.natCast_mul]; omega
          · exact .inr h
        by_cases hA : 4294967296 ≤ q
        · have hm := di_more HD.out (by omega) hv0 HN2.out (by omega) (.inl hA)
          have HS := hid (di_step HD.out hm)
          have hA' : (4294967296 : Int) ≤ q := by omega
          clear hm e1
          by_cases hR : 4294967296 ≤ r + v1
          · have HO := hid (di_out HS.out (by omega) hv0 (by omega) hR)
            have hR' : (4294967296 : Int) ≤ (r : Int) + v1 := by omega
            clear hR
            go_wp2
            go_meet
            case rel => exact ⟨(by rw [← HO.out]; go_num), rfl⟩
          · have hR' : decide ((4294967296 : Int) ≤ (r : Int) + v1) = false := by simp; omega
            have HR := hid hR
            clear hR
            go_wp2
            go_round
            case rel => exact ⟨q - 1, r + v1, by go_num, by go_num, ⟨HS.out, by omega, (by have := HR.out; omega)⟩⟩
            case measure => simp [intOf]; omega
        · have e2 : IntKind.u64.wrap ((q : Int) * v0) = ((q * v0 : Nat) : Int) := by rcases e1 with h | h; exact h; omega
          clear e1
          obtain ⟨P, hP⟩ : ∃ P : Nat, P = q * v0 := ⟨_, rfl⟩
          rw [← hP] at e2
          by_cases hB : 4294967296 * r + u0 < P
          · have hm := di_more HD.out (by omega) hv0 HN2.out (by omega) (.inr (by rw [← hP]; exact hB))
            have hq1 : 1 ≤ q := Nat.lt_of_le_of_lt (Nat.zero_le _) hm
            have HS := hid (di_step HD.out hm)
            have HP := hid hP
            have hB' : 4294967296 * (r : Int) + u0 < P := by omega
            have hA' : ¬ (4294967296 : Int) ≤ q := by omega
            clear hm hP
            by_cases hR : 4294967296 ≤ r + v1
            · have HO := hid (di_out HS.out (by omega) hv0 (by omega) hR)
              have hR' : (4294967296 : Int) ≤ (r : Int) + v1 := by omega
              clear hR
              go_wp2
              go_meet
              case rel => exact ⟨(by rw [← HO.out]; go_num), rfl⟩
            · have hR' : decide ((4294967296 : Int) ≤ (r : Int) + v1) = false := by simp; omega
              have HR := hid hR
              clear hR
              go_wp2
              go_round
              case rel => exact ⟨q - 1, r + v1, by go_num, by go_num, ⟨HS.out, by omega, (by have := HR.out; omega)⟩⟩
              case measure => simp [intOf]; omega
          · have HO := hid (di_done HD.out (by omega) (by rw [← hP]; omega))
            have HP := hid hP
            have hB' : ¬ 4294967296 * (r : Int) + u0 < P := by omega
            have hA' : ¬ (4294967296 : Int) ≤ q := by omega
            clear hP
            go_wp2
            go_meet
            case rel => exact ⟨(by rw [← HO.out]), rfl⟩
    case rest =>
      obtain ⟨rfl, rfl⟩ := hcut
      obtain ⟨q2, hq2'⟩ : ∃ q2, q2 = (R1 * 4294967296 + u0) / (v1 * 4294967296 + v0) := ⟨_, rfl⟩
      have hq3 : q2 < 4294967296 := by
        rw [hq2', Nat.div_lt_iff_lt_mul (by omega)]
        have := HN2.out
        omega
      have HF : Hid (q1 * 4294967296 + q2 = (hi * 18446744073709551616 + lo) / y) := by
        have hl := HL.out
        have e1 : lo / 4294967296 = u1 := by omega
        have e2 : lo % 4294967296 = u0 := by omega
        exact d_last hi lo y _ q1 R1 q2 HY.out (by rw [e1]; exact HQ1.out) (by rw [e1]; exact HSUM.out) (by rw [e2]; exact hq2') (by omega)
      rw [← hq2']
      clear hq2'
      go_wp2
      go_ret2
      exact ⟨⟨_, by rw [← HF.out]; go_num⟩, 0, rfl⟩

/-- The guessed word of a quotient. -/
def guessN (hi lo y : Nat) : Nat := if y ≤ hi then 18446744073709551615 else (hi * 18446744073709551616 + lo) / y
theorem guessN_lt (hi lo y : Nat) (hlo : lo < 18446744073709551616) : guessN hi lo y < 18446744073709551616 := by
  unfold guessN
  split
  · omega
  · rw [Nat.div_lt_iff_lt_mul (by omega)]
    have : (hi + 1) * 18446744073709551616 ≤ y * 18446744073709551616 := Nat.mul_le_mul_right _ (by omega)
    rw [Nat.mul_comm 18446744073709551616 y]
    omega

set_option maxRecDepth 100000 in
set_option maxHeartbeats 400000 in
theorem guess_c (hi lo y : Nat) (hy : 9223372036854775808 ≤ y) (hy' : y < 18446744073709551616) (hhi : hi < 18446744073709551616) (hlo : lo < 18446744073709551616) (w : World) :
    Calls Tryd.prog 86 #[.int .u64 hi, .int .u64 lo, .int .u64 y] w fun e w' => e = .returned (.int .u64 ((guessN hi lo y : Nat) : Int)) ∧ ∃ n, w' = w.drewN n := by
  by_cases h : y ≤ hi
  · have HG : Hid (((guessN hi lo y : Nat) : Int) = 18446744073709551615) := by show _ = _; unfold guessN; rw [if_pos h]; rfl
    have h' : decide (y ≤ hi) = true := by simpa using h
    clear h
    go_enter Tryd.func86, Tryd.ntmps86
    go_wp2
    go_ret
    exact ⟨ret_int HG.out.symm, 0, rfl⟩
  · have h' : decide (y ≤ hi) = false := by simp; omega
    have HG : Hid (guessN hi lo y = (hi * 18446744073709551616 + lo) / y) := by show _ = _; unfold guessN; rw [if_neg h]
    have hc : Calls Tryd.prog 101 #[.int .u64 hi, .int .u64 lo, .int .u64 y] w fun e w' => (∃ r : Int, e = .returned (.tuple #[.int .u64 (((hi * 18446744073709551616 + lo) / y : Nat) : Int), .int .u64 r])) ∧ ∃ n, w' = w.drewN n := by
      rcases Nat.eq_zero_or_pos hi with h0 | h0
      · subst h0
        have := div64_hi0 lo y (by omega) hy' hlo w
        simpa using this
      · exact div64_n hi lo y hy hy' hlo (by omega) h0 w
    have HC := hid hc
    clear hc h
    go_enter Tryd.func86, Tryd.ntmps86
    go_wp2_with fail
    refine HC.out.mono ?_
    rintro e w' ⟨⟨r, rfl⟩, n, rfl⟩
    go_wp2
    go_ret
    exact ⟨ret_int (by rw [HG.out, Int.natCast_ediv, Int.natCast_add, Int.natCast_mul]; rfl), n, rfl⟩
end Go.Proofs.YtdepkfdceidikaaDoor
