/-
  grain.Source.Bit, Number: what each call does.
-/
import Derived.Test.YtdepkfdceidikaaGreatDoorHrB
import Derived.Laws.Bits64b
namespace Go.Proofs.YtdepkfdceidikaaGreatDoor
open Go.RowKit
set_option linter.unusedVariables false

theorem one_u8 (b : Bool) : (((b.toNat : Nat) : Int) == 1) = b := by cases b <;> rfl
theorem or_bit (v y : Nat) (hv : v < 9223372036854775808) (hy : y ≤ 1) : bits .or .u64 ((v : Int) * 2) (IntKind.u64.wrap (y : Int)) = ((2 * v + y : Nat) : Int) := by
  have e1 : (v : Int) * 2 = ((2 * v : Nat) : Int) := by omega
  have e2 : IntKind.u64.wrap (y : Int) = (y : Int) := by rw [IntKind.wrap_u64]; omega
  rw [e1, e2, bits_or_u64_nat _ _ (by omega) (by omega)]
  have h := Nat.shiftLeft_add_eq_or_of_lt (i := 1) (show y < 2 ^ 1 by omega) v
  rw [Nat.shiftLeft_eq, Nat.pow_one, Nat.mul_comm v 2] at h
  rw [h]
/-- How many bits are asked for. -/
def gmany (n : Int) : Nat := (min (max n 0) 64).toNat
theorem gmany_eq (n : Int) : min (max n 0) 64 = (gmany n : Int) := by unfold gmany; omega
theorem gmany_le (n : Int) : gmany n ≤ 64 := by unfold gmany; omega
structure NuR (w : World) (b : Nat) (t : TypeId) (s k : Nat) (wr : World) : Prop where
  g : G8 wr b t (gns k s)
  o : Only b w wr
set_option maxRecDepth 20000 in
set_option maxHeartbeats 2000000 in
theorem gnumber_c (s b : Nat) (n : Int) (t : TypeId) (w : World) (hs : GS s) (hB : G8 w b t s) :
    Calls Tryz.prog 118 #[.pointer (some ⟨b, 0, none⟩), .int .i64 n] w fun e w' => e = .returned (.int .u64 (gval (gmany n) s : Nat)) ∧ G8 w' b t (gns (gmany n) s) ∧ Only b w w' := by
  have hm := gmany_eq n
  have hm64 := gmany_le n
  generalize gmany n = m at *
  have R0 : Hid (NuR w b t s 0 w) := ⟨hB, Only.refl _ _⟩
  clear hB
  go_enter Tryz.func118, Tryz.ntmps118
  go_wp2_with fail
  go_loopw [5, 9] (fun u i wr => ∃ k : Nat, k ≤ m ∧ u = .int .u64 (gval k s : Nat) ∧ i = .int .i64 k ∧ NuR w b t s k wr) (fun _ i _ => m - (intOf i).toNat)
  case atStart => exact ⟨0, Nat.zero_le _, rfl, rfl, R0.out⟩
  case round =>
    clear R0
    obtain ⟨k, hk, rfl, rfl, hrel⟩ := hrel
    have HR := hid hrel
    clear hrel
    by_cases hlt : k < m
    · have i2 : (k : Int) < (m : Int) := by omega
      have hv := gval_lt k s
      have HV := hid (gval_last k s)
      have h63 : (2 : Nat) ^ k ≤ 2 ^ 63 := Nat.pow_le_pow_right (by decide) (by omega)
      have hv2 : gval k s < 9223372036854775808 := Nat.lt_of_lt_of_le hv h63
      have HY := hid (bool_le (gbit (gns k s)))
      have HNS : Hid (gns (k + 1) s = gnext (gns k s)) := gns_add k 1 s
      generalize gval k s = v at *
      clear hv h63
      go_wp2_with fail
      refine (gnext_c (gns k s) b t wr (GS.ns k hs) HR.out.g).mono ?_
      rintro e w1 ⟨rfl, g1, o1⟩
      have HN : Hid (NuR w b t s (k + 1) w1) := ⟨by rw [HNS.out]; exact g1, HR.out.o.trans o1⟩
      generalize (gbit (gns k s)).toNat = y at *
      clear g1 o1
      have HOR := hid (or_bit v y hv2 HY.out)
      go_wp2
      go_roundw
      case rel => exact ⟨k + 1, by omega, by rw [HOR.out, HV.out], by go_num, HN.out⟩
      case measure => simp [intOf]; omega
    · obtain rfl : k = m := by omega
      have j2 : decide (k < k) = false := by simp
      go_wp2
      go_ret
      exact ⟨rfl, HR.out.g, HR.out.o⟩
end Go.Proofs.YtdepkfdceidikaaGreatDoor
