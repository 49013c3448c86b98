/-
  avouchref01.Bit, Exp, Bits: what each call does.
-/
import Derived.Test.YtfonpmahcdmajaaDoorRefG
namespace Go.Proofs.YtfonpmahcdmajaaDoor
open Go.RowKit
set_option linter.unusedVariables false

theorem bit_mod (x j : Nat) (hj : j < 32) : x % 4294967296 / 2 ^ j % 2 = x / 2 ^ j % 2 := by
  have e : (4294967296 : Nat) = 2 ^ j * (2 * 2 ^ (31 - j)) := by
    rw [← Nat.pow_succ', ← Nat.pow_add, show j + (31 - j).succ = 32 by omega]
  rw [e, Nat.mod_mul_right_div_self, Nat.mod_mul_right_mod]
theorem bit_at (l : List Nat) (h : D32 l) (k : Nat) : l.getD (k / 32) 0 / 2 ^ (k % 32) % 2 = val 4294967296 l / 2 ^ k % 2 := by
  rw [← digit_at 4294967296 (by decide) l h (k / 32), bit_mod _ _ (Nat.mod_lt _ (by decide))]
  have e : val 4294967296 l / 2 ^ k = val 4294967296 l / 4294967296 ^ (k / 32) / 2 ^ (k % 32) := by
    rw [Nat.div_div_eq_div_mul, show (4294967296 : Nat) = 2 ^ 32 by decide, ← Nat.pow_mul, ← Nat.pow_add, Nat.div_add_mod]
  rw [e]

set_option maxHeartbeats 400000 in
theorem bit_c (A : Option Addr) (n c B : Nat) (l : List Nat) (k : Nat) (w : World) (h : Rd w B A n l) (d : D32 l) (hk : k ≤ 1000000) :
    Calls Tryd.prog 97 #[.slice A n c, .int .i64 k] w fun e w' => e = .returned (.int .u64 ((val 4294967296 l / 2 ^ k % 2 : Nat) : Int)) ∧ w = w' := by
  have h1 := at64_nonneg l (k / 32)
  have h1' := at64_d32 d (k / 32)
  have hk3 : (k : Int) % 32 ≤ 31 := by omega
  go_enter Tryd.func97, Tryd.ntmps97
  go_wp2_with fail
  refine (get_ci A n c _ l (k / 32) _ (by omega) _ h).mono ?_
  rintro e w' ⟨rfl, rfl⟩
  go_wp2
  go_loop [5, 6] (fun d i => ∃ t q : Nat, t ≤ k % 32 ∧ i = .int .i64 t ∧ d = .int .u64 q ∧ q < 4294967296 ∧ Hid (q = l.getD (k / 32) 0 / 2 ^ t)) (fun _ i => 32 - (intOf i).toNat)
  case atStart => exact ⟨0, l.getD (k / 32) 0, Nat.zero_le _, rfl, rfl, (by unfold at64 at h1'; omega), (by show _ = _; rw [Nat.pow_zero, Nat.div_one])⟩
  case round =>
    obtain ⟨t, q, ht, rfl, rfl, hq, HQ⟩ := hrel
    by_cases hlt3 : t < k % 32
    · have hlt3' : (t : Int) < (k : Int) % 32 := by omega
      have HQ2 : Hid (q / 2 = l.getD (k / 32) 0 / 2 ^ (t + 1)) := by show _ = _; rw [HQ.out, Nat.div_div_eq_div_mul, Nat.pow_succ]
      go_wp2
      go_round
      case rel => exact ⟨t + 1, q / 2, by omega, by go_num, by go_num, by omega, HQ2⟩
      case measure => simp [intOf]; omega
    · have htk : t = k % 32 := by omega
      have hlt3' : ¬ (t : Int) < (k : Int) % 32 := by omega
      have HB : Hid (((val 4294967296 l / 2 ^ k % 2 : Nat) : Int) = (q : Int) % 2) := by show _ = _; rw [← bit_at l d k, ← htk, ← HQ.out]; omega
      clear htk
      go_wp2
      go_ret
      exact ⟨ret_int HB.out.symm, rfl⟩

/-- How many bits a number has. -/
def blen (n : Nat) : Nat := if n = 0 then 0 else n.log2 + 1
theorem blen_eq {n k : Nat} (h1 : 2 ^ k ≤ n) (h2 : n < 2 ^ (k + 1)) : blen n = k + 1 := by
  have h0 : n ≠ 0 := by have : 0 < 2 ^ k := Nat.two_pow_pos k; omega
  unfold blen
  rw [if_neg h0, (Nat.log2_eq_iff h0).2 ⟨h1, h2⟩]

theorem bit_top {V k : Nat} (h : V < 2 ^ (k + 1)) : V / 2 ^ k % 2 = if 2 ^ k ≤ V then 1 else 0 := by
  have hp : 0 < 2 ^ k := Nat.two_pow_pos k
  split
  · rename_i hge
    have h1 : V / 2 ^ k < 2 := by rw [Nat.div_lt_iff_lt_mul hp, Nat.mul_comm, ← Nat.pow_succ]; exact h
    have h2 : 1 ≤ V / 2 ^ k := by rw [Nat.le_div_iff_mul_le hp]; omega
    omega
  · rename_i hlt
    rw [Nat.div_eq_of_lt (by omega)]

set_option maxHeartbeats 400000 in
theorem refBits_c (A : Option Addr) (n c B : Nat) (l : List Nat) (w : World) (h : Rd w B A n l) (d : D32 l) (hn : n ≤ 10000) (hc : n ≤ c) :
    Calls Tryd.prog 96 #[.slice A n c] w fun e w' => e = .returned (.int .i64 (blen (val 4294967296 l))) ∧ w = w' := by
  go_enter Tryd.func96, Tryd.ntmps96
  go_wp2_with fail
  refine (trim_c A n c _ l w h (by omega) hc).mono ?_
  rintro e w' ⟨m, hm, rfl, rfl, ht, hz⟩
  have rm := h.take m hm
  have dm : D32 (l.take m) := fun x hx => d x (List.mem_of_mem_take hx)
  have hv := val_take_zeros 4294967296 l m (by rw [h.len]; exact hm) hz
  have hb : val 4294967296 (l.take m) < 2 ^ (32 * m) := by
    have := val_lt _ (by decide) (l.take m) dm
    rw [show (l.take m).length = m by simp [h.len]; omega] at this
    rw [Nat.pow_mul]; exact this
  rw [hv] at hb
  have HV := hid hv
  have HB := hid hb
  clear hz hv hb ht
  go_wp2
  go_loop [3] (fun i => ∃ k : Nat, k ≤ 32 * m ∧ i = .int .i64 ((k : Int) - 1) ∧ Hid (val 4294967296 l < 2 ^ k)) (fun i => (intOf i + 1).toNat)
  case atStart => exact ⟨32 * m, Nat.le_refl _, by go_num, HB⟩
  case round =>
    obtain ⟨k, hk, rfl, HK⟩ := hrel
    rcases k with _ | k
    · have HF : Hid ((blen (val 4294967296 l) : Int) = 0) := by
        have h0 := HK.out
        rw [Nat.pow_zero] at h0
        have h1 : val 4294967296 l = 0 := by omega
        show _ = _
        rw [h1]; rfl
      go_wp2
      go_ret
      exact ⟨ret_int HF.out.symm, rfl⟩
    · have e1 : (((k + 1 : Nat) : Int) - 1) = (k : Int) := by omega
      rw [e1]
      clear e1
      have hbt := bit_top HK.out
      rw [← HV.out] at hbt
      by_cases hge : 2 ^ k ≤ val 4294967296 l
      · rw [if_pos (by rw [HV.out]; exact hge)] at hbt
        have hq : ((val 4294967296 (l.take m) / 2 ^ k % 2 : Nat) : Int) = 1 := by rw [hbt]; rfl
        have HF : Hid ((blen (val 4294967296 l) : Int) = (k : Int) + 1) := by show _ = _; rw [blen_eq hge HK.out]; rfl
        have HQ := hid hq
        clear hbt hge hq
        go_wp2_with fail
        refine (bit_c A m c _ (l.take m) k _ rm dm (by omega)).mono ?_
        rintro e w' ⟨rfl, rfl⟩
        rw [HQ.out]
        go_wp2
        go_ret
        exact ⟨ret_int HF.out.symm, rfl⟩
      · rw [if_neg (by rw [HV.out]; exact hge)] at hbt
        have hq : ((val 4294967296 (l.take m) / 2 ^ k % 2 : Nat) : Int) = 0 := by rw [hbt]; rfl
        have HF : Hid (val 4294967296 l < 2 ^ k) := Nat.lt_of_not_le hge
        have HQ := hid hq
        clear hbt hge hq
        go_wp2_with fail
        refine (bit_c A m c _ (l.take m) k _ rm dm (by omega)).mono ?_
        rintro e w' ⟨rfl, rfl⟩
        rw [HQ.out]
        go_wp2
        go_round
        case rel => exact ⟨k, by omega, by go_num, HF⟩
        case measure => simp [intOf]
end Go.Proofs.YtfonpmahcdmajaaDoor
