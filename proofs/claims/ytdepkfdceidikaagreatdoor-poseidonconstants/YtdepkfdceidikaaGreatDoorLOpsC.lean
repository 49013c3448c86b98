import Derived.Test.YtdepkfdceidikaaGreatDoorRefG
import Derived.Test.YtdepkfdceidikaaGreatDoorBytesB
/-
  avouchref01.Bit, Exp, Bits: what each call does.
-/
namespace Go.Proofs.YtdepkfdceidikaaGreatDoor
open Go.RowKit
set_option linter.unusedVariables false

theorem bit_mod (x j : Nat) (hj : j < 32) : x % 4294967296 / 2 ^ j % 2 = x / 2 ^ j % 2 := by
  have e : (4294967296 : Nat) = 2 ^ j * (2 * 2 ^ (31 - j)) := by
    rw [← Nat.pow_succ', ← Nat.pow_add, show j + (31 - j).succ = 32 by omega]
  rw [e, Nat.mod_mul_right_div_self, Nat.mod_mul_right_mod]
theorem bit_at (l : List Nat) (h : D32 l) (k : Nat) : l.getD (k / 32) 0 / 2 ^ (k % 32) % 2 = val 4294967296 l / 2 ^ k % 2 := by
  rw [← digit_at 4294967296 (by decide) l h (k / 32), bit_mod _ _ (Nat.mod_lt _ (by decide))]
  have e : val 4294967296 l / 2 ^ k = val 4294967296 l / 4294967296 ^ (k / 32) / 2 ^ (k % 32) := by
    rw [Nat.div_div_eq_div_mul, show (4294967296 : Nat) = 2 ^ 32 by decide, ← Nat.pow_mul, ← Nat.pow_add, Nat.div_add_mod]
  rw [e]

set_option maxHeartbeats 400000 in
theorem bit_c (A : Option Addr) (n c B : Nat) (l : List Nat) (k : Nat) (w : World) (h : Rd w B A n l) (d : D32 l) (hk : k ≤ 1000000) :
    Calls Tryz.prog 109 #[.slice A n c, .int .i64 k] w fun e w' => e = .returned (.int .u64 ((val 4294967296 l / 2 ^ k % 2 : Nat) : Int)) ∧ w = w' := by
  have h1 := at64_nonneg l (k / 32)
  have h1' := at64_d32 d (k / 32)
  have hk3 : (k : Int) % 32 ≤ 31 := by omega
  go_enter Tryz.func109, Tryz.ntmps109
  go_wp2_with fail
  refine (get_ci A n c _ l (k / 32) _ (by omega) _ h).mono ?_
  rintro e w' ⟨rfl, rfl⟩
  go_wp2
  go_loop [5, 6] (fun d i => ∃ t q : Nat, t ≤ k % 32 ∧ i = .int .i64 t ∧ d = .int .u64 q ∧ q < 4294967296 ∧ Hid (q = l.getD (k / 32) 0 / 2 ^ t)) (fun _ i => 32 - (intOf i).toNat)
  case atStart => exact ⟨0, l.getD (k / 32) 0, Nat.zero_le _, rfl, rfl, (by unfold at64 at h1'; omega), (by show _ = _; rw [Nat.pow_zero, Nat.div_one])⟩
  case round =>
    obtain ⟨t, q, ht, rfl, rfl, hq, HQ⟩ := hrel
    by_cases hlt3 : t < k % 32
    · have hlt3' : (t : Int) < (k : Int) % 32 := by omega
      have HQ2 : Hid (q / 2 = l.getD (k / 32) 0 / 2 ^ (t + 1)) := by show _ = _; rw [HQ.out, Nat.div_div_eq_div_mul, Nat.pow_succ]
      go_wp2
      go_round
      case rel => exact ⟨t + 1, q / 2, by omega, by go_num, by go_num, by omega, HQ2⟩
      case measure => simp [intOf]; omega
    · have htk : t = k % 32 := by omega
      have hlt3' : ¬ (t : Int) < (k : Int) % 32 := by omega
      have HB : Hid (((val 4294967296 l / 2 ^ k % 2 : Nat) : Int) = (q : Int) % 2) := by show _ = _; rw [← bit_at l d k, ← htk, ← HQ.out]; omega
      clear htk
      go_wp2
      go_ret
      exact ⟨ret_int HB.out.symm, rfl⟩

/-- How many bits a number has. -/
def blen (n : Nat) : Nat := if n = 0 then 0 else n.log2 + 1
theorem blen_eq {n k : Nat} (h1 : 2 ^ k ≤ n) (h2 : n < 2 ^ (k + 1)) : blen n = k + 1 := by
  have h0 : n ≠ 0 := by have : 0 < 2 ^ k := Nat.two_pow_pos k; omega
  unfold blen
  rw [if_neg h0, (Nat.log2_eq_iff h0).2 ⟨h1, h2⟩]

theorem bit_top {V k : Nat} (h : V < 2 ^ (k + 1)) : V / 2 ^ k % 2 = if 2 ^ k ≤ V then 1 else 0 := by
  have hp : 0 < 2 ^ k := Nat.two_pow_pos k
  split
  · rename_i hge
    have h1 : V / 2 ^ k < 2 := by rw [Nat.div_lt_iff_lt_mul hp, Nat.mul_comm, ← Nat.pow_succ]; exact h
    have h2 : 1 ≤ V / 2 ^ k := by rw [Nat.le_div_iff_mul_le hp]; omega
    omega
  · rename_i hlt
    rw [Nat.div_eq_of_lt (by omega)]

set_option maxHeartbeats 400000 in
theorem refBits_c (A : Option Addr) (n c B : Nat) (l : List Nat) (w : World) (h : Rd w B A n l) (d : D32 l) (hn : n ≤ 10000) (hc : n ≤ c) :
    Calls Tryz.prog 108 #[.slice A n c] w fun e w' => e = .returned (.int .i64 (blen (val 4294967296 l))) ∧ w = w' := by
  go_enter Tryz.func108, Tryz.ntmps108
  go_wp2_with fail
  refine (trim_c A n c _ l w h (by omega) hc).mono ?_
  rintro e w' ⟨m, hm, rfl, rfl, ht, hz⟩
  have rm := h.take m hm
  have dm : D32 (l.take m) := fun x hx => d x (List.mem_of_mem_take hx)
  have hv := val_take_zeros 4294967296 l m (by rw [h.len]; exact hm) hz
  have hb : val 4294967296 (l.take m) < 2 ^ (32 * m) := by
    have := val_lt _ (by decide) (l.take m) dm
    rw [show (l.take m).length = m by simp [h.len]; omega] at this
    rw [Nat.pow_mul]; exact this
  rw [hv] at hb
  have HV := hid hv
  have HB := hid hb
  clear hz hv hb ht
  go_wp2
  go_loop [3] (fun i => ∃ k : Nat, k ≤ 32 * m ∧ i = .int .i64 ((k : Int) - 1) ∧ Hid (val 4294967296 l < 2 ^ k)) (fun i => (intOf i + 1).toNat)
  case atStart => exact ⟨32 * m, Nat.le_refl _, by go_num, HB⟩
  case round =>
    obtain ⟨k, hk, rfl, HK⟩ := hrel
    rcases k with _ | k
    · have HF : Hid ((blen (val 4294967296 l) : Int) = 0) := by
        have h0 := HK.out
        rw [Nat.pow_zero] at h0
        have h1 : val 4294967296 l = 0 := by omega
        show _ = _
        rw [h1]; rfl
      go_wp2
      go_ret
      exact ⟨ret_int HF.out.symm, rfl⟩
    · have e1 : (((k + 1 : Nat) : Int) - 1) = (k : Int) := by omega
      rw [e1]
      clear e1
      have hbt := bit_top HK.out
      rw [← HV.out] at hbt
      by_cases hge : 2 ^ k ≤ val 4294967296 l
      · rw [if_pos (by rw [HV.out]; exact hge)] at hbt
        have hq : ((val 4294967296 (l.take m) / 2 ^ k % 2 : Nat) : Int) = 1 := by rw [hbt]; rfl
        have HF : Hid ((blen (val 4294967296 l) : Int) = (k : Int) + 1) := by show _ = _; rw [blen_eq hge HK.out]; rfl
        have HQ := hid hq
        clear hbt hge hq
        go_wp2_with fail
        refine (bit_c A m c _ (l.take m) k _ rm dm (by omega)).mono ?_
        rintro e w' ⟨rfl, rfl⟩
        rw [HQ.out]
        go_wp2
        go_ret
        exact ⟨ret_int HF.out.symm, rfl⟩
      · rw [if_neg (by rw [HV.out]; exact hge)] at hbt
        have hq : ((val 4294967296 (l.take m) / 2 ^ k % 2 : Nat) : Int) = 0 := by rw [hbt]; rfl
        have HF : Hid (val 4294967296 l < 2 ^ k) := Nat.lt_of_not_le hge
        have HQ := hid hq
        clear hbt hge hq
        go_wp2_with fail
        refine (bit_c A m c _ (l.take m) k _ rm dm (by omega)).mono ?_
        rintro e w' ⟨rfl, rfl⟩
        rw [HQ.out]
        go_wp2
        go_round
        case rel => exact ⟨k, by omega, by go_num, HF⟩
        case measure => simp [intOf]
end Go.Proofs.YtdepkfdceidikaaGreatDoor
/-
  limb.Bits, (*Modulus).Add, Sub, Exp: what each call does.
-/
namespace Go.Proofs.YtdepkfdceidikaaGreatDoor
open Go.RowKit
set_option linter.unusedVariables false

theorem bitLen_blen (x : Nat) (h0 : x ≠ 0) (hx : x < 18446744073709551616) : Lib.bitLen x = blen x := by
  have h1 : 1 ≤ Lib.bitLen x ∧ 2 ^ (Lib.bitLen x - 1) ≤ x ∧ x < 2 ^ Lib.bitLen x := Lib.bitLenAux_bounds 64 x (by omega) h0
  obtain ⟨a, b, c⟩ := h1
  have := blen_eq (k := Lib.bitLen x - 1) b (by rw [show Lib.bitLen x - 1 + 1 = Lib.bitLen x by omega]; exact c)
  omega
theorem blen_top (l : List Nat) (hl : allLt l) (k : Nat) (hz : ∀ j, k + 1 ≤ j → l.getD j 0 = 0) (h0 : l.getD k 0 ≠ 0) (hk : k < l.length) : blen (val 18446744073709551616 l) = k * 64 + blen (l.getD k 0) := by
  have hx := getD_lt _ (by decide) l hl k
  have h1 : 1 ≤ Lib.bitLen (l.getD k 0) ∧ 2 ^ (Lib.bitLen (l.getD k 0) - 1) ≤ l.getD k 0 ∧ l.getD k 0 < 2 ^ Lib.bitLen (l.getD k 0) := Lib.bitLenAux_bounds 64 _ (by omega) h0
  rw [← bitLen_blen _ h0 hx]
  obtain ⟨a, b, c⟩ := h1
  have hv : val 18446744073709551616 l = pv 18446744073709551616 l k + l.getD k 0 * 18446744073709551616 ^ k := by
    unfold val; rw [pv_zeros _ _ _ _ hz (by omega), pv_succ]
  have hp := pv_lt _ (by decide) l hl k
  have e64 : 18446744073709551616 ^ k = 2 ^ (64 * k) := by rw [Nat.pow_mul]
  have := blen_eq (n := val 18446744073709551616 l) (k := k * 64 + (Lib.bitLen (l.getD k 0) - 1)) ?_ ?_
  · omega
  · rw [hv, Nat.pow_add, Nat.mul_comm k 64, ← e64]
    have : 18446744073709551616 ^ k * 2 ^ (Lib.bitLen (l.getD k 0) - 1) ≤ 18446744073709551616 ^ k * l.getD k 0 := Nat.mul_le_mul_left _ b
    rw [Nat.mul_comm (l.getD k 0)]
    omega
  · rw [hv, show k * 64 + (Lib.bitLen (l.getD k 0) - 1) + 1 = 64 * k + Lib.bitLen (l.getD k 0) by omega, Nat.pow_add, ← e64]
    have : 18446744073709551616 ^ k * (l.getD k 0 + 1) ≤ 18446744073709551616 ^ k * 2 ^ Lib.bitLen (l.getD k 0) := Nat.mul_le_mul_left _ c
    rw [Nat.mul_add, Nat.mul_comm _ (l.getD k 0)] at this
    omega

set_option maxHeartbeats 400000 in
theorem bits_c (A : Option Addr) (n c B : Nat) (l : List Nat) (w : World) (h : Rd w B A n l) (hn : n ≤ 10000) :
    Calls Tryz.prog 107 #[.slice A n c] w fun e w' => e = .returned (.int .i64 (blen (val 18446744073709551616 l) : Int)) ∧ w = w' := by
  go_enter Tryz.func107, Tryz.ntmps107
  go_wp2
  go_loop [3] (fun i => ∃ k : Nat, k ≤ n ∧ i = .int .i64 ((k : Int) - 1) ∧ Hid (∀ j, k ≤ j → l.getD j 0 = 0)) (fun i => (intOf i + 1).toNat)
  case atStart => exact ⟨n, Nat.le_refl _, rfl, fun j hj => getD_out l j (by rw [h.len]; exact hj)⟩
  case round =>
    obtain ⟨k, hk, rfl, H⟩ := hrel
    rcases k with _ | k
    · have HF : Hid ((blen (val 18446744073709551616 l) : Int) = 0) := by
        have : val 18446744073709551616 l = 0 := by unfold val; rw [pv_zeros _ _ _ _ H.out (Nat.zero_le _)]; rfl
        show _ = _
        rw [this]; rfl
      go_wp2
      go_ret
      exact ⟨ret_int HF.out.symm, rfl⟩
    · have e1 : (((k + 1 : Nat) : Int) - 1) = (k : Int) := by omega
      rw [e1]
      clear e1
      obtain ⟨b, off, rfl, hb, hcell⟩ := h.at_ (k := k) (by omega)
      have x0 := at64_nonneg l k
      have x1 : at64 l k ≤ 18446744073709551615 := by have := at64_lt h.lt k; omega
      by_cases hz : l.getD k 0 = 0
      · have hz' : (at64 l k != 0) = false := by unfold at64; rw [hz]; rfl
        have H2 : Hid (∀ j, k ≤ j → l.getD j 0 = 0) := by
          intro j hj
          by_cases hj' : j = k
          · subst hj'; exact hz
          · exact H.out j (by omega)
        clear hz
        go_wp2
        go_round
        case rel => exact ⟨k, by omega, by go_num, H2⟩
        case measure => simp [intOf]
      · have hz' : (at64 l k != 0) = true := bne_iff_ne.2 (by unfold at64; omega)
        have HF : Hid ((blen (val 18446744073709551616 l) : Int) = (k : Int) * 64 + (Lib.bitLen (at64 l k).toNat : Int)) := by
          have e : (at64 l k).toNat = l.getD k 0 := by unfold at64; omega
          show _ = _
          rw [e, bitLen_blen _ hz (getD_lt _ (by decide) l h.lt k), blen_top l h.lt k H.out hz (by rw [h.len]; omega)]
          omega
        have hb64 := Lib.bitLen_le (at64 l k).toNat 64 (by omega) (by omega)
        clear hz
        go_wp2_with fail
        refine (len64_c _ x0 x1 _).mono ?_
        rintro e w' ⟨rfl, rfl⟩
        go_wp2
        go_ret
        exact ⟨ret_int HF.out.symm, rfl⟩

theorem AddRel.wds {w w' : World} {n c : Nat} {la lb : List Nat} (h : AddRel w w.heap.size n la lb w' n c) : ∃ r, Rd w' w'.heap.size (some ⟨w.heap.size, 0, none⟩) n r ∧ val 18446744073709551616 r + c * 18446744073709551616 ^ n = pv 18446744073709551616 la n + pv 18446744073709551616 lb n ∧ Below w.heap.size w w' ∧ c ≤ 1 := by
  obtain ⟨ws, hl, hB, hb, hc, he⟩ := h
  have rd := hB.rd (off := 0) (n := n) (B := w'.heap.size) (by omega) hB.size
  rw [List.drop_zero, List.take_of_length_le (by omega)] at rd
  exact ⟨ws, rd, by unfold val; rw [hl]; exact he, hb, hc⟩
theorem SubRel.wds {w w' : World} {n c : Nat} {la lb : List Nat} (h : SubRel w w.heap.size n la lb w' n c) : ∃ r, Rd w' w'.heap.size (some ⟨w.heap.size, 0, none⟩) n r ∧ val 18446744073709551616 r + pv 18446744073709551616 lb n = pv 18446744073709551616 la n + c * 18446744073709551616 ^ n ∧ Below w.heap.size w w' ∧ c ≤ 1 := by
  obtain ⟨ws, hl, hB, hb, hc, he⟩ := h
  have rd := hB.rd (off := 0) (n := n) (B := w'.heap.size) (by omega) hB.size
  rw [List.drop_zero, List.take_of_length_le (by omega)] at rd
  exact ⟨ws, rd, by unfold val; rw [hl]; exact he, hb, hc⟩

theorem cmpN_ge {x y : Nat} (h : y ≤ x) : decide (0 ≤ cmpN x y) = true := by
  unfold cmpN; rw [if_neg (by omega)]; split <;> decide
theorem cmpN_lt' {x y : Nat} (h : x < y) : decide (0 ≤ cmpN x y) = false := by rw [cmpN_lt h]; decide

end Go.Proofs.YtdepkfdceidikaaGreatDoor
/-
  (*Modulus).Sub, Exp: what each call does.
-/
namespace Go.Proofs.YtdepkfdceidikaaGreatDoor
open Go.RowKit
set_option linter.unusedVariables false

theorem bit_mod64 (x j : Nat) (hj : j < 64) : x % 18446744073709551616 / 2 ^ j % 2 = x / 2 ^ j % 2 := by
  have e : (18446744073709551616 : Nat) = 2 ^ j * (2 * 2 ^ (63 - j)) := by
    rw [← Nat.pow_succ', ← Nat.pow_add, show j + (63 - j).succ = 64 by omega]
  rw [e, Nat.mod_mul_right_div_self, Nat.mod_mul_right_mod]
theorem bit_at64 (l : List Nat) (h : allLt l) (k : Nat) : l.getD (k / 64) 0 / 2 ^ (k % 64) % 2 = val 18446744073709551616 l / 2 ^ k % 2 := by
  rw [← digit_at 18446744073709551616 (by decide) l h (k / 64), bit_mod64 _ _ (Nat.mod_lt _ (by decide))]
  have e : val 18446744073709551616 l / 2 ^ k = val 18446744073709551616 l / 18446744073709551616 ^ (k / 64) / 2 ^ (k % 64) := by
    rw [Nat.div_div_eq_div_mul, show (18446744073709551616 : Nat) = 2 ^ 64 by decide, ← Nat.pow_mul, ← Nat.pow_add, Nat.div_add_mod]
  rw [e]
theorem blen_lt (n : Nat) : n < 2 ^ blen n := by
  unfold blen
  split
  · subst_vars; decide
  · exact Nat.lt_log2_self
theorem blen_le {n k : Nat} (h : n < 2 ^ k) : blen n ≤ k := by
  unfold blen
  split
  · omega
  · rename_i h0
    exact (Nat.log2_lt h0).2 h
/-- One step of a power. -/
theorem pow_step (a E k M b : Nat) (hb : E / 2 ^ k % 2 = b) : (a ^ (E / 2 ^ (k + 1)) % M) * (a ^ (E / 2 ^ (k + 1)) % M) % M * (if b = 1 then a % M else 1) % M = a ^ (E / 2 ^ k) % M := by
  have e : E / 2 ^ k = 2 * (E / 2 ^ (k + 1)) + b := by
    rw [Nat.pow_succ, ← Nat.div_div_eq_div_mul]; omega
  generalize E / 2 ^ (k + 1) = q at e ⊢
  have e2 : a ^ (2 * q + b) = a ^ q * a ^ q * a ^ b := by rw [Nat.pow_add, Nat.two_mul, Nat.pow_add]
  rw [e, e2, ← Nat.mul_mod]
  have hb2 : b = 0 ∨ b = 1 := by omega
  rcases hb2 with rfl | rfl
  · simp
  · rw [if_pos rfl, Nat.pow_one, ← Nat.mul_mod]

theorem and_one (x s : Nat) (hx : x < 18446744073709551616) : bits .and .u64 ((x : Int) / 2 ^ s) 1 = ((x / 2 ^ s % 2 : Nat) : Int) := by
  have e2 : (x : Int) / 2 ^ s = ((x / 2 ^ s : Nat) : Int) := by
    rw [show ((2 : Int) ^ s) = ((2 ^ s : Nat) : Int) by simp, ← Int.natCast_ediv]
  have hb : x / 2 ^ s < 18446744073709551616 := Nat.lt_of_le_of_lt (Nat.div_le_self _ _) hx
  have h := bits_and_u64_nat (x / 2 ^ s) 1 hb (by omega)
  rw [Nat.and_one_is_mod] at h
  rw [e2]
  exact h

end Go.Proofs.YtdepkfdceidikaaGreatDoor
