/-
  limb.Bytes, avouchref01.Bytes: what each call does.
-/
import Derived.Test.YtpjjobophplleaaDoorBytes0
import Derived.Test.YtpjjobophplleaaDoorRefB
import Derived.Test.YtpjjobophplleaaDoorLShift
namespace Go.Proofs.YtpjjobophplleaaDoor
open Go.RowKit
set_option linter.unusedVariables false

/-- The slice of e is new, has n bytes, and reads as a list whose number is X. -/
def Bts (w : World) (e : Ending) (w' : World) (n X : Nat) : Prop :=
  ∃ A c l, e = .returned (.slice A n c) ∧ n ≤ c ∧ Rd8 w' w'.heap.size A n l ∧ val 256 l = X ∧ Below w.heap.size w w'

theorem pow256 (k j : Nat) : 256 ^ (8 * k + j) = 256 ^ j * 18446744073709551616 ^ k := by
  rw [Nat.pow_add, Nat.pow_mul, Nat.mul_comm]
theorem byte_step (p x j P : Nat) : p + x % 256 ^ j * P + x / 256 ^ j % 256 * (256 ^ j * P) = p + x % 256 ^ (j + 1) * P := by
  have e : x % 256 ^ (j + 1) = x % 256 ^ j + 256 ^ j * (x / 256 ^ j % 256) := by rw [Nat.pow_succ, Nat.mod_mul]
  rw [e]
  generalize x / 256 ^ j % 256 = y
  generalize x % 256 ^ j = z
  generalize 256 ^ j = Q
  grind
theorem octet_at (x j : Nat) : (x : Int) / 2 ^ (8 * j) % 256 = ((x / 256 ^ j % 256 : Nat) : Int) := by
  have e : ((2 : Int) ^ (8 * j)) = ((256 ^ j : Nat) : Int) := by rw [Int.pow_mul]; simp
  rw [e, ← Int.natCast_ediv]; omega
theorem word_mod (x : Nat) (h : x < 18446744073709551616) : x % 256 ^ 8 = x := Nat.mod_eq_of_lt h
theorem ownB_empty (w : World) : OwnB (w.alloc (.cells #[] 5)) w.heap.size (.slice (some ⟨w.heap.size, 0, none⟩) 0 0) [] :=
  ⟨World.ownsRow_made w #[] 0 (Nat.le_refl _) (Nat.zero_le _) rfl, fun x hx => by simp at hx⟩

set_option maxHeartbeats 1000000 in
theorem limbBytes_c (A : Option Addr) (n c : Nat) (l : List Nat) (w : World) (ha : Rd w w.heap.size A n l) (hn : n ≤ 1000) :
    Calls Tryd.prog 38 #[.slice A n c] w fun e w' => Bts w e w' (8 * n) (val 18446744073709551616 l) := by
  have hmk := make8I 0 (8 * n) (Nat.zero_le _) (by omega) 0 ((n : Int) * 8) rfl (by omega)
  go_enter Tryd.func38, Tryd.ntmps38
  go_wp2
  clear hmk
  go_loopw [3, 13] (fun v i wr => ∃ k : Nat, ∃ r : List Nat, k ≤ n ∧ i = .int .i64 k ∧ Hid (r.length = 8 * k) ∧ OwnB wr w.heap.size v r ∧ Below w.heap.size w wr ∧ Hid (val 256 r = pv 18446744073709551616 l k)) (fun _ i _ => n - (intOf i).toNat)
  case atStart => exact ⟨0, [], Nat.zero_le _, rfl, rfl, ownB_made w (8 * n) (by omega), (Below.refl _ _).alloc (Nat.le_refl _) _, rfl⟩
  case round =>
    obtain ⟨k, r, hk, rfl, HL, hown, hbl, HE⟩ := hrel
    by_cases hlt : k < n
    · have ra := ha.below hbl (Nat.le_refl _)
      obtain ⟨ba, oa, rfl, hba, hca⟩ := ra.at_ hlt
      have x0 := at64_nonneg l k
      obtain ⟨w1, rfl⟩ : ∃ x, x = wr := ⟨wr, rfl⟩
      go_wp2
      go_loopw [3, 17] (fun v i wj => ∃ j : Nat, ∃ r : List Nat, j ≤ 8 ∧ i = .int .i64 j ∧ Hid (r.length = 8 * k + j) ∧ OwnB wj w.heap.size v r ∧ Below w.heap.size w wj ∧ Hid (val 256 r = pv 18446744073709551616 l k + l.getD k 0 % 256 ^ j * 18446744073709551616 ^ k)) (fun _ i _ => 8 - (intOf i).toNat)
      case atStart => exact ⟨0, r, by omega, rfl, HL, hown, hbl, by show _ = _; rw [HE.out, Nat.pow_zero, Nat.mod_one, Nat.zero_mul, Nat.add_zero]⟩
      case round =>
        obtain ⟨j, r2, hj, rfl, HL2, hown2, hbl2, HE2⟩ := hrel
        by_cases hlt2 : j < 8
        · have hsz := hbl2.size
          have hl' : r2.length ≤ 100000 := by rw [HL2.out]; omega
          have i0 : (0 : Int) ≤ 8 * (j : Int) := by omega
          have i1 : 8 * (j : Int) ≤ 64 := by omega
          have hs8 : IntKind.i64.wrap (8 * (j : Int)) = 8 * (j : Int) := by rw [IntKind.wrap_i64]; omega
          go_wp2_with (at_builtin; refine append_byte rfl (.tmp 20) (.tmp 26) rfl w.heap.size _ r2 rfl hown2 _ (l.getD k 0 / 256 ^ j % 256) ?e1 ?e2 rfl hl' hsz ?_)
          case e1 => exact octet_at _ _
          case e2 => exact Nat.mod_lt _ (by decide)
          intro v' w' hown' hb'
          have hb2 := hbl2.trans hb'
          have HL3 : Hid ((r2 ++ [l.getD k 0 / 256 ^ j % 256]).length = 8 * k + (j + 1)) := by show _ = _; rw [List.length_append, HL2.out]; rfl
          have HE3 : Hid (val 256 (r2 ++ [l.getD k 0 / 256 ^ j % 256]) = pv 18446744073709551616 l k + l.getD k 0 % 256 ^ (j + 1) * 18446744073709551616 ^ k) := by
            show _ = _
            rw [val_append, HE2.out, HL2.out, pow256]
            exact byte_step _ _ _ _
          go_wp2
          go_roundw
          case rel => exact ⟨j + 1, _, by omega, by go_num, HL3, hown', hb2, HE3⟩
          case measure => simp [intOf]; omega
        · obtain rfl : j = 8 := by omega
          have HE4 : Hid (val 256 r2 = pv 18446744073709551616 l (k + 1)) := by
            show _ = _
            rw [HE2.out, word_mod _ (getD_lt _ (by decide) l ha.lt k), pv_succ]
          have HL4 : Hid (r2.length = 8 * (k + 1)) := by show _ = _; rw [HL2.out]; omega
          go_wp2
          go_roundw
          case rel => exact ⟨k + 1, r2, by omega, by go_num, HL4, hown2, hbl2, HE4⟩
          case measure => simp [intOf]; omega
    · obtain rfl : k = n := by omega
      have HV : Hid (val 256 r = val 18446744073709551616 l) := by show _ = _; rw [HE.out, pv_out _ _ _ (by rw [ha.len]; exact Nat.le_refl _)]
      obtain ⟨A', c', rfl, hc', rd'⟩ := hown.rd
      rw [HL.out] at rd' hc' ⊢
      go_wp2
      go_ret
      exact ⟨A', c', r, rfl, hc', rd', HV.out, hbl⟩

set_option maxHeartbeats 1000000 in
theorem refBytes_c (A : Option Addr) (n c : Nat) (l : List Nat) (w : World) (ha : Rd w w.heap.size A n l) (hn : n ≤ 1000) :
    Calls Tryd.prog 33 #[.slice A n c] w fun e w' => Bts w e w' (8 * n) (val 18446744073709551616 l) := by
  go_enter Tryd.func33, Tryd.ntmps33
  go_wp2
  go_loopw [3, 4] (fun v i wr => ∃ k : Nat, ∃ r : List Nat, k ≤ n ∧ i = .int .i64 k ∧ Hid (r.length = 8 * k) ∧ OwnB wr w.heap.size v r ∧ Below w.heap.size w wr ∧ Hid (val 256 r = pv 18446744073709551616 l k)) (fun _ i _ => n - (intOf i).toNat)
  case atStart => exact ⟨0, [], Nat.zero_le _, rfl, rfl, ownB_empty w, (Below.refl _ _).alloc (Nat.le_refl _) _, rfl⟩
  case round =>
    obtain ⟨k, r, hk, rfl, HL, hown, hbl, HE⟩ := hrel
    by_cases hlt : k < n
    · have ra := ha.below hbl (Nat.le_refl _)
      obtain ⟨ba, oa, rfl, hba, hca⟩ := ra.at_ hlt
      obtain ⟨w1, rfl⟩ : ∃ x, x = wr := ⟨wr, rfl⟩
      go_wp2
      go_loopw [3, 5, 6] (fun v x i wj => ∃ j : Nat, ∃ r : List Nat, j ≤ 8 ∧ i = .int .i64 j ∧ x = .int .u64 ((l.getD k 0 / 256 ^ j : Nat) : Int) ∧ Hid (r.length = 8 * k + j) ∧ OwnB wj w.heap.size v r ∧ Below w.heap.size w wj ∧ Hid (val 256 r = pv 18446744073709551616 l k + l.getD k 0 % 256 ^ j * 18446744073709551616 ^ k)) (fun _ _ i _ => 8 - (intOf i).toNat)
      case atStart => exact ⟨0, r, by omega, rfl, by rw [Nat.pow_zero, Nat.div_one]; rfl, HL, hown, hbl, by show _ = _; rw [HE.out, Nat.pow_zero, Nat.mod_one, Nat.zero_mul, Nat.add_zero]⟩
      case round =>
        obtain ⟨j, r2, hj, rfl, rfl, HL2, hown2, hbl2, HE2⟩ := hrel
        by_cases hlt2 : j < 8
        · have hsz := hbl2.size
          have hl' : r2.length ≤ 100000 := by rw [HL2.out]; omega
          have HQ : Hid (l.getD k 0 / 256 ^ j / 256 = l.getD k 0 / 256 ^ (j + 1)) := by show _ = _; rw [Nat.pow_succ, Nat.div_div_eq_div_mul]
          have HL3 : Hid ((r2 ++ [l.getD k 0 / 256 ^ j % 256]).length = 8 * k + (j + 1)) := by show _ = _; rw [List.length_append, HL2.out]; rfl
          have HE3 : Hid (val 256 (r2 ++ [l.getD k 0 / 256 ^ j % 256]) = pv 18446744073709551616 l k + l.getD k 0 % 256 ^ (j + 1) * 18446744073709551616 ^ k) := by
            show _ = _
            rw [val_append, HE2.out, HL2.out, pow256]
            exact byte_step _ _ _ _
          have HX : Hid (l.getD k 0 / 256 ^ j < 18446744073709551616) := Nat.lt_of_le_of_lt (Nat.div_le_self _ _) (getD_lt _ (by decide) l ha.lt k)
          generalize l.getD k 0 / 256 ^ j = x at *
          have x0 : (0 : Int) ≤ (x : Int) := by omega
          go_wp2_with (at_builtin; refine append_byte rfl (.tmp 22) (.tmp 26) rfl w.heap.size _ r2 rfl hown2 _ (x % 256) ?e1 ?e2 rfl hl' hsz ?_)
          case e1 => omega
          case e2 => exact Nat.mod_lt _ (by decide)
          intro v' w' hown' hb'
          have hb2 := hbl2.trans hb'
          go_wp2
          go_roundw
          case rel => exact ⟨j + 1, _, by omega, by go_num, by rw [← HQ.out]; exact congrArg (Value.int .u64) (by rw [IntKind.wrap_u64]; have := HX.out; omega), HL3, hown', hb2, HE3⟩
          case measure => simp [intOf]; omega
        · obtain rfl : j = 8 := by omega
          have HE4 : Hid (val 256 r2 = pv 18446744073709551616 l (k + 1)) := by
            show _ = _
            rw [HE2.out, word_mod _ (getD_lt _ (by decide) l ha.lt k), pv_succ]
          have HL4 : Hid (r2.length = 8 * (k + 1)) := by show _ = _; rw [HL2.out]; omega
          go_wp2
          go_roundw
          case rel => exact ⟨k + 1, r2, by omega, by go_num, HL4, hown2, hbl2, HE4⟩
          case measure => simp [intOf]; omega
    · obtain rfl : k = n := by omega
      have HV : Hid (val 256 r = val 18446744073709551616 l) := by show _ = _; rw [HE.out, pv_out _ _ _ (by rw [ha.len]; exact Nat.le_refl _)]
      obtain ⟨A', c', rfl, hc', rd'⟩ := hown.rd
      rw [HL.out] at rd' hc' ⊢
      go_wp2
      go_ret
      exact ⟨A', c', r, rfl, hc', rd', HV.out, hbl⟩
end Go.Proofs.YtpjjobophplleaaDoor
