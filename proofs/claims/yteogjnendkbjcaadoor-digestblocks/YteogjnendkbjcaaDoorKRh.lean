/-
  avouchref06.rc: what the call does.
-/
import Derived.Test.YteogjnendkbjcaaDoorKRf
namespace Go.Proofs.YteogjnendkbjcaaDoor
open Go.RowKit
set_option linter.unusedVariables false

def kps : List Nat := [64, 32, 16, 1]
theorem kps_pos {k : Nat} (h : k < 4) : 0 < kps.getD k 0 ∧ kps.getD k 0 ≤ 64 := by
  have key : ∀ k : Fin 4, 0 < kps.getD k.val 0 ∧ kps.getD k.val 0 ≤ 64 := by decide
  exact key ⟨k, h⟩
/-- Bits turned over, one after the other. -/
def kfs (r : Nat) : Nat → Nat
  | 0 => r
  | k + 1 => kflip (kfs r k) (kps.getD k 0)
theorem kfs_end (r : Nat) : kfs r 4 = kflip (kflip (kflip (kflip r 64) 32) 16) 1 := rfl
theorem kfs_le {r : Nat} (h : r < 512) : ∀ k, k ≤ 4 → kfs r k < 512 + 64 * k
  | 0, _ => by show r < _; omega
  | k + 1, hk => by
    have := kfs_le h k (by omega)
    have hp := kps_pos (show k < 4 by omega)
    show kflip _ _ < _
    unfold kflip
    split <;> omega
theorem ps_cell (w : World) {k : Nat} (h : k < 4) : (w.alloc (.cells #[.int .i64 64, .int .i64 32, .int .i64 16, .int .i64 1] 3)).cell? ⟨w.heap.size, k, none⟩ = some (.int .i64 ((kps.getD k 0 : Nat) : Int)) := by
  rw [cell_of_row _ w.heap.size k _ _ (0, 0) (heap_alloc_new w _)]
  match k, h with
  | 0, _ => rfl
  | 1, _ => rfl
  | 2, _ => rfl
  | 3, _ => rfl

set_option maxRecDepth 20000 in
set_option maxHeartbeats 1000000 in
theorem rc_c (t : Nat) (ht : t ≤ 1000) (w : World) :
    Calls Tryd.prog 42 #[.int .i64 (t : Int)] w fun e w' => e = .returned (.bool (krc t)) ∧ Below w.heap.size w w' := by
  obtain ⟨B, hB⟩ : ∃ b, b = krc t := ⟨_, rfl⟩
  have HB := hid hB
  rw [← hB]
  clear hB
  go_enter Tryd.func42, Tryd.ntmps42
  go_wp2_with fail
  go_loopw [3, 4] (fun u v wr => ∃ i r : Nat, i ≤ t ∧ Hid (r = klf i) ∧ u = .int .i64 r ∧ v = .int .i64 i ∧ Below w.heap.size w wr) (fun _ v _ => t - (intOf v).toNat)
  case atStart => exact ⟨0, 1, by omega, hid (show 1 = klf 0 from rfl), rfl, rfl, Below.refl _ _⟩
  case round =>
    obtain ⟨i, r, hi, HI, rfl, rfl, hb⟩ := hrel
    have hr256 : r < 256 := by rw [HI.out]; exact klf_lt i
    by_cases hlt : i < t
    · have i2 : (i : Int) < (t : Int) := by omega
      by_cases hge : 256 ≤ r * 2
      · obtain ⟨s0, hs0⟩ : ∃ s, s = r * 2 - 256 := ⟨_, rfl⟩
        have j2 : (256 : Int) ≤ (r : Int) * 2 := by omega
        have HN : Hid (kfs s0 4 = klf (i + 1)) := by
          show _ = knext (klf i)
          rw [← HI.out]
          unfold knext
          rw [if_pos hge, ← hs0]
          rfl
        have j3 : (r : Int) * 2 - 256 = (s0 : Int) := by omega
        have HS0 : Hid (s0 < 512) := by show _ < _; omega
        clear hs0 hge
        go_wp2_with fail
        have HC := hid (fun k => @ps_cell wr k)
        have HB2 := hid (hb.alloc hb.size (.cells #[.int .i64 64, .int .i64 32, .int .i64 16, .int .i64 1] 3))
        generalize (wr.alloc _) = w1 at *
        clear j3 hb
        go_loop [3, 20] (fun u v => ∃ k s : Nat, k ≤ 4 ∧ Hid (s = kfs s0 k) ∧ u = .int .i64 s ∧ v = .int .i64 k) (fun _ v => 4 - (intOf v).toNat)
        case atStart => exact ⟨0, s0, by omega, hid (show s0 = kfs s0 0 from rfl), rfl, rfl⟩
        case round =>
          obtain ⟨k, s, hk, HK, rfl, rfl⟩ := hrel
          have hs : s < 1000 := by
            have := kfs_le HS0.out k hk
            rw [← HK.out] at this
            omega
          by_cases hltk : k < 4
          · have k2 : (k : Int) < 4 := by omega
            have k0 : (0 : Int) ≤ (k : Int) := by omega
            have c0 := HC.out k hltk
            obtain ⟨p, hp⟩ : ∃ p, p = kps.getD k 0 := ⟨_, rfl⟩
            have hpp := kps_pos hltk
            rw [← hp] at c0 hpp
            have p0 : ¬ ((p : Int) = 0) := by omega
            have p1 : (0 : Int) < (p : Int) := by omega
            have HK2 : Hid (kflip s p = kfs s0 (k + 1)) := by
              show _ = kflip _ _
              rw [← HK.out, ← hp]
            clear hp
            obtain ⟨q, hq⟩ : ∃ q, q = s / p := ⟨_, rfl⟩
            have hqs : q ≤ s := by rw [hq]; exact Nat.div_le_self _ _
            have q0 : wrap64 ((s : Int) / (p : Int)) = (q : Int) := by
              rw [show (s : Int) / (p : Int) = (q : Int) by rw [hq, Int.natCast_ediv]]
              unfold wrap64
              omega
            by_cases hbit : q % 2 = 1
            · have q1 : ((q : Int) % 2 == 1) = true := by
                rw [beq_iff_eq]
                omega
              have hsp : p ≤ s := by
                rcases Nat.lt_or_ge s p with h | h
                · rw [Nat.div_eq_of_lt h] at hq
                  omega
                · exact h
              have HK3 : Hid (s - p = kfs s0 (k + 1)) := by
                rw [← HK2.out]
                unfold kflip
                rw [← hq, if_pos hbit]
                exact rfl
              clear hbit hq
              go_wp2
              go_round
              case rel => exact ⟨k + 1, s - p, by omega, HK3, by go_num, by go_num⟩
              case measure => simp [intOf]; omega
            · have q1 : ((q : Int) % 2 == 1) = false := by
                rw [beq_eq_false_iff_ne]
                omega
              have HK3 : Hid (s + p = kfs s0 (k + 1)) := by
                rw [← HK2.out]
                unfold kflip
                rw [← hq, if_neg hbit]
                exact rfl
              clear hbit hq
              go_wp2
              go_round
              case rel => exact ⟨k + 1, s + p, by omega, HK3, by go_num, by go_num⟩
              case measure => simp [intOf]; omega
          · have k2 : decide ((k : Int) < 4) = false := decide_eq_false (by omega)
            have HK4 : Hid (s = klf (i + 1)) := by
              show _ = _
              rw [HK.out, show k = 4 by omega]
              exact HN.out
            go_wp2
            go_roundw
            case rel => exact ⟨i + 1, s, by omega, HK4, rfl, by go_num, HB2.out⟩
            case measure => simp [intOf]; omega
      · have j2 : decide ((256 : Int) ≤ (r : Int) * 2) = false := decide_eq_false (by omega)
        have HN : Hid (r * 2 = klf (i + 1)) := by
          show _ = knext (klf i)
          rw [← HI.out]
          unfold knext
          rw [if_neg hge]
        clear hge
        go_wp2
        go_roundw
        case rel => exact ⟨i + 1, r * 2, by omega, HN, by go_num, by go_num, hb⟩
        case measure => simp [intOf]; omega
    · have i2 : decide ((i : Int) < (t : Int)) = false := decide_eq_false (by omega)
      have hv : ((r : Int).tmod 2 == 1) = B := by
        rw [HB.out]
        unfold krc
        rw [show t = i by omega, ← HI.out, Int.tmod_eq_emod_of_nonneg (by omega), Bool.eq_iff_iff]
        simp only [beq_iff_eq]
        omega
      go_wp2
      go_ret
      exact ⟨ret_bool hv, hb⟩
end Go.Proofs.YteogjnendkbjcaaDoor
