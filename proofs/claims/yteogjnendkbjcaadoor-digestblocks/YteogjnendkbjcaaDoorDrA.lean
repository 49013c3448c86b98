/-
  avouchref07.xor and Pad: what each call does.
-/
import Derived.Test.YteogjnendkbjcaaDoorDhA
import Derived.Test.YteogjnendkbjcaaDoorDhB
namespace Go.Proofs.YteogjnendkbjcaaDoor
open Go.RowKit
set_option linter.unusedVariables false

set_option maxRecDepth 20000 in
set_option maxHeartbeats 1000000 in
theorem xor7_c (a b : Nat) (w : World) (ha : a < 256) (hb : b < 256) :
    Calls Tryd.prog 16 #[.int .u8 (a : Int), .int .u8 (b : Int)] w fun e w' => e = .returned (.int .u8 ((a ^^^ b : Nat) : Int)) ∧ w' = w := by
  obtain ⟨X, hX⟩ : ∃ x, x = a ^^^ b := ⟨_, rfl⟩
  rw [← hX]
  have HX := hid hX
  have HL := hid (show X < 256 by rw [hX]; exact xor8_lt ha hb)
  clear hX
  go_enter Tryd.func16, Tryd.ntmps16
  go_wp2
  go_loopw [5, 6, 7, 8, 9] (fun o n x y i wr => ∃ k O N U V : Nat, k ≤ 8 ∧ Hid (O = X % 2 ^ k) ∧ Hid (N = 2 ^ k) ∧ Hid (U = a / 2 ^ k) ∧ Hid (V = b / 2 ^ k) ∧ o = .int .i64 (O : Int) ∧ n = .int .i64 (N : Int) ∧ x = .int .i64 (U : Int) ∧ y = .int .i64 (V : Int) ∧ i = .int .i64 (k : Int) ∧ wr = w) (fun _ _ _ _ i _ => 8 - (intOf i).toNat)
  case atStart => exact ⟨0, 0, 1, a, b, Nat.zero_le _, hid (show 0 = X % 2 ^ 0 by rw [Nat.pow_zero, Nat.mod_one]), hid (show 1 = 2 ^ 0 from rfl), hid (show a = a / 2 ^ 0 by rw [Nat.pow_zero, Nat.div_one]), hid (show b = b / 2 ^ 0 by rw [Nat.pow_zero, Nat.div_one]), rfl, rfl, by go_num, by go_num, rfl, rfl⟩
  case round =>
    obtain ⟨k, O, N, U, V, hk, HO, HN, HU, HV, rfl, rfl, rfl, rfl, rfl, rfl⟩ := hrel
    by_cases hlt : k < 8
    · have i2 : (k : Int) < 8 := by omega
      have hN : N ≤ 128 := by
        have key : ∀ k : Fin 8, 2 ^ k.val ≤ 128 := by decide
        rw [HN.out]; exact key ⟨k, hlt⟩
      have hO : O < 256 := by rw [HO.out]; exact Nat.lt_of_le_of_lt (Nat.mod_le _ _) HL.out
      have hU : U < 256 := by rw [HU.out]; exact Nat.lt_of_le_of_lt (Nat.div_le_self _ _) ha
      have hV : V < 256 := by rw [HV.out]; exact Nat.lt_of_le_of_lt (Nat.div_le_self _ _) hb
      have HS : Hid (X % 2 ^ (k + 1) = O + if U % 2 = V % 2 then 0 else N) := by
        show _ = _
        rw [HX.out, xor_bit_step, ← HX.out, ← HO.out, ← HU.out, ← HV.out, ← HN.out]
      have HN2 : Hid (N * 2 = 2 ^ (k + 1)) := by show _ = _; rw [Nat.pow_succ, ← HN.out]
      have HU2 : Hid (U / 2 = a / 2 ^ (k + 1)) := by show _ = _; rw [Nat.pow_succ, ← Nat.div_div_eq_div_mul, ← HU.out]
      have HV2 : Hid (V / 2 = b / 2 ^ (k + 1)) := by show _ = _; rw [Nat.pow_succ, ← Nat.div_div_eq_div_mul, ← HV.out]
      clear HO HN HU HV
      by_cases c : U % 2 = V % 2
      · have HS2 : Hid (O = X % 2 ^ (k + 1)) := by show _ = _; rw [HS.out, if_pos c, Nat.add_zero]
        have c1 : ((U : Int) % 2) = ((V : Int) % 2) := by omega
        clear HS c
        go_wp2
        go_roundw
        case rel => exact ⟨k + 1, O, N * 2, U / 2, V / 2, by omega, HS2, HN2, HU2, HV2, by go_num, by go_num, by go_num, by go_num, by go_num, trivial⟩
        case measure => simp [intOf]; omega
      · have HS2 : Hid (O + N = X % 2 ^ (k + 1)) := by show _ = _; rw [HS.out, if_neg c]
        have c1 : ¬ ((U : Int) % 2) = ((V : Int) % 2) := by omega
        clear HS c
        go_wp2
        go_roundw
        case rel => exact ⟨k + 1, O + N, N * 2, U / 2, V / 2, by omega, HS2, HN2, HU2, HV2, by go_num, by go_num, by go_num, by go_num, by go_num, trivial⟩
        case measure => simp [intOf]; omega
    · have HE : Hid (O = X) := by
        show _ = _
        rw [HO.out, show k = 8 by omega]
        exact Nat.mod_eq_of_lt HL.out
      have i2 : ¬ (k : Int) < 8 := by omega
      clear HO HN HU HV
      go_wp2
      go_ret
      exact ⟨congrArg (fun z => Ending.returned (Value.int .u8 z)) (by have := HL.out; have := HE.out; omega), rfl⟩

/-- How long a slice is. -/
def slen : Value → Nat
  | .slice _ k _ => k
  | _ => 0
theorem pad_full {n j : Nat} (h : (n + 1 + j) % 136 = 0) (hj : n + 1 + j ≤ padN n) : n + 1 + j = padN n := by unfold padN at *; omega
theorem pad_more {n j : Nat} (h : (n + 1 + j) % 136 ≠ 0) (hj : n + 1 + j ≤ padN n) : n + 1 + (j + 1) ≤ padN n := by unfold padN at *; omega

set_option maxRecDepth 20000 in
set_option maxHeartbeats 1000000 in
theorem pad_c (A : Option Addr) (n c : Nat) (b : List Nat) (w : World) (ha : Rd8 w w.heap.size A n b) (hn : n ≤ 700) :
    Calls Tryd.prog 12 #[.slice A n c] w fun e w' => ∃ v, e = .returned v ∧ OwnB w' w.heap.size v (padB b) ∧ Below w.heap.size w w' := by
  have O0 := hid (ownB_empty w)
  have HB := hid ((Below.refl w.heap.size w).alloc (Nat.le_refl _) (.cells #[] 5))
  have ha1 := ha.below HB.out (Nat.le_refl _)
  have HA := hid ha
  have hl1 : (([] : List Nat).length + n) ≤ 1000000 := by simp; omega
  have hs1 : w.heap.size ≤ (w.alloc (.cells #[] 5)).heap.size := by simp
  clear ha
  go_enter Tryd.func12, Tryd.ntmps12
  go_wp2_with (at_builtin; refine append_rd rfl (.tmp 4) (.tmp 5) rfl w.heap.size _ [] rfl O0.out A n c w.heap.size b ha1 rfl hl1 hs1 ?_)
  intro v1 w1 hown1 hb1
  have hb2 := HB.out.trans hb1
  have hl2 : b.length ≤ 100000 := by rw [HA.out.len]; omega
  have hs2 : w.heap.size ≤ w1.heap.size := hb2.size
  have HB2 := hid hb2
  clear hb2 hb1 ha1 O0 HB hl1 hs1
  go_wp2_with (at_builtin; refine append_byte rfl (.tmp 6) (.tmp 7) rfl w.heap.size _ b rfl hown1 _ 6 ?e1 ?e2 rfl hl2 hs2 ?_)
  case e1 => rfl
  case e2 => decide
  intro v2 w2 hown2 hb2
  have R0 := hid (show ∃ j, b.length + 1 + j ≤ padN b.length ∧ OwnB w2 w.heap.size v2 (padS b j) ∧ Below w.heap.size w w2 from ⟨0, by have := padN_gt b.length; omega, by unfold padS; simpa using hown2, HB2.out.trans hb2⟩)
  have HN : Hid (b.length = n) := HA.out.len
  clear hown1 hown2 hb2 HB2 hl2 hs2
  go_wp2
  go_loopw [3] (fun v wr => ∃ j, b.length + 1 + j ≤ padN b.length ∧ OwnB wr w.heap.size v (padS b j) ∧ Below w.heap.size w wr) (fun v _ => padN b.length - slen v)
  case atStart => exact R0.out
  case round =>
    clear R0
    obtain ⟨j, hj, hown, hbl⟩ := hrel
    have hs3 : w.heap.size ≤ wr.heap.size := hbl.size
    obtain ⟨g, cap, hv, hbg, hcap, hgs, hfz, hcell, hset⟩ := hown.open_ (by rw [padS_len]; omega)
    obtain ⟨m, hm⟩ : ∃ m, m = (padS b j).length := ⟨_, rfl⟩
    have HM : Hid (m = b.length + 1 + j) := by show _ = _; rw [hm, padS_len]
    have hm7 : m ≤ 1000 := by rw [HM.out]; have := HN.out; unfold padN at hj; omega
    have hl3 : (padS b j).length ≤ 100000 := by omega
    rw [← hm] at hv
    subst hv
    by_cases hz : m % 136 = 0
    · have hfull := pad_full (n := b.length) (j := j) (by rw [← HM.out]; exact hz) hj
      obtain ⟨p, hp⟩ : ∃ p, m = p + 1 := ⟨m - 1, by have := HM.out; omega⟩
      have HP : Hid (p = padN b.length - 1) := by show _ = _; have := HM.out; omega
      obtain ⟨x, hx⟩ : ∃ x, x = (padS b j).getD p 0 := ⟨_, rfl⟩
      have hx6 : x ≤ 6 := by
        rw [hx, padS_at b (by have := HM.out; omega), if_neg (by have := HM.out; omega)]
        split <;> omega
      have c0 := hcell p (by omega)
      have f0 := hfz p
      have hown3 := hset p (x + 128) (by omega) (by omega)
      rw [show (padS b j).set p (x + 128) = padB b by rw [hx, HP.out]; exact padS_end b hfull] at hown3
      rw [show at64 (padS b j) p = (x : Int) by rw [hx]; rfl] at c0
      have HO := hid hown3
      have HB3 := hid (hbl.setCell (p := ⟨g, p, none⟩) hbg (.int .u8 ((x + 128 : Nat) : Int)))
      have z1 : ((m : Int) % 136) = 0 := by omega
      have z2 : ((m : Int) - 1) = (p : Int) := by omega
      have z3 : (0 : Int) ≤ (p : Int) := by omega
      have z4 : (p : Int) < (m : Int) := by omega
      have z5 : (x : Int) ≤ 6 := by omega
      clear hown hown3 hcell hfz hset hfull hx hp hm hl3 hbl hz
      go_wp2
      go_ret
      exact ⟨_, rfl, HO.out, HB3.out⟩
    · have hmore := pad_more (n := b.length) (j := j) (by rw [← HM.out]; exact hz) hj
      have z1 : ¬ ((m : Int) % 136) = 0 := by omega
      clear hcell hfz hset
      go_wp2_with (at_builtin; refine append_byte rfl (.tmp 13) (.tmp 14) rfl w.heap.size _ (padS b j) rfl hown _ 0 ?e1 ?e2 rfl hl3 hs3 ?_)
      case e1 => rfl
      case e2 => decide
      intro v' w' hown' hb'
      rw [padS_succ] at hown'
      have hb2 := hbl.trans hb'
      have HSL : Hid (slen v' = m + 1) := by
        obtain ⟨A', c', rfl, _⟩ := hown'.rd
        show (padS b (j + 1)).length = _
        rw [padS_len, HM.out]
        omega
      go_wp2
      go_roundw
      case rel => exact ⟨j + 1, hmore, hown', hb2⟩
      case measure =>
        have h1 := HSL.out
        have h2 := HM.out
        simp only [slen] at *
        omega
end Go.Proofs.YteogjnendkbjcaaDoor
