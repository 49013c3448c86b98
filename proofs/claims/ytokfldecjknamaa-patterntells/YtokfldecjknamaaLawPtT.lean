/-
  avouchlaw13.PatternTells returns true, of any list of items and any label: the walk.
-/
import Derived.Test.YtokfldecjknamaaLawPtU
namespace Go.Proofs.Ytokfldecjknamaa
open Go.RowKit
set_option linter.unusedVariables false
set_option linter.unusedSimpArgs false

set_option maxRecDepth 20000 in
set_option maxHeartbeats 4000000 in
theorem patternTells_w (A : Option Addr) (n c : Nat) (l : List IV) (lb : ByteArray) (w : World) (ha : RdV w w.heap.size A n l) (hc : n ≤ c) (hz : ∀ y ∈ l, y.s.size ≤ maxLen ∧ (Lit.int .i64 y.k).wf = true) (hlb : lb.size ≤ maxLen) :
    Calls Try.prog 3 #[.slice A n c, .string lb] w fun e w' => e = .returned (.bool true) ∧ Below w.heap.size w w' := by
  have hs : ∀ y ∈ l, y.s.size ≤ 9223372036854775807 := fun y hy => (hz y hy).1
  have hw : ∀ y ∈ l, wfk y.k := fun y hy => (hz y hy).2
  have hln := ha.len
  have HA := hid ha
  have HS := hid hs
  have HW := hid hw
  clear ha hs hw hz
  go_enter Try.func3, Try.ntmps3
  go_wp2_with fail
  refine (speaks13_c w).mono ?_
  rintro e w1 ⟨rfl, b1⟩
  by_cases hn : 1100 < n
  · have h' : (1100 : Int) < (n : Int) := by omega
    go_wp2_with fail
    refine (speaks13_c w1).mono ?_
    rintro e w2 ⟨rfl, b2⟩
    have b3 := bchain b1 b2
    go_wp2
    go_ret
    exact ⟨rfl, b3⟩
  have h1 : ¬ (1100 : Int) < (n : Int) := by omega
  have HB1 := hid b1
  clear b1
  go_wp2
  go_loopw [30] (fun i wr => ∃ k : Nat, k ≤ n ∧ i = .int .i64 k ∧ Below w.heap.size w wr) (fun i _ => n - (intOf i).toNat)
  case atStart => exact ⟨0, by omega, rfl, HB1.out⟩
  case round =>
    clear HB1
    obtain ⟨k, hk, rfl, hb⟩ := hrel
    by_cases hlt : k < n
    · have hkl : k < l.length := by omega
      obtain ⟨b, off, rfl, hbB, hc⟩ := (HA.out.below hb (Nat.le_refl _)).at_ hlt
      obtain ⟨x, hx⟩ : ∃ x, x = l[k]'hkl := ⟨_, rfl⟩
      rw [← hx] at hc
      have hxs : x.s.size ≤ 9223372036854775807 := HS.out x (by rw [hx]; exact List.getElem_mem _)
      have HR : Hid (wr.rangeAt b (off + k * 4) [.int .i64 x.k, .int .i64 x.t, .int .i64 x.c, .string x.s]) := hc
      have b2 : Below wr.heap.size wr (wr.alloc (.cells #[.int .i64 x.k, .int .i64 x.t, .int .i64 x.c, .string x.s] 25)) := (Below.refl _ _).alloc (Nat.le_refl _) _
      have HB2 := hid (hb.trans (b2.mono hb.size))
      have k0 : (0 : Int) ≤ (k : Int) := by omega
      have k1 : (k : Int) < (n : Int) := by omega
      clear hc hx hb b2
      by_cases h4 : 400 < x.s.size
      · have h' : (400 : Int) < (x.s.size : Int) := by omega
        go_wp2_with (first
          | fail
          | refine wpList_load_mid rfl 25 (.tmp 32) rfl b (off + k * 4) rfl [.int .i64 x.k, .int .i64 x.t, .int .i64 x.c, .string x.s] _ (by with_reducible exact HR.out) Try.underlying25 rfl sizeR4 ?_)
        go_ret
        exact ⟨rfl, HB2.out⟩
      · have h' : ¬ (400 : Int) < (x.s.size : Int) := by omega
        go_wp2_with (first
          | fail
          | refine wpList_load_mid rfl 25 (.tmp 32) rfl b (off + k * 4) rfl [.int .i64 x.k, .int .i64 x.t, .int .i64 x.c, .string x.s] _ (by with_reducible exact HR.out) Try.underlying25 rfl sizeR4 ?_)
        go_roundw
        case rel => exact ⟨k + 1, by omega, by go_num, HB2.out⟩
        case measure => simp [intOf]; omega
    · obtain rfl : k = n := by omega
      have C := ofs_c A _ c l wr (HA.out.below hb (Nat.le_refl _)) hb.size (by omega)
      have b1 := hb
      clear hb
      go_wp2_with fail
      refine C.mono ?_
      rintro e w2 ⟨v2, rfl, O2, b2⟩
      have b2 := b1.trans (b2.mono b1.size)
      obtain ⟨AX, cX, hv, hcX, rX, _⟩ := O2.rd
      rw [hln] at hv hcX rX
      subst hv
      have C := ser_c AX _ cX l w2 rX (Nat.le_refl _) (by omega) HS.out
      clear b1 O2
      go_wp2_with fail
      refine C.mono ?_
      rintro e w3 ⟨i, AS, mS, cS, hi, rfl, rS, hcS, b3⟩
      have rX := rX.up b3 (Nat.le_refl _)
      have b3 := b2.trans (b3.mono b2.size)
      have C := rser_c A _ c l w3 (HA.out.below b3 (Nat.le_refl _)) b3.size (by omega) HS.out
      clear b2
      go_wp2_with fail
      refine C.mono ?_
      rintro e w4 ⟨j, AT, mT, cT, hj, rfl, rT, hcT, b4⟩
      obtain rfl := hj.uniq hi
      have rS := rS.up b4 (Nat.le_refl _)
      have rX := rX.up b4 (Nat.le_refl _)
      have b4 := b3.trans (b4.mono b3.size)
      have V1 := conv_s rS cS
      have V2 := conv_s rT cT
      have EE : ((sb (sB l j)).toList == (sb (sB l j)).toList) = true := by simp
      have C := total_c AX _ cX l w4 rX (Nat.le_refl _) (by omega) HW.out
      clear b3 rS rT hi hj
      go_wp2_with fail
      refine C.mono ?_
      rintro e w5 ⟨rfl, b5⟩
      have rX := rX.up b5 (Nat.le_refl _)
      have b5 := b4.trans (b5.mono b4.size)
      have C := find_c AX _ cX l lb w5 rX (Nat.le_refl _) (by omega)
      clear b4 V1 V2 EE
      go_wp2_with fail
      refine C.mono ?_
      rintro e w6 ⟨rfl, b6⟩
      have b6 := b5.trans (b6.mono b5.size)
      have C := rfind_c A _ c l lb w6 (HA.out.below b6 (Nat.le_refl _)) (by omega)
      clear b5 rX
      go_wp2_with fail
      refine C.mono ?_
      rintro e w7 ⟨rfl, rfl⟩
      have C1 := rtotal_c A _ c l 1 w7 (HA.out.below b6 (Nat.le_refl _)) (by omega)
      have C2 := rtotal_c A _ c l 2 w7 (HA.out.below b6 (Nat.le_refl _)) (by omega)
      clear C
      go_wp2_with fail
      refine C1.mono ?_
      rintro e w8 ⟨rfl, rfl⟩
      clear C1
      go_wp2_with fail
      refine C2.mono ?_
      rintro e w9 ⟨rfl, rfl⟩
      clear C2
      go_wp2
      go_ret
      exact ⟨rfl, b6⟩
end Go.Proofs.Ytokfldecjknamaa
