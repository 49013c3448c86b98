/-
  avouchlaw07.DigestPieces: the walk.
-/
import Derived.Test.YteogjnendkbjcaaDoorDhI
namespace Go.Proofs.YteogjnendkbjcaaDoor
open Go.RowKit
set_option linter.unusedVariables false
set_option linter.unusedSimpArgs false

/-- What is kept: the hash of what was taken, the row of the same bytes. -/
structure EnvDP (w : World) (p : Nat) (M : List Nat) (va : Value) (v : World) : Prop where
  h : HashM v p M
  o : OwnB v (p + 1) va M
  b : Below w.heap.size w v
theorem EnvDP.up {w : World} {p : Nat} {M : List Nat} {va : Value} {v v' : World} (h : EnvDP w p M va v) (hb : Below v.heap.size v v') : EnvDP w p M va v' := ⟨h.h.up hb, (Only.of hb).own h.o, bchain h.b hb⟩

set_option maxRecDepth 100000 in
set_option maxHeartbeats 4000000 in
theorem digestPieces_w (A : Option Addr) (n c : Nat) (ls : List (List Nat)) (w : World) (ha : RdP w w.heap.size A n ls) (hG : GlobK w) :
    Calls Tryd.prog 4 #[.slice A n c] w fun e w' => e = .returned (.bool true) ∧ Below w.heap.size w w' := by
  have HA := hid ha
  have HG := hid hG
  have HLN := hid ha.len
  have HGS := hid hG.size
  clear ha hG
  by_cases hbig : 20 < n
  · have i1 : (20 : Int) < (n : Int) := by omega
    clear hbig
    go_enter Tryd.func4, Tryd.ntmps4
    go_wp2_with fail
    refine (speaks7_c w HG.out).mono ?_
    rintro e w1 ⟨rfl, b1⟩
    go_wp2_with fail
    refine (speaks7_c w1 (HG.out.up b1)).mono ?_
    rintro e w2 ⟨rfl, b2⟩
    go_wp2
    go_ret
    exact ⟨rfl, bchain b1 b2⟩
  · have i1 : decide ((20 : Int) < (n : Int)) = false := decide_eq_false (by omega)
    have hn := (show n ≤ 20 by omega)
    clear hbig
    go_enter Tryd.func4, Tryd.ntmps4
    go_wp2_with fail
    refine (speaks7_c w HG.out).mono ?_
    rintro e w1 ⟨rfl, b1⟩
    have hzh := zeroH
    have hlh := zH_len
    have E0 : Hid (EnvDP w w1.heap.size [] (.slice none 0 0) (w1.alloc (.cells zH.toArray 35))) := ⟨zH_new w1, ownB_nil _ _, bchain b1 ((Below.refl _ _).alloc (Nat.le_refl _) _)⟩
    have LP := hid b1.size
    clear b1
    go_wp2
    clear hzh hlh
    generalize w1.alloc _ = w2 at *
    generalize w1.heap.size = p at *
    go_loopw [4, 17] (fun va i wr => ∃ k : Nat, k ≤ n ∧ i = .int .i64 (k : Int) ∧ EnvDP w p (ls.take k).flatten va wr ∧ Hid ((ls.take k).flatten.length ≤ 300 * k)) (fun _ i _ => n - (intOf i).toNat)
    case atStart => exact ⟨0, Nat.zero_le _, rfl, E0.out, hid (Nat.le_refl _)⟩
    case round =>
      clear E0
      obtain ⟨k, hk, rfl, hE, HB⟩ := hrel
      by_cases hlt : k < n
      · have i2 : (k : Int) < (n : Int) := by omega
        have i3 : (k : Int) < 20 := by omega
        have hP := HA.out.below hE.b (Nat.le_refl _)
        obtain ⟨ba, oa, rfl, hba, hcc⟩ := hP.cells (by omega)
        obtain ⟨Ar, Lr, Cr, c0, hLC, hr⟩ := hcc k hlt
        have HFS := hid (flat_succ (ls := ls) (k := k) (by rw [HLN.out]; exact hlt))
        generalize ls.getD k [] = s at *
        generalize (ls.take k).flatten = M at *
        have HE := hid hE
        have HR := hid hr
        have HLC := hid hLC
        have HK := hid hlt
        clear hE hP hcc hr hba hLC
        by_cases hlong : 300 < Lr
        · have i4 : (300 : Int) < (Lr : Int) := by omega
          clear hlong
          go_wp2
          go_ret
          exact ⟨rfl, HE.out.b⟩
        · have i4 : ¬ (300 : Int) < (Lr : Int) := by omega
          have HL3 := hid (show Lr ≤ 300 by omega)
          clear hlong
          go_wp2_with fail
          refine (write_c7 Ar Lr Cr p M s wr HLC.out (HR.out.more LP.out) HE.out.h (HG.out.up HE.out.b) ⟨by have := HGS.out; have := LP.out; omega, by have := HGS.out; have := LP.out; omega⟩).mono ?_
          rintro e w3 ⟨rfl, hm3, ho3⟩
          have hb3 : Below w.heap.size w w3 := HE.out.b.trans (ho3.below LP.out HE.out.b.size)
          have hr3 := (HR.out.below (ho3.below LP.out HE.out.b.size) (Nat.le_refl _))
          have hown3 := ho3.own HE.out.o
          have hs3 : p + 1 ≤ w3.heap.size := hm3.size
          have hl3 : M.length + Lr ≤ 1000000 := by have h1 := HB.out; have h2 := HL3.out; have h3 := HK.out; omega
          have HM3 := hid hm3
          have HB3 := hid hb3
          clear hm3 ho3 hb3 HR HE
          go_wp2_with (at_builtin; refine append_rd rfl (.tmp 26) (.tmp 27) rfl (p + 1) _ M rfl hown3 Ar Lr Cr w.heap.size s hr3 rfl hl3 hs3 ?_)
          intro v4 w4 hown4 hb4
          have E4 : EnvDP w p (M ++ s) v4 w4 := ⟨⟨HM3.out.h.below hb4 (Nat.lt_succ_self _), HM3.out.lt⟩, hown4, HB3.out.trans (hb4.mono (Nat.le_trans LP.out (Nat.le_succ _)))⟩
          have HB4 : Hid ((ls.take (k + 1)).flatten.length ≤ 300 * (k + 1)) := by
            show _ ≤ _
            rw [HFS.out, List.length_append, hr3.len]
            have h1 := HB.out
            have h2 := HL3.out
            omega
          obtain ⟨A4, c4, rfl, hc4, hr4⟩ := hown4.rd
          have HRR := hid hr4
          have HC4 := hid hc4
          have HE4 := hid E4
          clear hown4 hb4 hown3 hr3 hs3 hl3 HM3 HB3 E4 hc4 hr4
          obtain ⟨D, hD⟩ : ∃ D, D = dig (M ++ s) := ⟨_, rfl⟩
          have HD := hid hD
          have q1 : ∀ v, (Op.equalIn 10000 24 (.agg (cells8 D).toArray) (.agg (cells8 D).toArray)).run Tryd.prog v = .ok true v := fun v => same_32 v (by rw [hD]; exact dig_len _)
          clear hD
          rw [← HFS.out] at HE4 HD HRR HC4 ⊢
          generalize hM1 : (ls.take (k + 1)).flatten = M1 at *
          have HM1 := hid hM1
          clear hM1
          go_wp2_with fail
          refine (hsum_c _ _ w4 HE4.out.h (HG.out.up HE4.out.b)).mono ?_
          rintro e w5 ⟨rfl, b5⟩
          rw [← HD.out]
          have E5 := hid (HE4.out.up b5)
          have P5 := hid (RdP.one 22 (HRR.out.up b5 (Nat.le_refl _)) HC4.out)
          have E6 := hid (E5.out.up ((Below.refl w5.heap.size w5).alloc (Nat.le_refl _) (.cells #[.slice A4 M1.length c4] 22)))
          clear b5 HE4 HRR E5
          go_wp2_with fail
          refine (dsum_c _ 1 1 [M1] _ P5.out (by decide) (HG.out.up E6.out.b)).mono ?_
          rintro e w7 ⟨rfl, b7⟩
          rw [show [M1].flatten = M1 by simp, ← HD.out]
          have E7 := hid (E6.out.up b7)
          clear b7 E6 P5
          go_wp2_with fail
          refine (hsum_c _ _ w7 E7.out.h (HG.out.up E7.out.b)).mono ?_
          rintro e w8 ⟨rfl, b8⟩
          rw [← HD.out]
          have E8 := hid (E7.out.up b8)
          clear b8 E7
          go_wp2_with fail
          refine (hsum_c _ _ w8 E8.out.h (HG.out.up E8.out.b)).mono ?_
          rintro e w9 ⟨rfl, b9⟩
          rw [← HD.out]
          have E9 := hid (E8.out.up b9)
          clear b9 E8
          go_wp2
          go_roundw
          case rel => exact ⟨k + 1, by omega, by go_num, by rw [HM1.out]; exact E9.out, by rw [HM1.out]; exact HB4⟩
          case measure => simp [intOf]; omega
      · have i2 : ¬ (k : Int) < (n : Int) := by omega
        have hkn : k = n := by omega
        rw [hkn, List.take_of_length_le (by rw [HLN.out]; exact Nat.le_refl _)] at hE
        obtain ⟨D, hD⟩ : ∃ D, D = dig ls.flatten := ⟨_, rfl⟩
        have HD := hid hD
        have q1 : ∀ v, (Op.equalIn 10000 24 (.agg (cells8 D).toArray) (.agg (cells8 D).toArray)).run Tryd.prog v = .ok true v := fun v => same_32 v (by rw [hD]; exact dig_len _)
        obtain ⟨A4, c4, rfl, hc4, hr4⟩ := hE.o.rd
        have HE := hid hE
        obtain ⟨ln, hln⟩ : ∃ x, x = ls.flatten.length := ⟨_, rfl⟩
        rw [← hln] at hr4 hc4 HE ⊢
        have HRR := hid hr4
        have HC4 := hid hc4
        clear hln hD hE hkn hr4 hc4 HB
        go_wp2_with fail
        refine (dsum_c A n c ls wr (HA.out.below HE.out.b (Nat.le_refl _) |>.more HE.out.b.size) (by omega) (HG.out.up HE.out.b)).mono ?_
        rintro e w5 ⟨rfl, b5⟩
        rw [← HD.out]
        have E5 := hid (HE.out.up b5)
        have P5 := hid (RdP.one 22 (HRR.out.up b5 (Nat.le_refl _)) HC4.out)
        have E6 := hid (E5.out.up ((Below.refl w5.heap.size w5).alloc (Nat.le_refl _) (.cells #[.slice A4 ln c4] 22)))
        clear b5 HE HRR E5
        generalize ls.flatten = M1 at *
        go_wp2_with fail
        refine (dsum_c _ 1 1 [M1] _ P5.out (by decide) (HG.out.up E6.out.b)).mono ?_
        rintro e w7 ⟨rfl, b7⟩
        rw [show [M1].flatten = M1 by simp, ← HD.out]
        have E7 := hid (E6.out.up b7)
        clear b7 E6 P5
        go_wp2
        go_ret
        exact ⟨rfl, E7.out.b⟩
end Go.Proofs.YteogjnendkbjcaaDoor
