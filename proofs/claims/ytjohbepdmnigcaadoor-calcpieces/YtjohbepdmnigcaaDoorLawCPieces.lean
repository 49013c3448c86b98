/-
  avouchlaw03.CalcPieces: the walk.
-/
import Derived.Test.YtjohbepdmnigcaaDoorCalM
namespace Go.Proofs.YtjohbepdmnigcaaDoor
open Go.RowKit
set_option linter.unusedVariables false

set_option maxRecDepth 100000 in
set_option maxHeartbeats 8000000 in
theorem calcPieces_w (A0 : Option Addr) (n0 c0 : Nat) (st : List St) (A1 : Option Addr) (n1 c1 : Nat) (l : List Nat) (v : Nat) (w : World) (s0 : RdS w w.heap.size A0 n0 st) (r0 : Rd w w.heap.size A1 n1 l) (hv : v < 256) (hG : Gc w.heap.size w) :
    Calls Tryd.prog 4 #[.slice A0 n0 c0, .slice A1 n1 c1, .int .u8 (v : Int)] w fun e w' => e = .returned (.bool true) ∧ Below w.heap.size w w' := by
  by_cases g0 : n0 ≤ 60 ∧ n1 ≤ 64
  · obtain ⟨g1, g2⟩ := g0
    obtain ⟨k, hk⟩ : ∃ k, k = v % (n0 + 1) := ⟨_, rfl⟩
    have hkn : k ≤ n0 := by rw [hk]; exact Nat.le_of_lt_succ (Nat.mod_lt v (Nat.succ_pos n0))
    have x1 : IntKind.i64.wrap (v : Int) = (v : Int) := by rw [IntKind.wrap_i64]; omega
    have x2 : (v : Int).tmod ((n0 : Int) + 1) = (k : Int) := by rw [Int.tmod_eq_emod_of_nonneg (by omega), hk]; exact_mod_cast (Int.natCast_emod v (n0 + 1)).symm
    have x3 : (((n0 : Int) + 1) == 0) = false := by simp; omega
    have x4 : ((n0 : Int) + 1) ≠ 0 := by omega
    clear hk
    have d1 : decide ((60 : Int) < (n0 : Int)) = false := decide_eq_false (by omega)
    have d2 : decide ((64 : Int) < (n1 : Int)) = false := decide_eq_false (by omega)
    go_enter Tryd.func4, Tryd.ntmps4
    go_wp2_with fail
    refine (speaks3_c w hG).mono ?_
    rintro e w1 ⟨rfl, hb1⟩
    have hG1 := (hG.below hb1).more hb1.size
    have r1 := r0.up hb1 (Nat.le_refl _)
    have s1 := s0.up hb1 (Nat.le_refl _)
    go_wp2_with fail
    refine (first_c A1 n1 c1 l w1 r1 (by omega) hG1.g).mono ?_
    rintro e w2 ⟨va, vb, rfl, hP2, hD2, hb2⟩
    obtain ⟨Aa, ca, hva, hca, hcm, hRE⟩ := hP2.form
    rw [r0.len] at hva hca hRE
    subst hva
    have hb02 := hb1.trans (hb2.mono hb1.size)
    have s2 := s1.up hb2 (Nat.le_refl _)
    have hP := hP2.mono hb1.size
    clear hD2 r1 hP2 s1 hG1 d1 d2
    go_wp2_with fail
    refine (of_c A0 n0 c0 st w2 s2 (by omega)).mono ?_
    rintro e w3 ⟨vo, rfl, hO3, hb3⟩
    have hb03 := hb02.trans (hb3.mono hb02.size)
    have hP3 := hP.below hb3
    have hRE3 := (hRE.below hb3 (Nat.le_refl _)).more hb3.size
    have hG3 := (hG.below hb03).more hb03.size
    have hl0 := s0.len
    obtain ⟨Ao, co, hvo, hco, hcmo, hSo⟩ := hO3.rd
    obtain ⟨A2, c2, hcut, hS2⟩ := cutS_own hO3 k (by rw [hl0]; exact hkn)
    have hS1 := hSo.take k (by rw [hl0]; exact hkn)
    rw [hl0] at hvo hco hSo hcut hS2
    subst hvo
    have hxl : l.length ≤ 64 := by rw [r0.len]; exact g2
    have hpc := pieces st k l hxl (by rw [hl0]; exact hkn)
    have y1 : (k : Int) ≤ (co : Int) := by omega
    have y0 : (0 : Int) ≤ (k : Int) := by omega
    clear hO3 hb3 hP hRE hb02 s2 hb1 hb2 x1 x2 x3 x4 hl0
    rcases hpc with ⟨zs, p, er, her, hq1, hq2⟩ | ⟨ys, zs, er, hq1, hyl, hq2, hq3⟩ | ⟨ys, zs, m, er, hq1, hyl, hml, hq2, hq3⟩
    · have her0 : ((er : Int) == 0) = false := by simp; exact her
      have hzl := runA_len64 hq2
      go_wp2_with fail
      refine (run_c Ao Aa n0 co n1 ca st l w3 hSo (by omega) hRE3 (by omega) hG3 zs p er hq2).mono ?_
      rintro e w4 ⟨vW, rfl, hW4, hb4⟩
      have hb04 := hb03.trans (hb4.mono hb03.size)
      have hG4 := (hG.below hb04).more hb04.size
      have hS1' := hS1.up hb4 (Nat.le_refl _)
      have hRE4 := (hRE3.below hb4 (Nat.le_refl _)).more hb4.size
      have hP4 := hP3.below hb4
      have hW := hW4.mono hb03.size
      clear hW4 hSo hRE3 hG3 hP3
      go_wp2_with fail
      refine (run_c Ao Aa k co n1 ca _ l w4 hS1' (by omega) hRE4 (by omega) hG4 zs p er hq1).mono ?_
      rintro e w5 ⟨vH, rfl, hH5, hb5⟩
      have hb05 := hb04.trans (hb5.mono hb04.size)
      have hE : EnvC w w5 (.slice Aa n1 ca) vW vH l zs := ⟨hP4.below hb5, hW.below hb5, hH5.mono hb04.size, hb05⟩
      clear hP4 hW hH5 hb4 hb5 hb04 hS1 hS1' hRE4 hG4 hb03 hb05 hS2 hcut hq1 hq2 s0
      obtain ⟨AW, cW, hvW, hcW, -, -⟩ := hE.x.form
      obtain ⟨AH, cH, hvH, hcH, -, -⟩ := hE.y.form
      subst hvW
      subst hvH
      obtain ⟨nz, hnz⟩ : ∃ x, x = zs.length := ⟨_, rfl⟩
      rw [← hnz] at hE hcW hcH hzl ⊢
      have HNz := hid hnz
      clear hnz
      go_wp2
      go_loopw [95] (fun i wr => ∃ j : Nat, j ≤ nz ∧ i = .int .i64 j ∧ EnvC w wr (.slice Aa n1 ca) (.slice AW nz cW) (.slice AH nz cH) l zs) (fun i _ => nz - (intOf i).toNat)
      case atStart => exact ⟨0, by omega, rfl, hE⟩
      case round =>
        obtain ⟨j, hj, rfl, hR⟩ := hrel
        by_cases hjl : j < nz
        · have j0 : (0 : Int) ≤ (j : Int) := by omega
          have j1 : (j : Int) < (nz : Int) := by omega
          have hjx : j < zs.length := by rw [← HNz.out]; exact hjl
          obtain ⟨gW, rfl, a0, a1, a2, a3, ea, ca0, ca1, ca2, ca3⟩ := hR.x.el_at j hjx
          obtain ⟨gH, rfl, b0, b1, b2, b3, eb, cb0, cb1, cb2, cb3⟩ := hR.y.el_at j hjx
          have HEa := hid ea
          have HEb := hid eb
          have HR := hid hR
          clear ea eb hR hE
          go_wp2_with fail
          go_region_with (
            (go_at_call 13
             refine (eequal_c _ _ _ _ _ HEa.out HEb.out).mono ?_
             rintro e w6 ⟨rfl, hb6⟩
             rw [decide_eq_true rfl]
             have hb7 : Below wr.heap.size wr w6 := Below.trans ((Below.refl _ wr).drew) hb6
             have HRk := hid (HR.out.up hb7)
             clear hb6 hb7))
          all_goals
            clear ca0 ca1 ca2 ca3 cb0 cb1 cb2 cb3 HEa HEb HR
            go_wp2
            go_roundw
            case rel => exact ⟨j + 1, by omega, by go_num, HRk.out⟩
            case measure => simp [intOf]; omega
        · have hjn : j = nz := by omega
          subst hjn
          obtain ⟨w7, hw7⟩ : ∃ x, x = wr := ⟨wr, rfl⟩
          rw [← hw7] at hR ⊢
          clear hw7 hE
          go_wp2
          go_loopw [111] (fun i wr => ∃ i' : Nat, i' ≤ n1 ∧ i = .int .i64 i' ∧ EnvC w wr (.slice Aa n1 ca) (.slice AW j cW) (.slice AH j cH) l zs) (fun i _ => n1 - (intOf i).toNat)
          case atStart => exact ⟨0, by omega, rfl, hR⟩
          case round =>
            obtain ⟨i, hi, rfl, hQ⟩ := hrel
            by_cases hil : i < n1
            · have ra := r0.below hQ.b (Nat.le_refl _)
              obtain ⟨ba, oa, rfl, hba, hcx⟩ := ra.at_ hil
              have hix : i < l.length := by rw [r0.len]; exact hil
              obtain ⟨gA, rfl, a0, a1, a2, a3, ea, ca0, ca1, ca2, ca3⟩ := hQ.a.el_at i hix
              obtain ⟨x, hx⟩ : ∃ x, x = l.getD i 0 := ⟨_, rfl⟩
              rw [← hx] at ea
              have hx64 : x < 18446744073709551616 := by
                have := at64_lt r0.lt i
                unfold at64 at this
                rw [← hx] at this
                omega
              have hca2 : wr.cell? ⟨ba, oa + i, none⟩ = some (.int .u64 ((x : Nat) : Int)) := by rw [hcx]; unfold at64; rw [hx]
              have i0 : (0 : Int) ≤ (i : Int) := by omega
              have i1 : (i : Int) < (n1 : Int) := by omega
              obtain ⟨gA', cA', hvA, -, -, -, hgA, -⟩ := hQ.a.at_ i hix
              have hgA : gA < wr.heap.size := by
                injection hvA with e1 _ _
                injection e1 with e1
                injection e1 with e1
                rw [e1]; exact hgA
              have E0 : EnvQ w (.slice (some ⟨gA, 0, none⟩) n1 ca) (.slice AW j cW) (.slice AH j cH) l zs gA i a0 a1 a2 a3 wr := ⟨hQ, (hG.below hQ.b).g, hgA, ca0, ca1, ca2, ca3⟩
              have E1 := E0.up (Below.refl _ _).drew
              obtain ⟨c0', c1', c2', c3'⟩ := E1.c
              unfold Go.Proofs.YtjohbepdmnigcaaDoor.w4 at ea
              have HEa := hid ea
              clear ea hQ hR ra hcx hx hvA hgA ca0 ca1 ca2 ca3 E0
              go_wp2_with fail
              clear hca2
              go_region_with (first
                | (go_at_call 14; with_reducible refine (fromUint64_c x _ hx64 (EnvQ.gl (by with_reducible assumption))).mono ?_; rintro e v ⟨r, rfl, hr, hb⟩; have hE := EnvQ.up (by with_reducible assumption) hb; obtain ⟨c0', c1', c2', c3'⟩ := hE.c; clear hb)
                | (go_at_call 13; with_reducible refine (eequal_c _ _ _ _ _ HEa.out (by with_reducible assumption)).mono ?_; rintro e v ⟨rfl, hb⟩; rw [decide_eq_true rfl]; have hE := hid (EnvQ.up (by with_reducible assumption) hb)))
              all_goals
                go_wp2
                go_roundw
                case rel => exact ⟨i + 1, by omega, by go_num, hE.out.e⟩
                case measure => simp [intOf]; omega
            · have hin : i = n1 := by omega
              subst hin
              have HB := hid hQ.b
              clear hQ hR
              go_wp2
              go_ret
              exact ⟨rfl, HB.out⟩
    · have hzl := runA_len64 hq3
      go_wp2_with fail
      refine (run_c Ao Aa n0 co n1 ca st l w3 hSo (by omega) hRE3 (by omega) hG3 zs (-1) er hq3).mono ?_
      rintro e w4 ⟨vW, rfl, hW4, hb4⟩
      have hb04 := hb03.trans (hb4.mono hb03.size)
      have hG4 := (hG.below hb04).more hb04.size
      have hS1' := hS1.up hb4 (Nat.le_refl _)
      have hRE4 := (hRE3.below hb4 (Nat.le_refl _)).more hb4.size
      have hP4 := hP3.below hb4
      have hW := hW4.mono hb03.size
      clear hW4 hSo hRE3 hG3 hP3
      go_wp2_with fail
      refine (run_c Ao Aa k co n1 ca _ l w4 hS1' (by omega) hRE4 (by omega) hG4 ys (-1) 0 hq1).mono ?_
      rintro e w5 ⟨vH, rfl, hH5, hb5⟩
      have hb05 := hb04.trans (hb5.mono hb04.size)
      obtain ⟨A5, c5, hv5, hc5, hm5, hRE5⟩ := hH5.form
      subst hv5
      have hG5 := (hG.below hb05).more hb05.size
      have hS5 := (hS2.up hb4 (Nat.le_refl _)).up hb5 (Nat.le_refl _)
      have hP5 := hP4.below hb5
      have hW5 := hW.below hb5
      clear hP4 hW hH5 hb4 hb5 hb04 hS1 hS1' hRE4 hG4 hb03 hS2 hq1 hq3 s0
      go_wp2_with fail
      refine (run_c A2 A5 (n0 - k) c2 ys.length c5 _ ys w5 hS5 (by omega) hRE5 (by omega) hG5 zs (-1) er hq2).mono ?_
      rintro e w6 ⟨vH, rfl, hH6, hb6⟩
      have hE : EnvC w w6 (.slice Aa n1 ca) vW vH l zs := ⟨hP5.below hb6, hW5.below hb6, hH6.mono hb05.size, hb05.trans (hb6.mono hb05.size)⟩
      clear hP5 hW5 hH6 hb6 hb05 hRE5 hG5 hS5 hcut hq2
      obtain ⟨AW, cW, hvW, hcW, -, -⟩ := hE.x.form
      obtain ⟨AH, cH, hvH, hcH, -, -⟩ := hE.y.form
      subst hvW
      subst hvH
      obtain ⟨nz, hnz⟩ : ∃ x, x = zs.length := ⟨_, rfl⟩
      rw [← hnz] at hE hcW hcH hzl ⊢
      have HNz := hid hnz
      clear hnz
      go_wp2
      go_loopw [95] (fun i wr => ∃ j : Nat, j ≤ nz ∧ i = .int .i64 j ∧ EnvC w wr (.slice Aa n1 ca) (.slice AW nz cW) (.slice AH nz cH) l zs) (fun i _ => nz - (intOf i).toNat)
      case atStart => exact ⟨0, by omega, rfl, hE⟩
      case round =>
        obtain ⟨j, hj, rfl, hR⟩ := hrel
        by_cases hjl : j < nz
        · have j0 : (0 : Int) ≤ (j : Int) := by omega
          have j1 : (j : Int) < (nz : Int) := by omega
          have hjx : j < zs.length := by rw [← HNz.out]; exact hjl
          obtain ⟨gW, rfl, a0, a1, a2, a3, ea, ca0, ca1, ca2, ca3⟩ := hR.x.el_at j hjx
          obtain ⟨gH, rfl, b0, b1, b2, b3, eb, cb0, cb1, cb2, cb3⟩ := hR.y.el_at j hjx
          have HEa := hid ea
          have HEb := hid eb
          have HR := hid hR
          clear ea eb hR hE
          go_wp2_with fail
          go_region_with (
            (go_at_call 13
             refine (eequal_c _ _ _ _ _ HEa.out HEb.out).mono ?_
             rintro e w6 ⟨rfl, hb6⟩
             rw [decide_eq_true rfl]
             have hb7 : Below wr.heap.size wr w6 := Below.trans ((Below.refl _ wr).drew) hb6
             have HRk := hid (HR.out.up hb7)
             clear hb6 hb7))
          all_goals
            clear ca0 ca1 ca2 ca3 cb0 cb1 cb2 cb3 HEa HEb HR
            go_wp2
            go_roundw
            case rel => exact ⟨j + 1, by omega, by go_num, HRk.out⟩
            case measure => simp [intOf]; omega
        · have hjn : j = nz := by omega
          subst hjn
          obtain ⟨w7, hw7⟩ : ∃ x, x = wr := ⟨wr, rfl⟩
          rw [← hw7] at hR ⊢
          clear hw7 hE
          go_wp2
          go_loopw [111] (fun i wr => ∃ i' : Nat, i' ≤ n1 ∧ i = .int .i64 i' ∧ EnvC w wr (.slice Aa n1 ca) (.slice AW j cW) (.slice AH j cH) l zs) (fun i _ => n1 - (intOf i).toNat)
          case atStart => exact ⟨0, by omega, rfl, hR⟩
          case round =>
            obtain ⟨i, hi, rfl, hQ⟩ := hrel
            by_cases hil : i < n1
            · have ra := r0.below hQ.b (Nat.le_refl _)
              obtain ⟨ba, oa, rfl, hba, hcx⟩ := ra.at_ hil
              have hix : i < l.length := by rw [r0.len]; exact hil
              obtain ⟨gA, rfl, a0, a1, a2, a3, ea, ca0, ca1, ca2, ca3⟩ := hQ.a.el_at i hix
              obtain ⟨x, hx⟩ : ∃ x, x = l.getD i 0 := ⟨_, rfl⟩
              rw [← hx] at ea
              have hx64 : x < 18446744073709551616 := by
                have := at64_lt r0.lt i
                unfold at64 at this
                rw [← hx] at this
                omega
              have hca2 : wr.cell? ⟨ba, oa + i, none⟩ = some (.int .u64 ((x : Nat) : Int)) := by rw [hcx]; unfold at64; rw [hx]
              have i0 : (0 : Int) ≤ (i : Int) := by omega
              have i1 : (i : Int) < (n1 : Int) := by omega
              obtain ⟨gA', cA', hvA, -, -, -, hgA, -⟩ := hQ.a.at_ i hix
              have hgA : gA < wr.heap.size := by
                injection hvA with e1 _ _
                injection e1 with e1
                injection e1 with e1
                rw [e1]; exact hgA
              have E0 : EnvQ w (.slice (some ⟨gA, 0, none⟩) n1 ca) (.slice AW j cW) (.slice AH j cH) l zs gA i a0 a1 a2 a3 wr := ⟨hQ, (hG.below hQ.b).g, hgA, ca0, ca1, ca2, ca3⟩
              have E1 := E0.up (Below.refl _ _).drew
              obtain ⟨c0', c1', c2', c3'⟩ := E1.c
              unfold Go.Proofs.YtjohbepdmnigcaaDoor.w4 at ea
              have HEa := hid ea
              clear ea hQ hR ra hcx hx hvA hgA ca0 ca1 ca2 ca3 E0
              go_wp2_with fail
              clear hca2
              go_region_with (first
                | (go_at_call 14; with_reducible refine (fromUint64_c x _ hx64 (EnvQ.gl (by with_reducible assumption))).mono ?_; rintro e v ⟨r, rfl, hr, hb⟩; have hE := EnvQ.up (by with_reducible assumption) hb; obtain ⟨c0', c1', c2', c3'⟩ := hE.c; clear hb)
                | (go_at_call 13; with_reducible refine (eequal_c _ _ _ _ _ HEa.out (by with_reducible assumption)).mono ?_; rintro e v ⟨rfl, hb⟩; rw [decide_eq_true rfl]; have hE := hid (EnvQ.up (by with_reducible assumption) hb)))
              all_goals
                go_wp2
                go_roundw
                case rel => exact ⟨i + 1, by omega, by go_num, hE.out.e⟩
                case measure => simp [intOf]; omega
            · have hin : i = n1 := by omega
              subst hin
              have HB := hid hQ.b
              clear hQ hR
              go_wp2
              go_ret
              exact ⟨rfl, HB.out⟩
    · have hzl := runA_len64 hq3
      have hm0 : (0 : Int) ≤ (m : Int) := by omega
      have hm60 : (m : Int) < 60 := by rw [s0.len] at hml; omega
      go_wp2_with fail
      refine (run_c Ao Aa n0 co n1 ca st l w3 hSo (by omega) hRE3 (by omega) hG3 zs ((m : Int) + (k : Int)) er hq3).mono ?_
      rintro e w4 ⟨vW, rfl, hW4, hb4⟩
      have hb04 := hb03.trans (hb4.mono hb03.size)
      have hG4 := (hG.below hb04).more hb04.size
      have hS1' := hS1.up hb4 (Nat.le_refl _)
      have hRE4 := (hRE3.below hb4 (Nat.le_refl _)).more hb4.size
      have hP4 := hP3.below hb4
      have hW := hW4.mono hb03.size
      clear hW4 hSo hRE3 hG3 hP3
      go_wp2_with fail
      refine (run_c Ao Aa k co n1 ca _ l w4 hS1' (by omega) hRE4 (by omega) hG4 ys (-1) 0 hq1).mono ?_
      rintro e w5 ⟨vH, rfl, hH5, hb5⟩
      have hb05 := hb04.trans (hb5.mono hb04.size)
      obtain ⟨A5, c5, hv5, hc5, hm5, hRE5⟩ := hH5.form
      subst hv5
      have hG5 := (hG.below hb05).more hb05.size
      have hS5 := (hS2.up hb4 (Nat.le_refl _)).up hb5 (Nat.le_refl _)
      have hP5 := hP4.below hb5
      have hW5 := hW.below hb5
      clear hP4 hW hH5 hb4 hb5 hb04 hS1 hS1' hRE4 hG4 hb03 hS2 hq1 hq3 s0
      go_wp2_with fail
      refine (run_c A2 A5 (n0 - k) c2 ys.length c5 _ ys w5 hS5 (by omega) hRE5 (by omega) hG5 zs (m : Int) er hq2).mono ?_
      rintro e w6 ⟨vH, rfl, hH6, hb6⟩
      have hE : EnvC w w6 (.slice Aa n1 ca) vW vH l zs := ⟨hP5.below hb6, hW5.below hb6, hH6.mono hb05.size, hb05.trans (hb6.mono hb05.size)⟩
      clear hP5 hW5 hH6 hb6 hb05 hRE5 hG5 hS5 hcut hq2
      obtain ⟨AW, cW, hvW, hcW, -, -⟩ := hE.x.form
      obtain ⟨AH, cH, hvH, hcH, -, -⟩ := hE.y.form
      subst hvW
      subst hvH
      obtain ⟨nz, hnz⟩ : ∃ x, x = zs.length := ⟨_, rfl⟩
      rw [← hnz] at hE hcW hcH hzl ⊢
      have HNz := hid hnz
      clear hnz
      go_wp2
      go_loopw [95] (fun i wr => ∃ j : Nat, j ≤ nz ∧ i = .int .i64 j ∧ EnvC w wr (.slice Aa n1 ca) (.slice AW nz cW) (.slice AH nz cH) l zs) (fun i _ => nz - (intOf i).toNat)
      case atStart => exact ⟨0, by omega, rfl, hE⟩
      case round =>
        obtain ⟨j, hj, rfl, hR⟩ := hrel
        by_cases hjl : j < nz
        · have j0 : (0 : Int) ≤ (j : Int) := by omega
          have j1 : (j : Int) < (nz : Int) := by omega
          have hjx : j < zs.length := by rw [← HNz.out]; exact hjl
          obtain ⟨gW, rfl, a0, a1, a2, a3, ea, ca0, ca1, ca2, ca3⟩ := hR.x.el_at j hjx
          obtain ⟨gH, rfl, b0, b1, b2, b3, eb, cb0, cb1, cb2, cb3⟩ := hR.y.el_at j hjx
          have HEa := hid ea
          have HEb := hid eb
          have HR := hid hR
          clear ea eb hR hE
          go_wp2_with fail
          go_region_with (
            (go_at_call 13
             refine (eequal_c _ _ _ _ _ HEa.out HEb.out).mono ?_
             rintro e w6 ⟨rfl, hb6⟩
             rw [decide_eq_true rfl]
             have hb7 : Below wr.heap.size wr w6 := Below.trans ((Below.refl _ wr).drew) hb6
             have HRk := hid (HR.out.up hb7)
             clear hb6 hb7))
          all_goals
            clear ca0 ca1 ca2 ca3 cb0 cb1 cb2 cb3 HEa HEb HR
            go_wp2
            go_roundw
            case rel => exact ⟨j + 1, by omega, by go_num, HRk.out⟩
            case measure => simp [intOf]; omega
        · have hjn : j = nz := by omega
          subst hjn
          obtain ⟨w7, hw7⟩ : ∃ x, x = wr := ⟨wr, rfl⟩
          rw [← hw7] at hR ⊢
          clear hw7 hE
          go_wp2
          go_loopw [111] (fun i wr => ∃ i' : Nat, i' ≤ n1 ∧ i = .int .i64 i' ∧ EnvC w wr (.slice Aa n1 ca) (.slice AW j cW) (.slice AH j cH) l zs) (fun i _ => n1 - (intOf i).toNat)
          case atStart => exact ⟨0, by omega, rfl, hR⟩
          case round =>
            obtain ⟨i, hi, rfl, hQ⟩ := hrel
            by_cases hil : i < n1
            · have ra := r0.below hQ.b (Nat.le_refl _)
              obtain ⟨ba, oa, rfl, hba, hcx⟩ := ra.at_ hil
              have hix : i < l.length := by rw [r0.len]; exact hil
              obtain ⟨gA, rfl, a0, a1, a2, a3, ea, ca0, ca1, ca2, ca3⟩ := hQ.a.el_at i hix
              obtain ⟨x, hx⟩ : ∃ x, x = l.getD i 0 := ⟨_, rfl⟩
              rw [← hx] at ea
              have hx64 : x < 18446744073709551616 := by
                have := at64_lt r0.lt i
                unfold at64 at this
                rw [← hx] at this
                omega
              have hca2 : wr.cell? ⟨ba, oa + i, none⟩ = some (.int .u64 ((x : Nat) : Int)) := by rw [hcx]; unfold at64; rw [hx]
              have i0 : (0 : Int) ≤ (i : Int) := by omega
              have i1 : (i : Int) < (n1 : Int) := by omega
              obtain ⟨gA', cA', hvA, -, -, -, hgA, -⟩ := hQ.a.at_ i hix
              have hgA : gA < wr.heap.size := by
                injection hvA with e1 _ _
                injection e1 with e1
                injection e1 with e1
                rw [e1]; exact hgA
              have E0 : EnvQ w (.slice (some ⟨gA, 0, none⟩) n1 ca) (.slice AW j cW) (.slice AH j cH) l zs gA i a0 a1 a2 a3 wr := ⟨hQ, (hG.below hQ.b).g, hgA, ca0, ca1, ca2, ca3⟩
              have E1 := E0.up (Below.refl _ _).drew
              obtain ⟨c0', c1', c2', c3'⟩ := E1.c
              unfold Go.Proofs.YtjohbepdmnigcaaDoor.w4 at ea
              have HEa := hid ea
              clear ea hQ hR ra hcx hx hvA hgA ca0 ca1 ca2 ca3 E0
              go_wp2_with fail
              clear hca2
              go_region_with (first
                | (go_at_call 14; with_reducible refine (fromUint64_c x _ hx64 (EnvQ.gl (by with_reducible assumption))).mono ?_; rintro e v ⟨r, rfl, hr, hb⟩; have hE := EnvQ.up (by with_reducible assumption) hb; obtain ⟨c0', c1', c2', c3'⟩ := hE.c; clear hb)
                | (go_at_call 13; with_reducible refine (eequal_c _ _ _ _ _ HEa.out (by with_reducible assumption)).mono ?_; rintro e v ⟨rfl, hb⟩; rw [decide_eq_true rfl]; have hE := hid (EnvQ.up (by with_reducible assumption) hb)))
              all_goals
                go_wp2
                go_roundw
                case rel => exact ⟨i + 1, by omega, by go_num, hE.out.e⟩
                case measure => simp [intOf]; omega
            · have hin : i = n1 := by omega
              subst hin
              have HB := hid hQ.b
              clear hQ hR
              go_wp2
              go_ret
              exact ⟨rfl, HB.out⟩
  · have hnot : decide ((60 : Int) < (n0 : Int)) = true ∨ (decide ((60 : Int) < (n0 : Int)) = false ∧ decide ((64 : Int) < (n1 : Int)) = true) := by
      by_cases h : n0 ≤ 60
      · exact Or.inr ⟨decide_eq_false (by omega), decide_eq_true (by omega)⟩
      · exact Or.inl (decide_eq_true (by omega))
    rcases hnot with d1 | ⟨d1, d2⟩
    all_goals
      go_enter Tryd.func4, Tryd.ntmps4
      go_wp2_with fail
      refine (speaks3_c w hG).mono ?_
      rintro e w1 ⟨rfl, hb1⟩
      have hG1 := (hG.below hb1).more hb1.size
      go_wp2_with fail
      refine (speaks3_c w1 hG1).mono ?_
      rintro e w2 ⟨rfl, hb2⟩
      have HB := hid (hb1.trans (hb2.mono hb1.size))
      clear hb1 hb2 hG1
      go_wp2
      go_ret
      exact ⟨rfl, HB.out⟩
end Go.Proofs.YtjohbepdmnigcaaDoor
