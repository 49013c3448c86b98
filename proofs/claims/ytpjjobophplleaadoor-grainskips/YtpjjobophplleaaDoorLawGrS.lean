/-
  avouchlaw08.GrainSkips: the walk.
-/
import Derived.Test.YtpjjobophplleaaDoorGnS
import Derived.Test.YtpjjobophplleaaDoorGnH
import Derived.Test.YtpjjobophplleaaDoorLAdd
namespace Go.Proofs.YtpjjobophplleaaDoor
open Go.RowKit
set_option linter.unusedVariables false

theorem four_cellsS {w : World} {b : Nat} {t : TypeId} {a0 a1 a2 a3 : Int} (h : BlkV w b t [.int .i64 a0, .int .i64 a1, .int .i64 a2, .int .i64 a3]) :
    w.cell? ⟨b, 0, none⟩ = some (.int .i64 a0) ∧ w.cell? ⟨b, 1, none⟩ = some (.int .i64 a1) ∧ w.cell? ⟨b, 2, none⟩ = some (.int .i64 a2) ∧ w.cell? ⟨b, 3, none⟩ = some (.int .i64 a3) :=
  ⟨h.cell (i := 0) (by simp), h.cell (i := 1) (by simp), h.cell (i := 2) (by simp), h.cell (i := 3) (by simp)⟩
theorem gOk_natS {a b c d : Int} (h : gOk a b c d) : ∃ a' b' c' d' : Nat, a = a' ∧ b = b' ∧ c = c' ∧ d = d' := by
  unfold gOk at h
  exact ⟨a.toNat, b.toNat, c.toNat, d.toNat, by omega, by omega, by omega, by omega⟩
theorem gns_zeroS (s : Nat) : gns 0 s = s := rfl
theorem gval_zeroS (s : Nat) : gval 0 s = 0 := rfl
/-- Number of no bits, and of as many as there are. -/
theorem gnum_none (x p : Nat) (z : Int) (hz : z ≤ 0) (w : World) (hs : GS x) (hB : G8 w p 51 x) :
    Calls Tryd.prog 11 #[.pointer (some ⟨p, 0, none⟩), .int .i64 z] w fun e w' => e = .returned (.int .u64 0) ∧ G8 w' p 51 x ∧ Only p w w' := by
  have h := gnumber_c x p z 51 w hs hB
  rw [show gmany z = 0 by unfold gmany; omega, gval_zeroS, gns_zeroS] at h
  exact h
theorem gnum_all (x p : Nat) (z : Int) (hz : 64 ≤ z) (w : World) (hs : GS x) (hB : G8 w p 51 x) :
    Calls Tryd.prog 11 #[.pointer (some ⟨p, 0, none⟩), .int .i64 z] w fun e w' => e = .returned (.int .u64 (gval 64 x : Nat)) ∧ G8 w' p 51 (gns 64 x) ∧ Only p w w' := by
  have h := gnumber_c x p z 51 w hs hB
  rw [show gmany z = 64 by unfold gmany; omega] at h
  exact h

set_option maxRecDepth 100000 in
set_option maxHeartbeats 4000000 in
theorem grainSkips_w (a b c d bl : Int) (ab : Nat) (w : World) (_ : (Lit.int .i64 bl).wf = true) (hab : ab < 65536) (hG : Glob w) :
    Calls Tryd.prog 4 #[four a b c d, .int .i64 bl, .int .u16 (ab : Int)] w fun e w' => e = .returned (.bool true) ∧ Below w.heap.size w w' := by
  have B0 := hid (show Below w.heap.size w (w.alloc (.cells #[.int .i64 a, .int .i64 b, .int .i64 c, .int .i64 d] 22)) from (Below.refl _ _).alloc (Nat.le_refl _) _)
  have K0 := hid (BlkV.new w 22 [.int .i64 a, .int .i64 b, .int .i64 c, .int .i64 d])
  have HG := hid hG
  unfold four
  by_cases hok : gOk a b c d
  case neg =>
    clear hab hG HG
    go_enter Tryd.func4, Tryd.ntmps4
    go_wp2_with fail
    refine (speaks8_c _).mono ?_
    rintro e w1 ⟨rfl, b1⟩
    have B1 := hid (B0.out.trans (b1.mono B0.out.size))
    have K1 := BlkV.up K0.out b1
    obtain ⟨c0, c1, c2, c3⟩ := four_cellsS K1
    clear b1 B0 K0 K1
    go_wp2_with fail
    refine (new_err a b c d w1 hok).mono ?_
    rintro e v1 ⟨rfl, rfl⟩
    go_wp2_with fail
    refine (new_err a b c d v1 hok).mono ?_
    rintro e w2 ⟨rfl, rfl⟩
    clear c0 c1 c2 c3
    go_wp2_with fail
    go_ret
    exact ⟨rfl, B1.out⟩
  obtain ⟨a, b, c, d, rfl, rfl, rfl, rfl⟩ := gOk_natS hok
  have HGS := hid (gS_gs a b c d)
  have HN1 := hid (fun v => new_ok a b c d v hok)
  generalize gS a b c d = S at *
  have HAB := hid hab
  clear hok hG
  go_enter Tryd.func4, Tryd.ntmps4
  go_wp2_with fail
  refine (speaks8_c _).mono ?_
  rintro e w1 ⟨rfl, b1⟩
  have B1 := hid (B0.out.trans (b1.mono B0.out.size))
  have K1 := BlkV.up K0.out b1
  obtain ⟨c0, c1, c2, c3⟩ := four_cellsS K1
  have K1' := hid K1
  clear b1 B0 K0 K1
  go_wp2_with fail
  refine (HN1.out w1).mono ?_
  rintro e v1 ⟨p, rfl, hp, g1, bp⟩
  clear c0 c1 c2 c3
  obtain ⟨c0, c1, c2, c3⟩ := four_cellsS (BlkV.up K1'.out bp)
  go_wp2_with fail
  refine (HN1.out v1).mono ?_
  rintro e w2 ⟨q, rfl, hq, g2, b2⟩
  have R0 := hid (TwoS.start hp g1 bp hq g2 b2)
  have HLP : Hid (0 < p ∧ 1 < p) := by
    have h1 := HG.out.sizeP
    have h2 := HG.out.sizeR
    have h3 := B1.out.size
    exact ⟨by omega, by omega⟩
  have HLQ : Hid (0 < q ∧ 1 < q) := by
    have h1 := HLP.out
    have h2 := BlkV.size g1
    exact ⟨by omega, by omega⟩
  have HG1 := hid (HG.out.up B1.out)
  clear c0 c1 c2 c3 hp hq g1 g2 bp b2 HN1 K1' HG
  go_wp2_with fail
  -- a.Number(min(below, 0))
  refine (gnum_none S p _ (by omega) w2 HGS.out R0.out.gp).mono ?_
  rintro e w3 ⟨rfl, g3, o3⟩
  have R3 := hid (R0.out.left o3 g3)
  clear g3 o3 R0
  go_wp2_with fail
  refine (gnum_none S p _ (Int.le_refl 0) w3 HGS.out R3.out.gp).mono ?_
  rintro e w4 ⟨rfl, g4, o4⟩
  have R4 := hid (R3.out.left o4 g4)
  clear g4 o4 R3
  go_wp2_with fail
  refine (gnum_all S p _ (by omega) w4 HGS.out R4.out.gp).mono ?_
  rintro e w5 ⟨rfl, g5, o5⟩
  have R5 := hid (R4.out.left o5 g5)
  clear g5 o5 R4
  go_wp2_with fail
  refine (gnum_all S q 64 (Int.le_refl 64) w5 HGS.out R5.out.gq).mono ?_
  rintro e w6 ⟨rfl, g6, o6⟩
  have R6 := hid (R5.out.right o6 g6)
  have HX := hid (GS.ns 64 HGS.out)
  generalize gval 64 S = V at *
  generalize gns 64 S = X at *
  clear g6 o6 R5 HGS
  go_wp2_with fail
  refine (gelem_c X p 51 w6 HX.out R6.out.gp (HG1.out.up R6.out.b) HLP.out).mono ?_
  rintro e w7 ⟨r1, rfl, hr1, g7, o7⟩
  have R7 := hid (R6.out.left o7 g7)
  have HR1 := hid hr1
  clear g7 o7 R6 hr1
  go_wp2_with fail
  refine (gelem_c X q 51 w7 HX.out R7.out.gq (HG1.out.up R7.out.b) HLQ.out).mono ?_
  rintro e w8 ⟨r2, rfl, hr2, g8, o8⟩
  have R8 := hid (R7.out.right o8 g8)
  have HR2 := hid hr2
  have HY := hid HX.out.elr
  generalize gelr X = Y at *
  generalize gelv X = v at *
  clear g8 o8 R7 hr2
  go_wp2_with fail
  refine (eequal_c r1 r2 v v w8 HR1.out HR2.out).mono ?_
  rintro e w9 ⟨rfl, b9⟩
  rw [decide_eq_true rfl]
  have R9 := hid (R8.out.up b9)
  clear b9 R8
  go_wp2_with fail
  refine (gnum_all Y p 64 (Int.le_refl 64) w9 HY.out R9.out.gp).mono ?_
  rintro e w10 ⟨rfl, g10, o10⟩
  have R10 := hid (R9.out.left o10 g10)
  clear g10 o10 R9
  go_wp2_with fail
  refine (gnum_all Y q 65 (by decide) w10 HY.out R10.out.gq).mono ?_
  rintro e w11 ⟨rfl, g11, o11⟩
  have R11 := hid (R10.out.right o11 g11)
  clear g11 o11 R10
  generalize gval 64 Y = U
  go_wp2
  go_ret
  exact ⟨rfl, B1.out.trans (R11.out.b.mono B1.out.size)⟩
end Go.Proofs.YtpjjobophplleaaDoor
