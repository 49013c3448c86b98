/-
  What the cards' condition gives the walks: the two tables hold the prime and the rest of 2^512; the door's own heap meets it.
-/
import Derived.Test.YtdepkfdceidikaaGreatDoorFldB
import Derived.Test.YtdepkfdceidikaaGreatDoorRows
import Derived.LaidMore
import Derived.Lib.LaidTab
namespace Go.Proofs.YtdepkfdceidikaaGreatDoor
open Go.RowKit
set_option linter.unusedVariables false

def laid2 : List (String × DataW Unit) := [("avouch/field.prime", Rows.laid_avouch_field_prime), ("avouch/field.raise", Rows.laid_avouch_field_raise)]
theorem gPrime : Tryz.prog.globalNamed "avouch/field.prime" = some 0 := by kernel_rfl
theorem gRaise : Tryz.prog.globalNamed "avouch/field.raise" = some 1 := by kernel_rfl
theorem tPrime : (Tryz.prog.globals[0]?).map (·.type) = some 35 := by kernel_rfl
theorem tRaise : (Tryz.prog.globals[1]?).map (·.type) = some 35 := by kernel_rfl
theorem cellsW : Tryz.prog.cellsOf 34 = 1 := by kernel_rfl
theorem cells4W : Tryz.prog.cellsOf 35 = 4 := by kernel_rfl

theorem door_met (os : Os) (args : Array Value) : laidMetH Tryz.prog laid2 ((World.doorLaid Tryz.prog 400 os).forCall (fun _ _ => 0) ⟨#[], args, []⟩).memory :=
  laidMetH_of_parts3 (fuel := 8) (laidMet_of_run' 8 (by kernel_rfl) (by kernel_rfl)) (by kernel_rfl) (by kernel_rfl)

theorem u64_nat {a : Int} (h : (Lit.int .u64 a).wf = true) : ∃ v : Nat, a = (v : Int) ∧ v < 18446744073709551616 := by
  have e1 : IntKind.u64.min = 0 := by decide
  have e2 : IntKind.u64.max = 18446744073709551615 := by decide
  simp [Lit.wf, e1, e2] at h
  exact ⟨a.toNat, by omega, by omega⟩
theorem u8_nat {a : Int} (h : (Lit.int .u8 a).wf = true) : ∃ v : Nat, a = (v : Int) ∧ v < 256 := by
  have e1 : IntKind.u8.min = 0 := by decide
  have e2 : IntKind.u8.max = 255 := by decide
  simp [Lit.wf, e1, e2] at h
  exact ⟨a.toNat, by omega, by omega⟩
theorem glob_of_laid {W : World} (h : laidMetH Tryz.prog laid2 W) : Glob W := by
  rw [MakeChecks.laidMetH_plain _ _ _ (by kernel_rfl)] at h
  obtain ⟨ps, ⟨g0, t0, cs0, f0, p0, q0, hg0, ht0, hv0, hd0, ⟨g1, t1, cs1, f1, p1, q1, hg1, ht1, hv1, hd1, _, _⟩, _⟩, _, _⟩ := h
  obtain rfl := Option.some.inj (gPrime.symm.trans hg0)
  obtain rfl := Option.some.inj (gRaise.symm.trans hg1)
  obtain rfl := Option.some.inj (tPrime.symm.trans ht0)
  obtain rfl := Option.some.inj (tRaise.symm.trans ht1)
  have e0 := Lib.cells_of_tab (zs := [4891460686036598785, 2896914383306846353, 13281191951274694749, 3486998266802970665]) Tryz.underlying35 Tryz.underlying34 cellsW cells4W hd0
  have e1 := Lib.cells_of_tab (zs := [1997599621687373223, 6052339484930628067, 10108755138030829701, 150537098327114917]) Tryz.underlying35 Tryz.underlying34 cellsW cells4W hd1
  obtain ⟨l0⟩ := cs0
  obtain ⟨l1⟩ := cs1
  simp only at e0 e1
  subst e0 e1
  have a0 := World.var?_cell hg0 hv0 0
  have a1 := World.var?_cell hg0 hv0 1
  have a2 := World.var?_cell hg0 hv0 2
  have a3 := World.var?_cell hg0 hv0 3
  have b0 := World.var?_cell hg1 hv1 0
  have b1 := World.var?_cell hg1 hv1 1
  have b2 := World.var?_cell hg1 hv1 2
  have b3 := World.var?_cell hg1 hv1 3
  simp at a0 a1 a2 a3 b0 b1 b2 b3
  exact ⟨World.block_lt_of_cell? W _ a0, World.block_lt_of_cell? W _ b0, a0, a1, a2, a3, b0, b1, b2, b3⟩
end Go.Proofs.YtdepkfdceidikaaGreatDoor
