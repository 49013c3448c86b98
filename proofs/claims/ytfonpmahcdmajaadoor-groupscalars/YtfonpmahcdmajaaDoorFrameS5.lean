/-
  What the card's condition gives GroupScalars' walk: the three tables hold what the text lays in them; the door's own heap meets it.
-/
import Derived.Test.YtfonpmahcdmajaaDoorFrameG
import Derived.Test.YtfonpmahcdmajaaDoorFrameW
namespace Go.Proofs.YtfonpmahcdmajaaDoor
open Go.RowKit
set_option linter.unusedVariables false

/-- The tables of the field and of the group. -/
structure GlobS (w : World) : Prop where
  f : Glob w
  g : GlobW w
def laidS : List (String × DataW Unit) := [("avouch/field.prime", Rows.laid_avouch_field_prime), ("avouch/field.raise", Rows.laid_avouch_field_raise), ("avouch/wide.prime", Rows.laid_avouch_wide_prime)]
theorem door_metS (os : Os) (args : Array Value) : laidMetH Tryd.prog laidS ((World.doorLaid Tryd.prog 400 os).forCall (fun _ _ => 0) ⟨#[], args, []⟩).memory :=
  laidMetH_of_parts3 (fuel := 8) (laidMet_of_run' 8 (by kernel_rfl) (by kernel_rfl)) (by kernel_rfl) (by kernel_rfl)

theorem globS_of_laid {W : World} (h : laidMetH Tryd.prog laidS W) : GlobS W := by
  rw [MakeChecks.laidMetH_plain _ _ _ (by kernel_rfl)] at h
  obtain ⟨ps, ⟨g0, t0, cs0, f0, p0, q0, hg0, ht0, hv0, hd0, ⟨g1, t1, cs1, f1, p1, q1, hg1, ht1, hv1, hd1, ⟨g2, t2, cs2, f2, p2, q2, hg2, ht2, hv2, hd2, _, _⟩, _⟩, _⟩, _, _⟩ := h
  obtain rfl := Option.some.inj (gPrime.symm.trans hg0)
  obtain rfl := Option.some.inj (gRaise.symm.trans hg1)
  obtain rfl := Option.some.inj (gWide.symm.trans hg2)
  obtain rfl := Option.some.inj (tPrime.symm.trans ht0)
  obtain rfl := Option.some.inj (tRaise.symm.trans ht1)
  obtain rfl := Option.some.inj (tWide.symm.trans ht2)
  have e0 := Lib.cells_of_tab (zs := [4891460686036598785, 2896914383306846353, 13281191951274694749, 3486998266802970665]) Tryd.underlying64 Tryd.underlying22 cellsW cells4W hd0
  have e1 := Lib.cells_of_tab (zs := [1997599621687373223, 6052339484930628067, 10108755138030829701, 150537098327114917]) Tryd.underlying64 Tryd.underlying22 cellsW cells4W hd1
  have e2 := Lib.cells_of_tab (zs := (ds bigP).map fun (x : Nat) => (x : Int)) Tryd.underlying24 Tryd.underlying22 cells1W cells12W hd2
  obtain ⟨l0⟩ := cs0
  obtain ⟨l1⟩ := cs1
  obtain ⟨l2⟩ := cs2
  simp only at e0 e1 e2
  have e3 : l2 = cellsOf64 (ds bigP) := e2
  subst e0 e1 e3
  have a0 := World.var?_cell hg0 hv0 0
  have a1 := World.var?_cell hg0 hv0 1
  have a2 := World.var?_cell hg0 hv0 2
  have a3 := World.var?_cell hg0 hv0 3
  have b0 := World.var?_cell hg1 hv1 0
  have b1 := World.var?_cell hg1 hv1 1
  have b2 := World.var?_cell hg1 hv1 2
  have b3 := World.var?_cell hg1 hv1 3
  simp at a0 a1 a2 a3 b0 b1 b2 b3
  have c0 : W.cell? ⟨1, 0, none⟩ = some (.int .u64 18446744073709551615) := by rw [World.var?_cell hg2 hv2 0]; rfl
  refine ⟨⟨World.block_lt_of_cell? W _ a0, World.block_lt_of_cell? W _ b0, a0, a1, a2, a3, b0, b1, b2, b3⟩, World.block_lt_of_cell? W _ c0, fun j v hv => ?_⟩
  rw [Nat.zero_add, World.var?_cell hg2 hv2 j]
  simpa using hv
end Go.Proofs.YtfonpmahcdmajaaDoor
