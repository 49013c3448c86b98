/-
  A slice of steps that came in, as the library opens it, is one that is read (RdS).
-/
import Derived.Test.YtjohbepdmnigcaaDoorCalG
import Derived.Deep.SlicePairs
namespace Go.Proofs.YtjohbepdmnigcaaDoor
open Go.RowKit
set_option linter.unusedVariables false

theorem rds_of_pairs {w : World} {a : Addr} {len : Nat} (h : ∀ i, i < len → ∃ x y : Int, w.cell? (a.add (i * 2)) = some (.int .i64 x) ∧ w.cell? (a.add (i * 2 + 1)) = some (.int .u64 y) ∧ (Lit.int .u64 y).wf = true) :
    ∃ st, RdS w w.heap.size (some a) len st := by
  have hex : ∀ i, ∃ q : Int × Int, i < len → w.cell? (a.add (i * 2)) = some (.int .i64 q.1) ∧ w.cell? (a.add (i * 2 + 1)) = some (.int .u64 q.2) ∧ 0 ≤ q.2 ∧ q.2 < 18446744073709551616 := by
    intro i
    by_cases hi : i < len
    · obtain ⟨x, y, h1, h2, h3⟩ := h i hi
      have e1 : IntKind.u64.min = 0 := by decide
      have e2 : IntKind.u64.max = 18446744073709551615 := by decide
      simp [Lit.wf, e1, e2] at h3
      exact ⟨(x, y), fun _ => ⟨h1, h2, by omega, by omega⟩⟩
    · exact ⟨(0, 0), fun h => absurd h hi⟩
  obtain ⟨q, hq⟩ := Classical.axiomOfChoice hex
  refine ⟨(List.range len).map fun i => ((q i).1, (q i).2.toNat), ⟨by simp, ?_, fun hp => ?_⟩⟩
  · intro s hs
    obtain ⟨i, hi, rfl⟩ := List.mem_map.1 hs
    have := (hq i (List.mem_range.1 hi)).2.2
    simp only
    omega
  · obtain ⟨b, off, spot⟩ := a
    have h0 := (hq 0 hp).1
    have hspot : spot = none := by simpa [Addr.add] using World.cell?_spot h0
    subst hspot
    rw [add_flat] at h0
    refine ⟨b, off, rfl, World.block_lt_of_cell? w _ h0, fun i hi => ?_⟩
    obtain ⟨c0, c1, y0, y1⟩ := hq i hi
    rw [add_flat] at c0 c1
    have e : ((List.range len).map fun i => ((q i).1, (q i).2.toNat)).getD i (0, 0) = ((q i).1, (q i).2.toNat) := by simp [List.getD_eq_getElem?_getD, hi]
    rw [e, c0, Nat.add_assoc, c1]
    simp only
    refine ⟨trivial, ?_⟩
    rw [Int.toNat_of_nonneg y0]
theorem rds_nil (w : World) : ∃ st, RdS w w.heap.size none 0 st := ⟨[], RdS.nil _ _ _⟩
end Go.Proofs.YtjohbepdmnigcaaDoor
