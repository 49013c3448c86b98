/-
  A slice of slices of bytes that came in, as the library opens it, is one that is read (RdR).
-/
import Derived.Test.YtjkellpfoogomaaDoorLawFSums
import Derived.Test.YtjkellpfoogomaaDoorFrame8
import Derived.Deep.Matrix
namespace Go.Proofs.YtjkellpfoogomaaDoor
open Go.RowKit
set_option linter.unusedVariables false

theorem addr_add {b off i : Nat} : (⟨b, off, none⟩ : Addr).add i = ⟨b, off + i, none⟩ := by unfold Addr.add; split <;> simp_all
theorem rdr_of_rows {w : World} {a : Addr} {len cap : Nat} {A : Nat → Option Addr} {L C : Nat → Nat} {Z : Nat → List Int} (hl : len ≤ cap)
    (h : ∀ r, r < cap → w.cell? (a.add r) = some (.slice (A r) (L r) (C r)) ∧ L r ≤ C r ∧ C r ≤ maxLen ∧ (Z r).length = C r ∧ (∀ n ∈ Z r, (Lit.int .u8 n).wf = true) ∧ (A r = none → C r = 0) ∧
        ∀ a', A r = some a' → 0 ≤ a'.block ∧ ∀ c, c < C r → w.cell? (a'.add c) = some (.int .u8 ((Z r).getD c 0))) : RdR w (some a) len := by
  refine ⟨fun hp => ?_⟩
  obtain ⟨b, off, spot⟩ := a
  have h0 := (h 0 (by omega)).1
  have hspot : spot = none := by simpa [Addr.add] using World.cell?_spot h0
  subst hspot
  rw [addr_add] at h0
  refine ⟨b, off, rfl, World.block_lt_of_cell? w _ h0, fun r hr => ?_⟩
  obtain ⟨hc, hL, hC, hZ, hw, hn, hs⟩ := h r (by omega)
  rw [addr_add] at hc
  have hrow : (A r = none ∧ L r = 0 ∧ C r = 0 ∧ Z r = []) ∨ ∃ x, A r = some x ∧ L r ≤ C r ∧ C r ≤ maxLen ∧ (Z r).length = C r ∧ (∀ i, i < (Z r).length → w.cell? (x.add i) = some (.int .u8 ((Z r).getD i 0))) ∧ ∀ n ∈ Z r, (Lit.int .u8 n).wf = true := by
    cases hA : A r with
    | none =>
      have c0 := hn hA
      exact Or.inl ⟨rfl, by omega, c0, List.length_eq_zero_iff.1 (by omega)⟩
    | some x => exact Or.inr ⟨x, rfl, hL, hC, hZ, fun i hi => (hs x hA).2 i (by omega), hw⟩
  obtain ⟨l, hl⟩ := rd8_of_row hrow
  exact ⟨A r, L r, C r, l, hc, hl⟩
theorem rdr_nil (w : World) : RdR w none 0 := ⟨fun h => absurd h (Nat.lt_irrefl _)⟩
theorem u8_nat {a : Int} (h : (Lit.int .u8 a).wf = true) : ∃ v : Nat, a = (v : Int) ∧ v < 256 := by
  have e1 : IntKind.u8.min = 0 := by decide
  have e2 : IntKind.u8.max = 255 := by decide
  simp [Lit.wf, e1, e2] at h
  exact ⟨a.toNat, by omega, by omega⟩
end Go.Proofs.YtjkellpfoogomaaDoor
