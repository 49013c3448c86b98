/-
  A slice that came in, as the statements' frame tells of it, is one that is read.
-/
import Derived.Test.YtokfldecjknamaaBytes0
namespace Go.Proofs.Ytokfldecjknamaa
open Go.RowKit
set_option linter.unusedVariables false

theorem rd8_of_row {w : World} {a : Option Addr} {len cap : Nat} {zs : List Int}
    (h : (a = none ∧ len = 0 ∧ cap = 0 ∧ zs = []) ∨ ∃ x, a = some x ∧ len ≤ cap ∧ cap ≤ maxLen ∧ zs.length = cap ∧ (∀ i, i < zs.length → w.cell? (x.add i) = some (.int .u8 (zs.getD i 0))) ∧ ∀ n ∈ zs, (Lit.int .u8 n).wf = true) :
    ∃ l, Rd8 w w.heap.size a len l := by
  rcases h with ⟨rfl, rfl, rfl, rfl⟩ | ⟨x, rfl, hl, hm, hz, hc, hw⟩
  · exact ⟨[], Rd8.nil _ _ _⟩
  · have hb : ∀ z ∈ zs, 0 ≤ z ∧ z < 256 := by
      intro z hz'
      have := hw z hz'
      have e1 : IntKind.u8.min = 0 := by decide
      have e2 : IntKind.u8.max = 255 := by decide
      simp [Lit.wf, e1, e2] at this
      omega
    refine ⟨(zs.take len).map Int.toNat, ⟨by simp; omega, ?_, fun hp => ?_⟩⟩
    · intro y hy
      obtain ⟨z, hz1, rfl⟩ := List.mem_map.1 hy
      have := hb z (List.mem_of_mem_take hz1)
      omega
    · obtain ⟨b, off, spot⟩ := x
      have h0 := hc 0 (by omega)
      have hspot : spot = none := by simpa [Addr.add] using World.cell?_spot h0
      subst hspot
      have h0' : w.cell? ⟨b, off, none⟩ = some (.int .u8 (zs.getD 0 0)) := by simpa [Addr.add] using h0
      refine ⟨b, off, rfl, World.block_lt_of_cell? w _ h0', fun i hi => ?_⟩
      have hi' := hc i (by omega)
      have hadd : (⟨b, off, none⟩ : Addr).add i = ⟨b, off + i, none⟩ := by unfold Addr.add; split <;> simp_all
      rw [hadd] at hi'
      rw [hi']
      have hz2 : i < zs.length := by omega
      have := hb zs[i] (List.getElem_mem hz2)
      have e : ((zs[i].toNat : Nat) : Int) = zs[i] := by omega
      simp [at64, List.getD_eq_getElem?_getD, List.getElem?_eq_getElem hz2, hi, e]
end Go.Proofs.Ytokfldecjknamaa
