/-
  A slice of document's items that came in, as the library opens it. Helpers for the frames of stage 13 and after.
-/
import Derived.Test.YtokfldecjknamaaPtB
import Derived.Test.YtokfldecjknamaaFrameJ
import Derived.Deep.SlicePairs
namespace Go.Proofs.Ytokfldecjknamaa
open Go.RowKit Go.Joins Go.Deep
set_option linter.unusedVariables false

theorem open_items {H : Type} {enc : TypeId × Value → H} {w : World} {base : Nat} {spare : Nat → Bool} {held : Bool} {t : TypeId} {fuel : Nat} {cs : List Value} {x : DataW H × List MemPlace}
    (ht : Try.prog.underlying t = some (.slice 25)) (h : DataW.trod enc Try.prog w base spare held fuel t cs = some x) :
    cs = [.slice none 0 0] ∨ ∃ (a : Option Addr) (len cap : Nat) (xs : List IV), cs = [.slice a len cap] ∧ len ≤ cap ∧ cap ≤ maxLen ∧ RdV w w.heap.size a len xs ∧ ∀ y ∈ xs, y.s.size ≤ maxLen ∧ (Lit.int .i64 y.k).wf = true := by
  have he := Try.underlying25
  have hC : Try.prog.cellsOf 25 = 4 := by kernel_rfl
  have c3 : Try.prog.cellsOf 3 = 1 := by kernel_rfl
  have c9 : Try.prog.cellsOf 9 = 1 := by kernel_rfl
  rcases open_slice ht h with ⟨h0, _⟩ | ⟨a, len, cap, m, n, D, Pl, rfl, hb, hl, hm, hmm, rfl, hx⟩
  · exact .inl h0
  right
  have hlm : len ≤ m := by rw [hmm]; split <;> omega
  have each : ∀ i, i < len → ∃ y : IV, (y.s.size ≤ maxLen ∧ (Lit.int .i64 y.k).wf = true) ∧ ∀ j v, (ivc y)[j]? = some v → w.cell? ((a.add (i * 4)).add j) = some v := by
    intro i hi
    obtain ⟨cs', h1, h2⟩ := hx i (by omega)
    rw [hC] at h1
    obtain ⟨_, hlen, hcell⟩ := World.cells?_some h1
    obtain ⟨y0, y1, y2, y3, k, _, _, g0, g1, g2, g3⟩ := trod_struct4 he h2
    match cs', hlen with
    | [v0, v1, v2, v3], _ =>
      simp [c3, c9] at g0 g1 g2 g3
      obtain ⟨ki, e0, -, wk⟩ := DataW.trod_int Try.underlying3 g0
      obtain ⟨ti, e1, -, -⟩ := DataW.trod_int Try.underlying3 g1
      obtain ⟨ci, e2, -, -⟩ := DataW.trod_int Try.underlying3 g2
      obtain ⟨s, e3, -, hs⟩ := DataW.trod_string Try.underlying9 g3
      injection e0 with e0
      injection e1 with e1
      injection e2 with e2
      injection e3 with e3
      subst e0 e1 e2 e3
      refine ⟨⟨ki, ti, ci, s⟩, ⟨hs, wk⟩, fun j v hv => ?_⟩
      have hj : j < 4 := (List.getElem?_eq_some_iff.1 hv).1
      have e := hcell j hj
      rw [e]
      exact hv
  haveI : Inhabited IV := ⟨⟨0, 0, 0, ⟨#[]⟩⟩⟩
  obtain ⟨f, hf⟩ : ∃ f : Nat → IV, ∀ i, i < len → ((f i).s.size ≤ maxLen ∧ (Lit.int .i64 (f i).k).wf = true) ∧ ∀ j v, (ivc (f i))[j]? = some v → w.cell? ((a.add (i * 4)).add j) = some v := choose_lt each
  refine ⟨some a, len, cap, (List.range len).map f, rfl, hl, hm, ⟨by simp, fun hp => ?_⟩, ?_⟩
  · obtain ⟨b, off, spot⟩ := a
    have h0 := (hf 0 hp).2 0 (.int .i64 (f 0).k) rfl
    have hspot : spot = none := by simpa [Addr.add] using World.cell?_spot h0
    subst hspot
    refine ⟨b, off, rfl, ?_, fun j v hv => ?_⟩
    · have h1 := World.block_lt_of_cell? w _ h0
      simpa [Addr.add] using h1
    · have hjl : j < len * 4 := by
        have := (List.getElem?_eq_some_iff.1 hv).1
        rw [ivs_len] at this
        simpa using this
      have hq : j / 4 < len := by omega
      have hr : j % 4 < 4 := by omega
      have e : j = j / 4 * 4 + j % 4 := by omega
      have h1 := ivs_at ((List.range len).map f) (j / 4) (by simpa using hq) (j % 4) hr
      rw [← e, hv] at h1
      have h2 : ((List.range len).map f)[j / 4]'(by simpa using hq) = f (j / 4) := by simp
      rw [h2] at h1
      have h3 := (hf (j / 4) hq).2 (j % 4) v h1.symm
      rw [Addr.add_mid, Addr.add_mid] at h3
      rw [show off + j = off + j / 4 * 4 + j % 4 by omega]
      exact h3
  · intro y hy
    obtain ⟨i, hi, rfl⟩ := List.mem_map.1 hy
    exact (hf i (List.mem_range.1 hi)).1
end Go.Proofs.Ytokfldecjknamaa
