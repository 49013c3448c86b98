/-
  Sums of rows of elements: turned, and in two pieces.
-/
import Derived.Test.YtjkellpfoogomaaDoorFSumB
namespace Go.Proofs.YtjkellpfoogomaaDoor
open Go.RowKit
set_option linter.unusedVariables false

theorem psum_congr (l m : List Nat) : ∀ n, (∀ i, i < n → l.getD i 0 = m.getD i 0) → psum l n = psum m n := by
  intro n
  induction n with
  | zero => intro _; rfl
  | succ n ih =>
    intro h
    rw [psum, psum, ih (fun i hi => h i (by omega)), h n (by omega)]
theorem psum_cons (x : Nat) (l : List Nat) : ∀ n, psum (x :: l) (n + 1) = x + psum l n := by
  intro n
  induction n with
  | zero => simp [psum]
  | succ n ih =>
    rw [psum, ih, psum]
    simp only [List.getD_cons_succ]
    omega
theorem psum_snoc (l : List Nat) (x : Nat) : psum (l ++ [x]) (l.length + 1) = psum l l.length + x := by
  rw [psum]
  congr 1
  · exact psum_congr _ _ _ fun i hi => by simp [List.getD_eq_getElem?_getD, List.getElem?_append_left hi]
  · simp [List.getD_eq_getElem?_getD]
theorem psum_reverse (l : List Nat) : psum l.reverse l.length = psum l l.length := by
  induction l with
  | nil => rfl
  | cons x l ih =>
    rw [List.reverse_cons, List.length_cons, psum_cons]
    have h := psum_snoc l.reverse x
    rw [List.length_reverse, ih] at h
    rw [h, Nat.add_comm]
theorem psum_take (l : List Nat) (k : Nat) : psum (l.take k) k = psum l k :=
  psum_congr _ _ _ fun i hi => by simp [List.getD_eq_getElem?_getD, hi]
theorem psum_drop (l : List Nat) (k : Nat) : ∀ m, psum l k + psum (l.drop k) m = psum l (k + m) := by
  intro m
  induction m with
  | zero => simp [psum]
  | succ m ih =>
    rw [psum, ← Nat.add_assoc, ih, ← Nat.add_assoc, psum]
    simp [List.getD_eq_getElem?_getD, List.getElem?_drop]
theorem RdE.take {w : World} {B n : Nat} {A : Option Addr} {l : List Nat} (h : RdE w B A n l) (k : Nat) (hk : k ≤ n) : RdE w B A k (l.take k) :=
  ⟨by rw [List.length_take, h.len]; omega, fun hp => by
    obtain ⟨b, off, e, hb, hc⟩ := h.cells (by omega)
    refine ⟨b, off, e, hb, fun i hi => ?_⟩
    obtain ⟨r0, r1, r2, r3, h1, h2⟩ := hc i (by omega)
    exact ⟨r0, r1, r2, r3, by simpa [List.getD_eq_getElem?_getD, List.getElem?_take, hi] using h1, h2⟩⟩
theorem RdE.drop {w : World} {B n b off : Nat} {l : List Nat} (h : RdE w B (some ⟨b, off, none⟩) n l) (k : Nat) (hk : k ≤ n) : RdE w B (some ⟨b, off + k * 4, none⟩) (n - k) (l.drop k) :=
  ⟨by rw [List.length_drop, h.len], fun hp => by
    obtain ⟨b', off', e, hb, hc⟩ := h.cells (by omega)
    simp only [Option.some.injEq, Addr.mk.injEq, and_true] at e
    obtain ⟨rfl, rfl⟩ := e
    refine ⟨b, off + k * 4, rfl, hb, fun i hi => ?_⟩
    obtain ⟨r0, r1, r2, r3, h1, h2⟩ := hc (k + i) (by omega)
    have e : off + (k + i) * 4 = off + k * 4 + i * 4 := by omega
    rw [e] at h2
    exact ⟨r0, r1, r2, r3, by simpa [List.getD_eq_getElem?_getD, List.getElem?_drop] using h1, h2⟩⟩
end Go.Proofs.YtjkellpfoogomaaDoor
