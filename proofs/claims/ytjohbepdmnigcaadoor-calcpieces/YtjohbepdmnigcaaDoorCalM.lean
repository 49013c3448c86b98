/-
  Steps in two pieces, with lists of numbers; parts of a row of steps.
-/
import Derived.Test.YtjohbepdmnigcaaDoorCalK
import Derived.Test.YtjohbepdmnigcaaDoorCalJ
namespace Go.Proofs.YtjohbepdmnigcaaDoor
open Go.RowKit
set_option linter.unusedVariables false

theorem runL_app (m : List St) : ∀ (l : List St) i xs, runL (l ++ m) i xs = if (runL l i xs).2.2 = 0 then runL m (i + l.length) (runL l i xs).1 else runL l i xs := by
  intro l
  induction l with
  | nil => intro i xs; simp [runL]
  | cons s l ih =>
    intro i xs
    rw [List.cons_append, runL, runL]
    by_cases h : stepE s.1 s.2 xs = 0
    · rw [if_pos h, if_pos h, ih, List.length_cons, show i + 1 + l.length = i + (l.length + 1) by omega]
    · rw [if_neg h, if_neg h, if_neg h]
theorem runL_shift (k : Nat) : ∀ (l : List St) i xs, ((runL l i xs).2.1 = -1 ∧ runL l (i + k) xs = runL l i xs) ∨ ∃ m : Nat, m < i + l.length ∧ i ≤ m ∧ (runL l i xs).2.1 = (m : Int) ∧ runL l (i + k) xs = ((runL l i xs).1, (m : Int) + (k : Int), (runL l i xs).2.2) := by
  intro l
  induction l with
  | nil => intro i xs; exact Or.inl ⟨rfl, rfl⟩
  | cons s l ih =>
    intro i xs
    rw [runL, runL]
    by_cases h : stepE s.1 s.2 xs = 0
    · rw [if_pos h, if_pos h, show i + k + 1 = i + 1 + k by omega]
      rcases ih (i + 1) (act s.1.toNat s.2 xs) with h1 | ⟨m, h1, h2, h3⟩
      · exact Or.inl h1
      · exact Or.inr ⟨m, by rw [List.length_cons]; omega, by omega, h3⟩
    · rw [if_neg h, if_neg h]
      exact Or.inr ⟨i, by rw [List.length_cons]; omega, Nat.le_refl _, rfl, by simp⟩
theorem runL_good64 : ∀ (l : List St) i xs, xs.length ≤ 64 → (runL l i xs).2.2 = 0 → (runL l i xs).2.1 = -1 ∧ (runL l i xs).1.length ≤ 64 := by
  intro l
  induction l with
  | nil => intro i xs hx _; exact ⟨rfl, hx⟩
  | cons s l ih =>
    intro i xs hx
    rw [runL]
    by_cases h : stepE s.1 s.2 xs = 0
    · rw [if_pos h]
      refine ih (i + 1) _ ?_
      unfold stepE at h
      split at h
      · omega
      · split at h
        · omega
        · split at h
          · omega
          · omega
    · rw [if_neg h]
      exact fun e => absurd e h

/-- What steps in two pieces come to. -/
theorem pieces (L : List St) (n : Nat) (xs : List Nat) (hx : xs.length ≤ 64) (hn : n ≤ L.length) :
    (∃ ys p e, e ≠ 0 ∧ runA (L.take n) xs = (ys, p, e) ∧ runA L xs = (ys, p, e)) ∨
    (∃ ys zs f, runA (L.take n) xs = (ys, -1, 0) ∧ ys.length ≤ 64 ∧ runA (L.drop n) ys = (zs, -1, f) ∧ runA L xs = (zs, -1, f)) ∨
    (∃ ys zs m f, runA (L.take n) xs = (ys, -1, 0) ∧ ys.length ≤ 64 ∧ m < L.length ∧ runA (L.drop n) ys = (zs, ((m : Nat) : Int), f) ∧ runA L xs = (zs, ((m : Nat) : Int) + (n : Int), f)) := by
  have e1 : ∀ l, runA l xs = runL l 0 xs := fun l => by unfold runA; rw [if_neg (by omega)]
  have ha := runL_app (L.drop n) (L.take n) 0 xs
  rw [List.take_append_drop, List.length_take, Nat.min_eq_left hn] at ha
  rw [e1, e1, ha]
  by_cases h0 : (runL (L.take n) 0 xs).2.2 = 0
  · right
    rw [if_pos h0]
    obtain ⟨h1, h2⟩ := runL_good64 _ _ _ hx h0
    have e2 : runL (L.take n) 0 xs = ((runL (L.take n) 0 xs).1, -1, 0) := by
      apply Prod.ext
      · rfl
      · exact Prod.ext h1 h0
    generalize (runL (L.take n) 0 xs).1 = ys at e2 h2 ⊢
    have e3 : ∀ l, runA l ys = runL l 0 ys := fun l => by unfold runA; rw [if_neg (by omega)]
    rcases runL_shift n (L.drop n) 0 ys with ⟨h3, h4⟩ | ⟨m, h3, _, h4, h5⟩
    · left
      rw [Nat.zero_add] at h4
      refine ⟨ys, (runL (L.drop n) 0 ys).1, (runL (L.drop n) 0 ys).2.2, e2, h2, ?_, ?_⟩
      · rw [e3]
        exact Prod.ext rfl (Prod.ext h3 rfl)
      · rw [Nat.zero_add, h4]
        exact Prod.ext rfl (Prod.ext h3 rfl)
    · right
      refine ⟨ys, (runL (L.drop n) 0 ys).1, m, (runL (L.drop n) 0 ys).2.2, e2, h2, ?_, ?_, ?_⟩
      · rw [List.length_drop] at h3; omega
      · rw [e3]
        exact Prod.ext rfl (Prod.ext h4 rfl)
      · exact h5
  · left
    rw [if_neg h0]
    exact ⟨_, _, _, h0, rfl, rfl⟩

/-- l[k:] and l[:k] of an own row of steps. -/
theorem cutS_own {w : World} {b : Nat} {v : Value} {L : List St} (h : OwnS w b v L) (k : Nat) (hk : k ≤ L.length) :
    ∃ A1 c1, (∀ w, (Instr.slice 32 v (some (.int .i64 (k : Int))) none none).run Tryd.prog w = .ok (.slice A1 (L.length - k) c1) w) ∧ RdS w w.heap.size A1 (L.length - k) (L.drop k) := by
  obtain ⟨A, c, rfl, hc, hm, hr⟩ := h.rd
  rcases h.row.2 with ⟨e, hn⟩ | ⟨g, cap, cur, hv, _⟩
  · injection e with e1 e2 e3
    subst e1 e3
    have hL : L = [] := List.eq_nil_of_length_eq_zero hn
    subst hL
    have hk0 : k = 0 := by simpa using hk
    subst hk0
    refine ⟨none, 0, fun w => ?_, RdS.nil _ _ _⟩
    have hb := run_sliceBound (P := Tryd.prog) (w := w) .i64 ((0 : Nat) : Int) 0 .sliceB (by omega) (by omega)
    simp at hb
    simp [Instr.slice, run_underlying Tryd.underlying32, Instr.sliceBounds, hb, Tryd.sizeOf46]
  · injection hv with e1 e2 e3
    subst e1 e3
    obtain ⟨A1, h1, h2⟩ := cutS_eq g c k hr hk hc
    exact ⟨A1, _, h1, h2⟩

/-- What CalcPieces keeps. -/
structure EnvC (w0 wr : World) (va vW vH : Value) (l zs : List Nat) : Prop where
  a : Pile wr w0.heap.size va l
  x : Pile wr w0.heap.size vW zs
  y : Pile wr w0.heap.size vH zs
  b : Below w0.heap.size w0 wr
theorem EnvC.up {w0 wr w' : World} {va vW vH : Value} {l zs : List Nat} (h : EnvC w0 wr va vW vH l zs) (hb : Below wr.heap.size wr w') : EnvC w0 w' va vW vH l zs :=
  ⟨h.a.below hb, h.x.below hb, h.y.below hb, h.b.trans (hb.mono h.b.size)⟩
theorem Pile.el_at {w : World} {b n cap : Nat} {A : Option Addr} {xs : List Nat} (h : Pile w b (.slice A n cap) xs) (i : Nat) (hi : i < xs.length) : ∃ g, A = some ⟨g, 0, none⟩ ∧ ∃ r0 r1 r2 r3 : Int, El (w4 r0 r1 r2 r3) (xs.getD i 0) ∧
      w.cell? ⟨g, i * 4, none⟩ = some (.int .u64 r0) ∧ w.cell? ⟨g, i * 4 + 1, none⟩ = some (.int .u64 r1) ∧ w.cell? ⟨g, i * 4 + 2, none⟩ = some (.int .u64 r2) ∧ w.cell? ⟨g, i * 4 + 3, none⟩ = some (.int .u64 r3) := by
  obtain ⟨g', cap', hv, _, _, _, _, _, h'⟩ := h.at_ i hi
  injection hv with e1 _ _
  exact ⟨g', e1, h'⟩
theorem runL_len64 : ∀ (l : List St) i xs, xs.length ≤ 64 → (runL l i xs).1.length ≤ 64 := by
  intro l
  induction l with
  | nil => intro i xs hx; exact hx
  | cons s l ih =>
    intro i xs hx
    rw [runL]
    by_cases h : stepE s.1 s.2 xs = 0
    · rw [if_pos h]
      refine ih (i + 1) _ ?_
      unfold stepE at h
      split at h
      · omega
      · split at h
        · omega
        · split at h
          · omega
          · omega
    · rw [if_neg h]
      exact Nat.zero_le _
theorem runA_len64 {L : List St} {xs ys : List Nat} {p : Int} {e : Nat} (h : runA L xs = (ys, p, e)) : ys.length ≤ 64 := by
  unfold runA at h
  split at h
  · injection h with h _
    rw [← h]; exact Nat.zero_le _
  · have := runL_len64 L 0 xs (by omega)
    rw [h] at this
    exact this
/-- The same, and one element's cells, kept through calls. -/
structure EnvQ (w0 : World) (va vW vH : Value) (l zs : List Nat) (g i : Nat) (r0 r1 r2 r3 : Int) (w : World) : Prop where
  e : EnvC w0 w va vW vH l zs
  gl : Glob w
  s : g < w.heap.size
  c : w.cell? ⟨g, i * 4, none⟩ = some (.int .u64 r0) ∧ w.cell? ⟨g, i * 4 + 1, none⟩ = some (.int .u64 r1) ∧ w.cell? ⟨g, i * 4 + 2, none⟩ = some (.int .u64 r2) ∧ w.cell? ⟨g, i * 4 + 3, none⟩ = some (.int .u64 r3)
theorem EnvQ.up {w0 w w' : World} {va vW vH : Value} {l zs : List Nat} {g i : Nat} {r0 r1 r2 r3 : Int} (h : EnvQ w0 va vW vH l zs g i r0 r1 r2 r3 w) (hb : Below w.heap.size w w') : EnvQ w0 va vW vH l zs g i r0 r1 r2 r3 w' := by
  have k : ∀ j, w'.cell? ⟨g, j, none⟩ = w.cell? ⟨g, j, none⟩ := fun j => hb.cell (p := ⟨g, j, none⟩) h.s
  obtain ⟨c0, c1, c2, c3⟩ := h.c
  exact ⟨h.e.up hb, h.gl.up hb, Nat.lt_of_lt_of_le h.s hb.size, ⟨(k _).trans c0, (k _).trans c1, (k _).trans c2, (k _).trans c3⟩⟩
end Go.Proofs.YtjohbepdmnigcaaDoor
