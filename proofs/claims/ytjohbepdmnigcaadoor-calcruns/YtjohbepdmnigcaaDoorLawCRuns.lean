import Derived.Test.YtjohbepdmnigcaaDoorCalK
import Derived.Test.YtjohbepdmnigcaaDoorCalJ
import Derived.Test.YtjohbepdmnigcaaDoorCalP
/-
  Steps in two pieces, with lists of numbers; parts of a row of steps.
-/
namespace Go.Proofs.YtjohbepdmnigcaaDoor
open Go.RowKit
set_option linter.unusedVariables false

theorem runL_app (m : List St) : ∀ (l : List St) i xs, runL (l ++ m) i xs = if (runL l i xs).2.2 = 0 then runL m (i + l.length) (runL l i xs).1 else runL l i xs := by
  intro l
  induction l with
  | nil => intro i xs; simp [runL]
  | cons s l ih =>
    intro i xs
    rw [List.cons_append, runL, runL]
    by_cases h : stepE s.1 s.2 xs = 0
    · rw [if_pos h, if_pos h, ih, List.length_cons, show i + 1 + l.length = i + (l.length + 1) by omega]
    · rw [if_neg h, if_neg h, if_neg h]
theorem runL_shift (k : Nat) : ∀ (l : List St) i xs, ((runL l i xs).2.1 = -1 ∧ runL l (i + k) xs = runL l i xs) ∨ ∃ m : Nat, m < i + l.length ∧ i ≤ m ∧ (runL l i xs).2.1 = (m : Int) ∧ runL l (i + k) xs = ((runL l i xs).1, (m : Int) + (k : Int), (runL l i xs).2.2) := by
  intro l
  induction l with
  | nil => intro i xs; exact Or.inl ⟨rfl, rfl⟩
  | cons s l ih =>
    intro i xs
    rw [runL, runL]
    by_cases h : stepE s.1 s.2 xs = 0
    · rw [if_pos h, if_pos h, show i + k + 1 = i + 1 + k by omega]
      rcases ih (i + 1) (act s.1.toNat s.2 xs) with h1 | ⟨m, h1, h2, h3⟩
      · exact Or.inl h1
      · exact Or.inr ⟨m, by rw [List.length_cons]; omega, by omega, h3⟩
    · rw [if_neg h, if_neg h]
      exact Or.inr ⟨i, by rw [List.length_cons]; omega, Nat.le_refl _, rfl, by simp⟩
theorem runL_good64 : ∀ (l : List St) i xs, xs.length ≤ 64 → (runL l i xs).2.2 = 0 → (runL l i xs).2.1 = -1 ∧ (runL l i xs).1.length ≤ 64 := by
  intro l
  induction l with
  | nil => intro i xs hx _; exact ⟨rfl, hx⟩
  | cons s l ih =>
    intro i xs hx
    rw [runL]
    by_cases h : stepE s.1 s.2 xs = 0
    · rw [if_pos h]
      refine ih (i + 1) _ ?_
      unfold stepE at h
      split at h
      · omega
      · split at h
        · omega
        · split at h
          · omega
          · omega
    · rw [if_neg h]
      exact fun e => absurd e h

/-- What steps in two pieces come to. -/
theorem pieces (L : List St) (n : Nat) (xs : List Nat) (hx : xs.length ≤ 64) (hn : n ≤ L.length) :
    (∃ ys p e, e ≠ 0 ∧ runA (L.take n) xs = (ys, p, e) ∧ runA L xs = (ys, p, e)) ∨
    (∃ ys zs f, runA (L.take n) xs = (ys, -1, 0) ∧ ys.length ≤ 64 ∧ runA (L.drop n) ys = (zs, -1, f) ∧ runA L xs = (zs, -1, f)) ∨
    (∃ ys zs m f, runA (L.take n) xs = (ys, -1, 0) ∧ ys.length ≤ 64 ∧ m < L.length ∧ runA (L.drop n) ys = (zs, ((m : Nat) : Int), f) ∧ runA L xs = (zs, ((m : Nat) : Int) + (n : Int), f)) := by
  have e1 : ∀ l, runA l xs = runL l 0 xs := fun l => by unfold runA; rw [if_neg (by omega)]
  have ha := runL_app (L.drop n) (L.take n) 0 xs
  rw [List.take_append_drop, List.length_take, Nat.min_eq_left hn] at ha
  rw [e1, e1, ha]
  by_cases h0 : (runL (L.take n) 0 xs).2.2 = 0
  · right
    rw [if_pos h0]
    obtain ⟨h1, h2⟩ := runL_good64 _ _ _ hx h0
    have e2 : runL (L.take n) 0 xs = ((runL (L.take n) 0 xs).1, -1, 0) := by
      apply Prod.ext
      · rfl
      · exact Prod.ext h1 h0
    generalize (runL (L.take n) 0 xs).1 = ys at e2 h2 ⊢
    have e3 : ∀ l, runA l ys = runL l 0 ys := fun l => by unfold runA; rw [if_neg (by omega)]
    rcases runL_shift n (L.drop n) 0 ys with ⟨h3, h4⟩ | ⟨m, h3, _, h4, h5⟩
    · left
      rw [Nat.zero_add] at h4
      refine ⟨ys, (runL (L.drop n) 0 ys).1, (runL (L.drop n) 0 ys).2.2, e2, h2, ?_, ?_⟩
      · rw [e3]
        exact Prod.ext rfl (Prod.ext h3 rfl)
      · rw [Nat.zero_add, h4]
        exact Prod.ext rfl (Prod.ext h3 rfl)
    · right
      refine ⟨ys, (runL (L.drop n) 0 ys).1, m, (runL (L.drop n) 0 ys).2.2, e2, h2, ?_, ?_, ?_⟩
      · rw [List.length_drop] at h3; omega
      · rw [e3]
        exact Prod.ext rfl (Prod.ext h4 rfl)
      · exact h5
  · left
    rw [if_neg h0]
    exact ⟨_, _, _, h0, rfl, rfl⟩

/-- l[k:] and l[:k] of an own row of steps. -/
theorem cutS_own {w : World} {b : Nat} {v : Value} {L : List St} (h : OwnS w b v L) (k : Nat) (hk : k ≤ L.length) :
    ∃ A1 c1, (∀ w, (Instr.slice 32 v (some (.int .i64 (k : Int))) none none).run Tryd.prog w = .ok (.slice A1 (L.length - k) c1) w) ∧ RdS w w.heap.size A1 (L.length - k) (L.drop k) := by
  obtain ⟨A, c, rfl, hc, hm, hr⟩ := h.rd
  rcases h.row.2 with ⟨e, hn⟩ | ⟨g, cap, cur, hv, _⟩
  · injection e with e1 e2 e3
    subst e1 e3
    have hL : L = [] := List.eq_nil_of_length_eq_zero hn
    subst hL
    have hk0 : k = 0 := by simpa using hk
    subst hk0
    refine ⟨none, 0, fun w => ?_, RdS.nil _ _ _⟩
    have hb := run_sliceBound (P := Tryd.prog) (w := w) .i64 ((0 : Nat) : Int) 0 .sliceB (by omega) (by omega)
    simp at hb
    simp [Instr.slice, run_underlying Tryd.underlying32, Instr.sliceBounds, hb, Tryd.sizeOf46]
  · injection hv with e1 e2 e3
    subst e1 e3
    obtain ⟨A1, h1, h2⟩ := cutS_eq g c k hr hk hc
    exact ⟨A1, _, h1, h2⟩

/-- What CalcPieces keeps. -/
structure EnvC (w0 wr : World) (va vW vH : Value) (l zs : List Nat) : Prop where
  a : Pile wr w0.heap.size va l
  x : Pile wr w0.heap.size vW zs
  y : Pile wr w0.heap.size vH zs
  b : Below w0.heap.size w0 wr
theorem EnvC.up {w0 wr w' : World} {va vW vH : Value} {l zs : List Nat} (h : EnvC w0 wr va vW vH l zs) (hb : Below wr.heap.size wr w') : EnvC w0 w' va vW vH l zs :=
  ⟨h.a.below hb, h.x.below hb, h.y.below hb, h.b.trans (hb.mono h.b.size)⟩
theorem Pile.el_at {w : World} {b n cap : Nat} {A : Option Addr} {xs : List Nat} (h : Pile w b (.slice A n cap) xs) (i : Nat) (hi : i < xs.length) : ∃ g, A = some ⟨g, 0, none⟩ ∧ ∃ r0 r1 r2 r3 : Int, El (w4 r0 r1 r2 r3) (xs.getD i 0) ∧
      w.cell? ⟨g, i * 4, none⟩ = some (.int .u64 r0) ∧ w.cell? ⟨g, i * 4 + 1, none⟩ = some (.int .u64 r1) ∧ w.cell? ⟨g, i * 4 + 2, none⟩ = some (.int .u64 r2) ∧ w.cell? ⟨g, i * 4 + 3, none⟩ = some (.int .u64 r3) := by
  obtain ⟨g', cap', hv, _, _, _, _, _, h'⟩ := h.at_ i hi
  injection hv with e1 _ _
  exact ⟨g', e1, h'⟩
theorem runL_len64 : ∀ (l : List St) i xs, xs.length ≤ 64 → (runL l i xs).1.length ≤ 64 := by
  intro l
  induction l with
  | nil => intro i xs hx; exact hx
  | cons s l ih =>
    intro i xs hx
    rw [runL]
    by_cases h : stepE s.1 s.2 xs = 0
    · rw [if_pos h]
      refine ih (i + 1) _ ?_
      unfold stepE at h
      split at h
      · omega
      · split at h
        · omega
        · split at h
          · omega
          · omega
    · rw [if_neg h]
      exact Nat.zero_le _
theorem runA_len64 {L : List St} {xs ys : List Nat} {p : Int} {e : Nat} (h : runA L xs = (ys, p, e)) : ys.length ≤ 64 := by
  unfold runA at h
  split at h
  · injection h with h _
    rw [← h]; exact Nat.zero_le _
  · have := runL_len64 L 0 xs (by omega)
    rw [h] at this
    exact this
/-- The same, and one element's cells, kept through calls. -/
structure EnvQ (w0 : World) (va vW vH : Value) (l zs : List Nat) (g i : Nat) (r0 r1 r2 r3 : Int) (w : World) : Prop where
  e : EnvC w0 w va vW vH l zs
  gl : Glob w
  s : g < w.heap.size
  c : w.cell? ⟨g, i * 4, none⟩ = some (.int .u64 r0) ∧ w.cell? ⟨g, i * 4 + 1, none⟩ = some (.int .u64 r1) ∧ w.cell? ⟨g, i * 4 + 2, none⟩ = some (.int .u64 r2) ∧ w.cell? ⟨g, i * 4 + 3, none⟩ = some (.int .u64 r3)
theorem EnvQ.up {w0 w w' : World} {va vW vH : Value} {l zs : List Nat} {g i : Nat} {r0 r1 r2 r3 : Int} (h : EnvQ w0 va vW vH l zs g i r0 r1 r2 r3 w) (hb : Below w.heap.size w w') : EnvQ w0 va vW vH l zs g i r0 r1 r2 r3 w' := by
  have k : ∀ j, w'.cell? ⟨g, j, none⟩ = w.cell? ⟨g, j, none⟩ := fun j => hb.cell (p := ⟨g, j, none⟩) h.s
  obtain ⟨c0, c1, c2, c3⟩ := h.c
  exact ⟨h.e.up hb, h.gl.up hb, Nat.lt_of_lt_of_le h.s hb.size, ⟨(k _).trans c0, (k _).trans c1, (k _).trans c2, (k _).trans c3⟩⟩
end Go.Proofs.YtjohbepdmnigcaaDoor
/-
  avouchlaw03.CalcRuns: the walk.
-/
namespace Go.Proofs.YtjohbepdmnigcaaDoor
open Go.RowKit
set_option linter.unusedVariables false

/-- What CalcRuns keeps. -/
structure EnvR (w0 wr : World) (vG vX : Value) (zs : List Nat) : Prop where
  g : Pile wr w0.heap.size vG zs
  x : Digs wr vX zs
  b : Below w0.heap.size w0 wr
theorem EnvR.up {w0 wr w' : World} {vG vX : Value} {zs : List Nat} (h : EnvR w0 wr vG vX zs) (hb : Below wr.heap.size wr w') : EnvR w0 w' vG vX zs :=
  ⟨h.g.below hb, h.x.up hb, h.b.trans (hb.mono h.b.size)⟩
theorem Digs.at_ {w : World} {A : Option Addr} {n c : Nat} {xs : List Nat} (h : Digs w (.slice A n c) xs) (i : Nat) (hi : i < xs.length) : ∃ b, A = some ⟨b, 0, none⟩ ∧ ∃ d, w.cell? ⟨b, i, none⟩ = some d ∧ Dg w d (xs.getD i 0) := by
  obtain ⟨A', c', e, h1, h2, h3⟩ := h.ex
  injection e with e1 e2 e3
  subst e1
  obtain ⟨b, hb, -, h5⟩ := h3 (by omega)
  obtain ⟨d, -, h6, h7⟩ := h5 i hi
  exact ⟨b, hb, d, h6, h7⟩

set_option maxRecDepth 100000 in
set_option maxHeartbeats 8000000 in
theorem calcRuns_w (A0 : Option Addr) (n0 c0 : Nat) (st : List St) (A1 : Option Addr) (n1 c1 : Nat) (l : List Nat) (w : World) (s0 : RdS w w.heap.size A0 n0 st) (r0 : Rd w w.heap.size A1 n1 l) (hG : Gc w.heap.size w) :
    Calls Tryd.prog 3 #[.slice A0 n0 c0, .slice A1 n1 c1] w fun e w' => e = .returned (.bool true) ∧ Below w.heap.size w w' := by
  by_cases g0 : n0 ≤ 60 ∧ n1 ≤ 80
  · obtain ⟨g1, g2⟩ := g0
    have d1 : decide ((60 : Int) < (n0 : Int)) = false := decide_eq_false (by omega)
    have d2 : decide ((80 : Int) < (n1 : Int)) = false := decide_eq_false (by omega)
    go_enter Tryd.func3, Tryd.ntmps3
    go_wp2_with fail
    refine (speaks3_c w hG).mono ?_
    rintro e w1 ⟨rfl, hb1⟩
    have hG1 := (hG.below hb1).more hb1.size
    have r1 := r0.up hb1 (Nat.le_refl _)
    have s1 := s0.up hb1 (Nat.le_refl _)
    go_wp2_with fail
    refine (first_c A1 n1 c1 l w1 r1 (by omega) hG1.g).mono ?_
    rintro e w2 ⟨va, vb, rfl, hP2, hD2, hb2⟩
    have hpl := hP2.el
    obtain ⟨Aa, ca, hva, hca, hcm, hRE⟩ := hP2.form
    obtain ⟨Ab, cb, hvb, -, -, -⟩ := hD2.ex
    rw [r0.len] at hva hca hRE hvb
    subst hva
    subst hvb
    have hb02 := hb1.trans (hb2.mono hb1.size)
    have s2 := s1.up hb2 (Nat.le_refl _)
    clear r1 hP2 s1 hG1 d1 d2
    go_wp2_with fail
    refine (of_c A0 n0 c0 st w2 s2 (by omega)).mono ?_
    rintro e w3 ⟨vo, rfl, hO3, hb3⟩
    have hb03 := hb02.trans (hb3.mono hb02.size)
    have hRE3 := (hRE.below hb3 (Nat.le_refl _)).more hb3.size
    have hD3 := hD2.up hb3
    have s3 := s2.up hb3 (Nat.le_refl _)
    have hG3 := (hG.below hb03).more hb03.size
    have hl0 := s0.len
    obtain ⟨Ao, co, hvo, hco, hcmo, hSo⟩ := hO3.rd
    rw [hl0] at hvo hco hSo
    subst hvo
    obtain ⟨zs, p, er, hrun⟩ : ∃ zs p er, runA st l = (zs, p, er) := ⟨_, _, _, rfl⟩
    have hzl := runA_len64 hrun
    have HRun := hid hrun
    have HPl := hid hpl
    have hlX : l.length ≤ 1000 := by rw [r0.len]; omega
    clear hO3 hb3 hRE hb02 s2 hb1 hb2 hl0 hD2 hrun hpl
    go_wp2_with fail
    refine (run_c Ao Aa n0 co n1 ca st l w3 hSo (by omega) hRE3 (by omega) hG3 zs p er HRun.out).mono ?_
    rintro e w4 ⟨vG, rfl, hW4, hb4⟩
    have hb04 := hb03.trans (hb4.mono hb03.size)
    have hD4 := hD3.up hb4
    have s4 := s3.up hb4 (Nat.le_refl _)
    have hW := hW4.mono hb03.size
    clear hW4 hSo hRE3 hG3 hD3 s3 hb4 hb03
    go_wp2_with fail
    refine (refRun_c A0 n0 c0 _ st l w4 s4 (by omega) hD4 HPl.out hlX zs p er HRun.out).mono ?_
    rintro e w5 ⟨vX, rfl, hX5, hzp, hb5⟩
    have hE : EnvR w w5 vG vX zs := ⟨hW.below hb5, hX5, hb04.trans (hb5.mono hb04.size)⟩
    obtain ⟨AG, cG, hvG, hcG, -, -⟩ := hE.g.form
    obtain ⟨AX, cX, hvX, hcX, -, -⟩ := hE.x.ex
    have HZp := hid hzp
    subst hvG
    subst hvX
    obtain ⟨nz, hnz⟩ : ∃ x, x = zs.length := ⟨_, rfl⟩
    rw [← hnz] at hE hcG hcX hzl ⊢
    have HNz := hid hnz
    clear hnz hW hX5 hzp hb5 hb04 hD4 s4 HRun HPl hlX s0 r0
    go_wp2
    go_loopw [65] (fun i wr => ∃ j : Nat, j ≤ nz ∧ i = .int .i64 j ∧ EnvR w wr (.slice AG nz cG) (.slice AX nz cX) zs) (fun i _ => nz - (intOf i).toNat)
    case atStart => exact ⟨0, by omega, rfl, hE⟩
    case round =>
      obtain ⟨j, hj, rfl, hR⟩ := hrel
      by_cases hjl : j < nz
      · have j0 : (0 : Int) ≤ (j : Int) := by omega
        have j1 : (j : Int) < (nz : Int) := by omega
        have hjx : j < zs.length := by rw [← HNz.out]; exact hjl
        obtain ⟨gG, rfl, a0, a1, a2, a3, ea, ca0, ca1, ca2, ca3⟩ := hR.g.el_at j hjx
        obtain ⟨gX, rfl, d, cd, hd⟩ := hR.x.at_ j hjx
        have hz256 : zs.getD j 0 < 115792089237316195423570985008687907853269984665640564039457584007913129639936 := Nat.lt_trans (getD_ltp zs HZp.out j) (by decide)
        have HEa := hid ea
        have HDd := hid hd
        have HR := hid hR
        have HGl := hid (hG.below hR.b).g
        obtain ⟨A_d, c_d, l_d, e_d, -⟩ := hd.ex
        subst e_d
        clear ea hd hR hE
        go_wp2_with fail
        refine (is_c _ _ _ _ wr HEa.out HDd.out hz256 HGl.out).mono ?_
        rintro e w6 ⟨rfl, hb6⟩
        rw [decide_eq_true rfl]
        have HRk := hid (HR.out.up hb6)
        clear ca0 ca1 ca2 ca3 cd HEa HDd HR HGl hb6
        go_wp2
        go_roundw
        case rel => exact ⟨j + 1, by omega, by go_num, HRk.out⟩
        case measure => simp [intOf]; omega
      · have hjn : j = nz := by omega
        subst hjn
        have HB := hid hR.b
        clear hR hE
        go_wp2
        go_ret
        exact ⟨rfl, HB.out⟩
  · have hnot : decide ((60 : Int) < (n0 : Int)) = true ∨ (decide ((60 : Int) < (n0 : Int)) = false ∧ decide ((80 : Int) < (n1 : Int)) = true) := by
      by_cases h : n0 ≤ 60
      · exact Or.inr ⟨decide_eq_false (by omega), decide_eq_true (by omega)⟩
      · exact Or.inl (decide_eq_true (by omega))
    rcases hnot with d1 | ⟨d1, d2⟩
    all_goals
      go_enter Tryd.func3, Tryd.ntmps3
      go_wp2_with fail
      refine (speaks3_c w hG).mono ?_
      rintro e w1 ⟨rfl, hb1⟩
      have hG1 := (hG.below hb1).more hb1.size
      go_wp2_with fail
      refine (speaks3_c w1 hG1).mono ?_
      rintro e w2 ⟨rfl, hb2⟩
      have HB := hid (hb1.trans (hb2.mono hb1.size))
      clear hb1 hb2 hG1
      go_wp2
      go_ret
      exact ⟨rfl, HB.out⟩
end Go.Proofs.YtjohbepdmnigcaaDoor
