/-
  What calc's pile functions do.
-/
import Derived.Test.YtjohbepdmnigcaaDoorCalA
import Derived.Deep.RegionWith
namespace Go.Proofs.YtjohbepdmnigcaaDoor
open Go.RowKit
set_option linter.unusedVariables false

set_option maxRecDepth 20000 in
theorem turn_c (F : Nat) (f : Nat → Nat) (hent : ∀ (args : Array Value) (w : World), (callFunc F args).run Tryd.prog w = .ok (.enter F args) w) (hF : ∀ u x w, El u x → Glob w → Calls Tryd.prog F #[u] w fun e w' => ∃ r, e = .returned r ∧ El r (f x) ∧ Below w.heap.size w w')
    (v : Value) (base x : Nat) (xs : List Nat) (w : World) (hP : Pile w base v (xs ++ [x])) (hl : xs.length ≤ 1000) (hG : Glob w) :
    Calls Tryd.prog 51 #[v, .func (.func F) #[] #[]] w fun e w' => ∃ v', e = .returned v' ∧ Pile w' base v' (xs ++ [f x]) ∧ Moved w w' v v' := by
  obtain ⟨g, cap, hv, hc, hm, hbg, hg, hfr, r0, r1, r2, r3, he, c0, c1, c2, c3⟩ := hP.at_ xs.length (by simp)
  rw [getD_top] at he
  have hn : (xs ++ [x]).length = xs.length + 1 := by simp
  rw [hn] at hv hc
  have HE := hid he
  have HP := hid hP
  clear he hP hn
  obtain ⟨n, hxn⟩ : ∃ n, n = xs.length := ⟨_, rfl⟩
  rw [← hxn] at hv hc hl c0 c1 c2 c3
  have HN := hid hxn
  clear hxn
  subst hv
  go_enter Tryd.func51, Tryd.ntmps51
  go_wp2_with fail
  refine (hF _ x w HE.out hG).mono ?_
  rintro e w1 ⟨r, rfl, hr, hb1⟩
  obtain ⟨s0, s1, s2, s3, rfl, -, -, -⟩ := hr.ex
  have HR := hid hr
  have f1 : ∀ j, w1.frozen? ⟨g, j, none⟩ = false := fun j => (hb1.frozen (p := ⟨g, j, none⟩) hg).trans (hfr j)
  have HP1 := hid (HP.out.below hb1)
  have d0 := (hb1.cell (p := ⟨g, n * 4, none⟩) hg).trans c0
  have d1 := (hb1.cell (p := ⟨g, n * 4 + 1, none⟩) hg).trans c1
  have d2 := (hb1.cell (p := ⟨g, n * 4 + 2, none⟩) hg).trans c2
  have d3 := (hb1.cell (p := ⟨g, n * 4 + 3, none⟩) hg).trans c3
  have GB := hid (gb_set4 (gb_below hb1 (some g)) (n * 4) (n * 4 + 1) (n * 4 + 2) (n * 4 + 3) (.int .u64 s0) (.int .u64 s1) (.int .u64 s2) (.int .u64 s3))
  clear hr hb1 c0 c1 c2 c3 hfr hG hF hent
  unfold w4
  go_wp2
  go_ret
  refine ⟨_, rfl, ?_, ⟨GB.out, Or.inl rfl⟩⟩
  have := HP1.out.set xs.length (by simp) HR.out
  rw [set_top, ← HN.out] at this
  exact this

/-- A pile of two and more: the cells of the two upper ones. -/
theorem Pile.two {w : World} {b : Nat} {v : Value} {xs : List Nat} {x y : Nat} (h : Pile w b v (xs ++ [x, y])) :
    ∃ g cap, v = .slice (some ⟨g, 0, none⟩) (xs.length + 2) cap ∧ xs.length + 2 ≤ cap ∧ cap ≤ maxLen ∧ b ≤ g ∧ g < w.heap.size ∧ (∀ j, w.frozen? ⟨g, j, none⟩ = false) ∧ ∃ r0 r1 r2 r3 s0 s1 s2 s3 : Int, El (w4 r0 r1 r2 r3) x ∧ El (w4 s0 s1 s2 s3) y ∧
      (w.cell? ⟨g, xs.length * 4, none⟩ = some (.int .u64 r0) ∧ w.cell? ⟨g, xs.length * 4 + 1, none⟩ = some (.int .u64 r1) ∧ w.cell? ⟨g, xs.length * 4 + 2, none⟩ = some (.int .u64 r2) ∧ w.cell? ⟨g, xs.length * 4 + 3, none⟩ = some (.int .u64 r3)) ∧
      (w.cell? ⟨g, (xs.length + 1) * 4, none⟩ = some (.int .u64 s0) ∧ w.cell? ⟨g, (xs.length + 1) * 4 + 1, none⟩ = some (.int .u64 s1) ∧ w.cell? ⟨g, (xs.length + 1) * 4 + 2, none⟩ = some (.int .u64 s2) ∧ w.cell? ⟨g, (xs.length + 1) * 4 + 3, none⟩ = some (.int .u64 s3)) := by
  obtain ⟨g, cap, hv, hc, hm, hbg, hg, hfr, r0, r1, r2, r3, he, c0, c1, c2, c3⟩ := h.at_ xs.length (by simp)
  obtain ⟨g', cap', hv', hc', hm', hbg', hg', hfr', s0, s1, s2, s3, he', d0, d1, d2, d3⟩ := h.at_ (xs.length + 1) (by simp)
  rw [getD_low] at he
  rw [getD_top2] at he'
  rw [hv] at hv'
  injection hv' with e1 e2 e3
  injection e1 with e1
  injection e1 with e1
  subst e1 e3
  have hn : (xs ++ [x, y]).length = xs.length + 2 := by simp
  rw [hn] at hv hc
  exact ⟨g, cap, hv, hc, hm, hbg, hg, hfr, r0, r1, r2, r3, s0, s1, s2, s3, he, he', ⟨c0, c1, c2, c3⟩, d0, d1, d2, d3⟩

set_option maxRecDepth 20000 in
theorem join_c (F : Nat) (f : Nat → Nat → Nat) (hent : ∀ (args : Array Value) (w : World), (callFunc F args).run Tryd.prog w = .ok (.enter F args) w)
    (hF : ∀ u v x y w, El u x → El v y → Glob w → Calls Tryd.prog F #[u, v] w fun e w' => ∃ r, e = .returned r ∧ El r (f x y) ∧ Below w.heap.size w w')
    (v : Value) (base x y : Nat) (xs : List Nat) (w : World) (hP : Pile w base v (xs ++ [x, y])) (hl : xs.length ≤ 1000) (hG : Glob w) :
    Calls Tryd.prog 47 #[v, .func (.func F) #[] #[]] w fun e w' => ∃ v', e = .returned v' ∧ Pile w' base v' (xs ++ [f x y]) ∧ Moved w w' v v' := by
  obtain ⟨g, cap, hv, hc, hm, hbg, hg, hfr, r0, r1, r2, r3, s0, s1, s2, s3, hx, hy, ⟨c0, c1, c2, c3⟩, ⟨d0, d1, d2, d3⟩⟩ := hP.two
  have HX := hid hx
  have HY := hid hy
  have HP := hid hP
  clear hx hy hP
  obtain ⟨n, hxn⟩ : ∃ n, n = xs.length := ⟨_, rfl⟩
  rw [← hxn] at hv hc hl c0 c1 c2 c3 d0 d1 d2 d3
  have HN := hid hxn
  clear hxn
  obtain ⟨m, hmn⟩ : ∃ m, m = n + 1 := ⟨_, rfl⟩
  rw [show n + 2 = m + 1 by omega] at hv hc
  rw [← hmn] at d0 d1 d2 d3
  have HM := hid hmn
  have m1 : IntKind.i64.wrap ((m : Int) - 1) = (n : Int) := by rw [IntKind.wrap_i64]; omega
  have m2 : (n : Int) < (m : Int) + 1 := by omega
  have m3 : m ≤ 1001 := by omega
  have m4 : (0 : Int) ≤ (n : Int) := by omega
  have m5 : (0 : Int) ≤ (m : Int) := by omega
  have m6 : (m : Int) < (m : Int) + 1 := by omega
  clear hmn
  subst hv
  have HG := hid hG
  have HE := hid hF
  clear hG hF
  go_enter Tryd.func47, Tryd.ntmps47
  go_wp2_with fail
  go_region_with (
    (refine (HE.out _ _ x y _ HX.out HY.out (HG.out.up (by go_grown))).mono ?_
     rintro e w1 ⟨r, rfl, hr, hb1⟩
     obtain ⟨t0, t1, t2, t3, rfl, -, -, -⟩ := hr.ex
     have HR := hid hr
     have hb2 : Below w.heap.size w w1 := Below.trans (by go_grown) (Below.mono hb1 (by simp))
     have f1 : ∀ j, w1.frozen? ⟨g, j, none⟩ = false := fun j => (hb2.frozen (p := ⟨g, j, none⟩) hg).trans (hfr j)
     have e0 := (hb2.cell (p := ⟨g, n * 4, none⟩) hg).trans c0
     have e1 := (hb2.cell (p := ⟨g, n * 4 + 1, none⟩) hg).trans c1
     have e2 := (hb2.cell (p := ⟨g, n * 4 + 2, none⟩) hg).trans c2
     have e3 := (hb2.cell (p := ⟨g, n * 4 + 3, none⟩) hg).trans c3
     clear hr hb1
     unfold w4))
  all_goals
    have GB := hid (gb_set4 (gb_below hb2 (some g)) (n * 4) (n * 4 + 1) (n * 4 + 2) (n * 4 + 3) (.int .u64 t0) (.int .u64 t1) (.int .u64 t2) (.int .u64 t3))
    have HQ := (HP.out.below hb2).set xs.length (by simp) HR.out
    rw [set_low, ← HN.out] at HQ
    have HQ2 := HQ.cut m (by omega)
    rw [show List.take m (xs ++ [f x y, y]) = xs ++ [f x y] by rw [HM.out, HN.out, List.take_append, List.take_of_length_le (by omega)]; simp] at HQ2
    have HQ3 := hid HQ2
    clear HQ HQ2 hb2 HR
    go_wp2
    go_ret
    exact ⟨_, rfl, HQ3.out, ⟨GB.out, Or.inl rfl⟩⟩

set_option maxRecDepth 20000 in
theorem swap_c (v : Value) (base x y : Nat) (xs : List Nat) (N : Int) (w : World) (hP : Pile w base v (xs ++ [x, y])) (hl : xs.length ≤ 1000) :
    Calls Tryd.prog 33 #[v, .int .u64 N] w fun e w' => ∃ v', e = .returned v' ∧ Pile w' base v' (xs ++ [y, x]) ∧ Moved w w' v v' := by
  obtain ⟨g, cap, hv, hc, hm, hbg, hg, hfr, r0, r1, r2, r3, s0, s1, s2, s3, hx, hy, ⟨c0, c1, c2, c3⟩, ⟨d0, d1, d2, d3⟩⟩ := hP.two
  have HX := hid hx
  have HY := hid hy
  have HP := hid hP
  clear hx hy hP
  obtain ⟨n, hxn⟩ : ∃ n, n = xs.length := ⟨_, rfl⟩
  rw [← hxn] at hv hc hl c0 c1 c2 c3 d0 d1 d2 d3
  have HN := hid hxn
  clear hxn
  obtain ⟨m, hmn⟩ : ∃ m, m = n + 1 := ⟨_, rfl⟩
  rw [show n + 2 = m + 1 by omega] at hv hc
  rw [← hmn] at d0 d1 d2 d3
  have HM := hid hmn
  have m1 : IntKind.i64.wrap ((m : Int) - 1) = (n : Int) := by rw [IntKind.wrap_i64]; omega
  have m2 : (n : Int) < (m : Int) + 1 := by omega
  have m3 : m ≤ 1001 := by omega
  have m4 : (0 : Int) ≤ (n : Int) := by omega
  have m5 : (0 : Int) ≤ (m : Int) := by omega
  have m6 : (m : Int) < (m : Int) + 1 := by omega
  clear hmn
  subst hv
  have HQ := HP.out.set (r0 := s0) (r1 := s1) (r2 := s2) (r3 := s3) xs.length (by simp) HY.out
  rw [set_low] at HQ
  have HQ2 := HQ.set (r0 := r0) (r1 := r1) (r2 := r2) (r3 := r3) (xs.length + 1) (by simp) HX.out
  rw [set_top2, ← HN.out, ← HM.out] at HQ2
  have HQ3 := hid HQ2
  have GB := hid (gb_set4 (gb_set4 (gb_refl w (some g)) (n * 4) (n * 4 + 1) (n * 4 + 2) (n * 4 + 3) (.int .u64 s0) (.int .u64 s1) (.int .u64 s2) (.int .u64 s3)) (m * 4) (m * 4 + 1) (m * 4 + 2) (m * 4 + 3) (.int .u64 r0) (.int .u64 r1) (.int .u64 r2) (.int .u64 r3))
  have m7 : n ≠ m := by have := HM.out; omega
  have m8 : m ≠ n := by have := HM.out; omega
  clear HQ HQ2
  go_enter Tryd.func33, Tryd.ntmps33
  go_wp2_with fail
  go_region
  go_wp2
  go_ret
  exact ⟨_, rfl, HQ3.out.drew, ⟨gb_drew GB.out, Or.inl rfl⟩⟩

set_option maxRecDepth 20000 in
theorem drop_c (v : Value) (base x : Nat) (xs : List Nat) (N : Int) (w : World) (hP : Pile w base v (xs ++ [x])) (hl : xs.length ≤ 1000) :
    Calls Tryd.prog 34 #[v, .int .u64 N] w fun e w' => ∃ v', e = .returned v' ∧ Pile w' base v' xs ∧ Moved w w' v v' := by
  obtain ⟨g, cap, hv, hc, hm, hbg, hg, hfr, r0, r1, r2, r3, he, c0, c1, c2, c3⟩ := hP.at_ xs.length (by simp)
  have hn : (xs ++ [x]).length = xs.length + 1 := by simp
  rw [hn] at hv hc
  subst hv
  have hQ := hP.cut xs.length (by omega)
  rw [List.take_left] at hQ
  obtain ⟨n, hxn⟩ : ∃ n, n = xs.length := ⟨_, rfl⟩
  rw [← hxn] at hc hl hQ ⊢
  have HQ := hid hQ
  clear hP hQ he c0 c1 c2 c3 hfr hxn hn
  go_enter Tryd.func34, Tryd.ntmps34
  go_wp2
  go_ret
  exact ⟨_, rfl, HQ.out, ⟨gb_refl _ _, Or.inl rfl⟩⟩

set_option maxRecDepth 20000 in
theorem push_c (v : Value) (base N : Nat) (xs : List Nat) (w : World) (hP : Pile w base v xs) (hl : xs.length ≤ 1000) (hb : base ≤ w.heap.size) (hG : Glob w) (hN : N < 18446744073709551616) :
    Calls Tryd.prog 25 #[v, .int .u64 (N : Int)] w fun e w' => ∃ v', e = .returned v' ∧ Pile w' base v' (xs ++ [N]) ∧ Moved w w' v v' := by
  have HP := hid hP
  clear hP
  go_enter Tryd.func25, Tryd.ntmps25
  go_wp2_with fail
  refine (fromUint64_c N w hN hG).mono ?_
  rintro e w1 ⟨r, rfl, hr, hb1⟩
  obtain ⟨t0, t1, t2, t3, rfl, -, -, -⟩ := hr.ex
  have HR := hid hr
  have HP1 := HP.out.below hb1
  have hb2 : base ≤ w1.heap.size := Nat.le_trans hb hb1.size
  clear hr
  unfold w4
  go_wp2_with (at_builtin; refine app_pile rfl (.tmp 5) (.tmp 8) 51 Tryd.underlying51 rfl v base xs t0 t1 t2 t3 N rfl rfl HP1 hl hb2 HR.out ?_)
  intro v' w' hP' hM'
  have HP' := hid hP'
  have HM' := hid (hM'.pre hb1)
  clear hP' hM' HP1 hb1
  go_wp2
  go_ret
  exact ⟨_, rfl, HP'.out, HM'.out⟩

set_option maxRecDepth 20000 in
theorem copy_c (v : Value) (base k : Nat) (xs : List Nat) (w : World) (hP : Pile w base v xs) (hk : k < xs.length) (hl : xs.length ≤ 1000) (hb : base ≤ w.heap.size) :
    Calls Tryd.prog 32 #[v, .int .u64 (k : Int)] w fun e w' => ∃ v', e = .returned v' ∧ Pile w' base v' (xs ++ [xs.getD (xs.length - 1 - k) 0]) ∧ Moved w w' v v' := by
  obtain ⟨g, cap, hv, hc, hm, hbg, hg, hfr, r0, r1, r2, r3, he, c0, c1, c2, c3⟩ := hP.at_ (xs.length - 1 - k) (by omega)
  have HE := hid he
  have HP := hid hP
  obtain ⟨y, hy⟩ : ∃ y, y = xs.getD (xs.length - 1 - k) 0 := ⟨_, rfl⟩
  rw [← hy] at HE ⊢
  clear he hP hy hfr
  obtain ⟨j, hj⟩ : ∃ j, j = xs.length - 1 - k := ⟨_, rfl⟩
  rw [← hj] at c0 c1 c2 c3
  obtain ⟨n, hn⟩ : ∃ n, n = xs.length := ⟨_, rfl⟩
  rw [← hn] at hv hc hl hj hk
  have HN := hid hn
  obtain ⟨m, hmn⟩ : ∃ m, n = m + 1 := ⟨n - 1, by omega⟩
  rw [hmn] at hv hc
  have m1 : IntKind.i64.wrap ((m : Int) - (k : Int)) = (j : Int) := by rw [IntKind.wrap_i64]; omega
  have m2 : (j : Int) < (m : Int) + 1 := by omega
  have m3 : m ≤ 1000 := by omega
  have m4 : IntKind.i64.wrap (k : Int) = (k : Int) := by rw [IntKind.wrap_i64]; omega
  clear hn hj hmn hk
  subst hv
  have hlx : xs.length ≤ 1000 := by rw [← HN.out]; exact hl
  go_enter Tryd.func32, Tryd.ntmps32
  go_wp2_with (at_builtin; refine app_pile rfl (.tmp 5) (.tmp 15) 51 Tryd.underlying51 rfl _ base xs r0 r1 r2 r3 y rfl rfl HP.out hlx hb HE.out ?_)
  intro v' w' hP' hM'
  have HP' := hid hP'
  have HM' := hid hM'
  clear hP' hM'
  go_wp2
  go_ret
  exact ⟨_, rfl, HP'.out, HM'.out⟩
end Go.Proofs.YtjohbepdmnigcaaDoor
