/-
  calc.deeds, enough, and what each deed does: as lists of numbers.
-/
import Derived.Test.YtjohbepdmnigcaaDoorCalC
namespace Go.Proofs.YtjohbepdmnigcaaDoor
open Go.RowKit
set_option linter.unusedVariables false

set_option maxRecDepth 20000 in
theorem sameness_c (u v : Value) (x y : Nat) (w : World) (hu : El u x) (hv : El v y) (hG : Glob w) :
    Calls Tryd.prog 55 #[u, v] w fun e w' => ∃ r, e = .returned r ∧ El r (samF x y) ∧ Below w.heap.size w w' := by
  have HU := hid hu
  have HV := hid hv
  obtain ⟨a0, a1, a2, a3, rfl, -, -, -⟩ := hu.ex
  obtain ⟨b0, b1, b2, b3, rfl, -, -, -⟩ := hv.ex
  clear hu hv
  unfold w4
  go_enter Tryd.func55, Tryd.ntmps55
  go_wp2_with fail
  refine (eequal_c _ _ x y _ HU.out HV.out).mono ?_
  rintro e w1 ⟨rfl, hb1⟩
  obtain ⟨hA1, hB1, hZ1, hl1, hs1⟩ := box2 (ta := 40) (tb := 40) (tz := 40) hb1
  have z0 := hZ1.c0
  have z1 := hZ1.c1
  have z2 := hZ1.c2
  have z3 := hZ1.c3
  have fz := hZ1.frozen
  have HZ := hid hZ1
  clear hb1 hA1 hB1 hZ1
  by_cases hxy : x = y
  · have hd : decide (x = y) = true := decide_eq_true hxy
    rw [hd]
    have hS : samF x y = 1 := by unfold samF; rw [if_pos hxy]
    have HS := hid hS
    clear hd hxy hS
    go_wp2_with fail
    refine (fromUint64_c 1 w1 (by decide) (hG.up hl1)).mono ?_
    rintro e w2 ⟨r, rfl, hr, hb2⟩
    obtain ⟨t0, t1, t2, t3, rfl, -, -, -⟩ := hr.ex
    have HR := hid hr
    have hZ2 := HZ.out.below hb2 HZ.out.size
    have y0 := hZ2.c0
    have y1 := hZ2.c1
    have y2 := hZ2.c2
    have y3 := hZ2.c3
    have fy := hZ2.frozen
    have HL := hid (hl1.trans (hb2.mono hl1.size))
    clear hr hZ2 HZ z0 z1 z2 z3 fz hb2
    unfold w4
    go_wp2
    refine bodyPost_ret (by simp [results, Tryd.results55, go_sem, y0, y1, y2, y3]; rfl) rfl ?_
    exact ⟨_, rfl, by rw [HS.out]; exact HR.out, below_all HL.out (by omega) _ _ _ _⟩
  · have hd : decide (x = y) = false := decide_eq_false hxy
    rw [hd]
    have hS : samF x y = 0 := by unfold samF; rw [if_neg hxy]
    have HS := hid hS
    clear hd hxy hS
    have HL := hid hl1
    clear hl1
    go_wp2
    refine bodyPost_ret (by simp [results, Tryd.results55, go_sem, z0, z1, z2, z3]; rfl) rfl ?_
    exact ⟨_, rfl, by rw [HS.out]; exact El.zero, below_all HL.out (by omega) _ _ _ _⟩

set_option maxRecDepth 20000 in
theorem pneg_c (v : Value) (base x : Nat) (xs : List Nat) (N : Int) (w : World) (hP : Pile w base v (xs ++ [x])) (hl : xs.length ≤ 1000) (hG : Glob w) :
    Calls Tryd.prog 29 #[v, .int .u64 N] w fun e w' => ∃ v', e = .returned v' ∧ Pile w' base v' (xs ++ [(pN - x) % pN]) ∧ Moved w w' v v' := by
  have HP := hid hP
  clear hP
  go_enter Tryd.func29, Tryd.ntmps29
  go_wp2_with fail
  refine (turn_c 52 (fun x => (pN - x) % pN) Tryd.call52 (fun u x w hu hg => eneg_c u x w hu hg) v base x xs w HP.out hl hG).mono ?_
  rintro e w1 ⟨v1, rfl, hP1, hM1⟩
  have H1 := hid hP1
  have H2 := hid hM1
  clear hP1 hM1
  go_wp2
  go_ret
  exact ⟨_, rfl, H1.out, H2.out⟩

set_option maxRecDepth 20000 in
theorem psquare_c (v : Value) (base x : Nat) (xs : List Nat) (N : Int) (w : World) (hP : Pile w base v (xs ++ [x])) (hl : xs.length ≤ 1000) (hG : Glob w) :
    Calls Tryd.prog 30 #[v, .int .u64 N] w fun e w' => ∃ v', e = .returned v' ∧ Pile w' base v' (xs ++ [x * x % pN]) ∧ Moved w w' v v' := by
  have HP := hid hP
  clear hP
  go_enter Tryd.func30, Tryd.ntmps30
  go_wp2_with fail
  refine (turn_c 53 (fun x => x * x % pN) Tryd.call53 (fun u x w hu hg => esquare_c u x w hu hg) v base x xs w HP.out hl hG).mono ?_
  rintro e w1 ⟨v1, rfl, hP1, hM1⟩
  have H1 := hid hP1
  have H2 := hid hM1
  clear hP1 hM1
  go_wp2
  go_ret
  exact ⟨_, rfl, H1.out, H2.out⟩

set_option maxRecDepth 20000 in
theorem pinverse_c (v : Value) (base x : Nat) (xs : List Nat) (N : Int) (w : World) (hP : Pile w base v (xs ++ [x])) (hl : xs.length ≤ 1000) (hG : Glob w) :
    Calls Tryd.prog 31 #[v, .int .u64 N] w fun e w' => ∃ v', e = .returned v' ∧ Pile w' base v' (xs ++ [x ^ (pN - 2) % pN]) ∧ Moved w w' v v' := by
  have HP := hid hP
  clear hP
  go_enter Tryd.func31, Tryd.ntmps31
  go_wp2_with fail
  refine (turn_c 54 (fun x => x ^ (pN - 2) % pN) Tryd.call54 (fun u x w hu hg => einverse_c u x w hu hg) v base x xs w HP.out hl hG).mono ?_
  rintro e w1 ⟨v1, rfl, hP1, hM1⟩
  have H1 := hid hP1
  have H2 := hid hM1
  clear hP1 hM1
  go_wp2
  go_ret
  exact ⟨_, rfl, H1.out, H2.out⟩

set_option maxRecDepth 20000 in
theorem padd_c (v : Value) (base x y : Nat) (xs : List Nat) (N : Int) (w : World) (hP : Pile w base v (xs ++ [x, y])) (hl : xs.length ≤ 1000) (hG : Glob w) :
    Calls Tryd.prog 26 #[v, .int .u64 N] w fun e w' => ∃ v', e = .returned v' ∧ Pile w' base v' (xs ++ [(x + y) % pN]) ∧ Moved w w' v v' := by
  have HP := hid hP
  clear hP
  go_enter Tryd.func26, Tryd.ntmps26
  go_wp2_with fail
  refine (join_c 48 (fun x y => (x + y) % pN) Tryd.call48 (fun u v x y w hu hv hg => eadd_c u v x y w hu hv hg) v base x y xs w HP.out hl hG).mono ?_
  rintro e w1 ⟨v1, rfl, hP1, hM1⟩
  have H1 := hid hP1
  have H2 := hid hM1
  clear hP1 hM1
  go_wp2
  go_ret
  exact ⟨_, rfl, H1.out, H2.out⟩

set_option maxRecDepth 20000 in
theorem psub_c (v : Value) (base x y : Nat) (xs : List Nat) (N : Int) (w : World) (hP : Pile w base v (xs ++ [x, y])) (hl : xs.length ≤ 1000) (hG : Glob w) :
    Calls Tryd.prog 27 #[v, .int .u64 N] w fun e w' => ∃ v', e = .returned v' ∧ Pile w' base v' (xs ++ [(x + (pN - y)) % pN]) ∧ Moved w w' v v' := by
  have HP := hid hP
  clear hP
  go_enter Tryd.func27, Tryd.ntmps27
  go_wp2_with fail
  refine (join_c 49 (fun x y => (x + (pN - y)) % pN) Tryd.call49 (fun u v x y w hu hv hg => esub_c u v x y w hu hv hg) v base x y xs w HP.out hl hG).mono ?_
  rintro e w1 ⟨v1, rfl, hP1, hM1⟩
  have H1 := hid hP1
  have H2 := hid hM1
  clear hP1 hM1
  go_wp2
  go_ret
  exact ⟨_, rfl, H1.out, H2.out⟩

set_option maxRecDepth 20000 in
theorem pmul_c (v : Value) (base x y : Nat) (xs : List Nat) (N : Int) (w : World) (hP : Pile w base v (xs ++ [x, y])) (hl : xs.length ≤ 1000) (hG : Glob w) :
    Calls Tryd.prog 28 #[v, .int .u64 N] w fun e w' => ∃ v', e = .returned v' ∧ Pile w' base v' (xs ++ [x * y % pN]) ∧ Moved w w' v v' := by
  have HP := hid hP
  clear hP
  go_enter Tryd.func28, Tryd.ntmps28
  go_wp2_with fail
  refine (join_c 50 (fun x y => x * y % pN) Tryd.call50 (fun u v x y w hu hv hg => emul_c u v x y w hu hv hg) v base x y xs w HP.out hl hG).mono ?_
  rintro e w1 ⟨v1, rfl, hP1, hM1⟩
  have H1 := hid hP1
  have H2 := hid hM1
  clear hP1 hM1
  go_wp2
  go_ret
  exact ⟨_, rfl, H1.out, H2.out⟩

set_option maxRecDepth 20000 in
theorem psame_c (v : Value) (base x y : Nat) (xs : List Nat) (N : Int) (w : World) (hP : Pile w base v (xs ++ [x, y])) (hl : xs.length ≤ 1000) (hG : Glob w) :
    Calls Tryd.prog 35 #[v, .int .u64 N] w fun e w' => ∃ v', e = .returned v' ∧ Pile w' base v' (xs ++ [samF x y]) ∧ Moved w w' v v' := by
  have HP := hid hP
  clear hP
  go_enter Tryd.func35, Tryd.ntmps35
  go_wp2_with fail
  refine (join_c 55 (fun x y => samF x y) Tryd.call55 (fun u v x y w hu hv hg => sameness_c u v x y w hu hv hg) v base x y xs w HP.out hl hG).mono ?_
  rintro e w1 ⟨v1, rfl, hP1, hM1⟩
  have H1 := hid hP1
  have H2 := hid hM1
  clear hP1 hM1
  go_wp2
  go_ret
  exact ⟨_, rfl, H1.out, H2.out⟩

def fv (F : Nat) : Value := .func (.func F) #[] #[]
/-- What deeds answers. -/
def table : List (Int × Value) := [(0, fv 25), (1, fv 26), (2, fv 27), (3, fv 28), (4, fv 29), (5, fv 30), (6, fv 31), (7, fv 32), (8, fv 33), (9, fv 34), (10, fv 35)]

set_option maxRecDepth 20000 in
theorem deeds_c (w : World) : Calls Tryd.prog 18 #[] w fun e w' => e = .returned (.map (some w.heap.size)) ∧ FM w' w.heap.size table ∧ Below w.heap.size w w' := by
  have hmm := @run_makeMap Tryd.prog
  have hF0 : FM (w.alloc (.map #[] 0)) w.heap.size [] := ⟨heap_alloc_new w _⟩
  have G0 : w.grownBy (w.alloc (.map #[] 0)) (some w.heap.size) := World.grownBy_alloc w _ _
  go_enter Tryd.func18, Tryd.ntmps18
  go_wp2_with (refine ins_op rfl (.tmp 1) _ _ 53 56 Tryd.underlying53 rfl w.heap.size [] 0 _ rfl rfl rfl hF0 rfl ?_)
  intro w1 hF1 g1
  have G1 := gb_trans G0 g1
  clear g1 hF0 G0
  refine ins_op rfl (.tmp 1) _ _ 53 56 Tryd.underlying53 rfl w.heap.size _ 1 _ rfl rfl rfl hF1 rfl ?_
  intro w2 hF2 g2
  have G2 := gb_trans G1 g2
  clear g2 hF1 G1
  refine ins_op rfl (.tmp 1) _ _ 53 56 Tryd.underlying53 rfl w.heap.size _ 2 _ rfl rfl rfl hF2 rfl ?_
  intro w3 hF3 g3
  have G3 := gb_trans G2 g3
  clear g3 hF2 G2
  refine ins_op rfl (.tmp 1) _ _ 53 56 Tryd.underlying53 rfl w.heap.size _ 3 _ rfl rfl rfl hF3 rfl ?_
  intro w4 hF4 g4
  have G4 := gb_trans G3 g4
  clear g4 hF3 G3
  refine ins_op rfl (.tmp 1) _ _ 53 56 Tryd.underlying53 rfl w.heap.size _ 4 _ rfl rfl rfl hF4 rfl ?_
  intro w5 hF5 g5
  have G5 := gb_trans G4 g5
  clear g5 hF4 G4
  refine ins_op rfl (.tmp 1) _ _ 53 56 Tryd.underlying53 rfl w.heap.size _ 5 _ rfl rfl rfl hF5 rfl ?_
  intro w6 hF6 g6
  have G6 := gb_trans G5 g6
  clear g6 hF5 G5
  refine ins_op rfl (.tmp 1) _ _ 53 56 Tryd.underlying53 rfl w.heap.size _ 6 _ rfl rfl rfl hF6 rfl ?_
  intro w7 hF7 g7
  have G7 := gb_trans G6 g7
  clear g7 hF6 G6
  refine ins_op rfl (.tmp 1) _ _ 53 56 Tryd.underlying53 rfl w.heap.size _ 7 _ rfl rfl rfl hF7 rfl ?_
  intro w8 hF8 g8
  have G8 := gb_trans G7 g8
  clear g8 hF7 G7
  refine ins_op rfl (.tmp 1) _ _ 53 56 Tryd.underlying53 rfl w.heap.size _ 8 _ rfl rfl rfl hF8 rfl ?_
  intro w9 hF9 g9
  have G9 := gb_trans G8 g9
  clear g9 hF8 G8
  refine ins_op rfl (.tmp 1) _ _ 53 56 Tryd.underlying53 rfl w.heap.size _ 9 _ rfl rfl rfl hF9 rfl ?_
  intro w10 hF10 g10
  have G10 := gb_trans G9 g10
  clear g10 hF9 G9
  refine ins_op rfl (.tmp 1) _ _ 53 56 Tryd.underlying53 rfl w.heap.size _ 10 _ rfl rfl rfl hF10 rfl ?_
  intro w11 hF11 g11
  have G11 := gb_trans G10 g11
  clear g11 hF10 G10
  have HB := hid ((Below.refl w.heap.size w).grown G11 (Nat.le_refl _) (fun k hk => by injection hk with hk; omega))
  have HF := hid hF11
  clear hF11 G11
  go_wp2
  go_ret
  exact ⟨rfl, HF.out, HB.out⟩
end Go.Proofs.YtjohbepdmnigcaaDoor
