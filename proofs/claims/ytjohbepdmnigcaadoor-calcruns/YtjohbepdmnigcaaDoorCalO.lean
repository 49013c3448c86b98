/-
  avouchref03.Do: what it does, Op by Op.
-/
import Derived.Test.YtjohbepdmnigcaaDoorCalN
namespace Go.Proofs.YtjohbepdmnigcaaDoor
open Go.RowKit
set_option linter.unusedVariables false

theorem need7q_c (N : Nat) (w : World) (hN : N < 18446744073709551616) :
    Calls Tryd.prog 36 #[.agg #[.int .i64 7, .int .u64 (N : Int)]] w fun e w' => ∃ q : Nat, e = .returned (.int .i64 (q : Int)) ∧ (∀ n, n ≤ 64 → (n < q ↔ n < N + 1)) ∧ Below w.heap.size w w' := by
  refine (need7_c N w hN).mono ?_
  rintro e w1 ⟨rfl, hb⟩
  refine ⟨_, rfl, fun n hn => ?_, hb⟩
  split <;> omega
/-- A store into a row of digits. -/
theorem RowV.put {w : World} {base g n cap : Nat} {ds : List Value} {Xs : List Nat} (h : RowV w base (.slice (some ⟨g, 0, none⟩) n cap) ds) (hA : AllD w ds Xs) (i : Nat) (hi : i < ds.length) {d : Value} {X : Nat} (hd : Dg w d X) :
    RowV (w.setCell ⟨g, i, none⟩ d) base (.slice (some ⟨g, 0, none⟩) n cap) (ds.set i d) ∧ AllD (w.setCell ⟨g, i, none⟩ d) (ds.set i d) (Xs.set i X) ∧ w.grownBy (w.setCell ⟨g, i, none⟩ d) (some g) :=
  ⟨h.set i hi d hd.sl, (hA.set i hd).kept h (gb_set (gb_refl _ _) i d), gb_set (gb_refl _ _) i d⟩
theorem other_cell {w w' : World} {g b i : Nat} {u : Value} (hg : w.grownBy w' (some g)) (hb : b < w.heap.size) (hne : b ≠ g) (h : w.cell? ⟨b, i, none⟩ = some u) : w'.cell? ⟨b, i, none⟩ = some u :=
  (World.cell?_of_block (a := ⟨b, i, none⟩) (hg.block b hb (fun e => hne (by injection e)))).trans h
theorem take_low (xs : List Nat) (z y : Nat) : (xs ++ [z, y]).take (xs.length + 1) = xs ++ [z] := by
  rw [show xs ++ [z, y] = (xs ++ [z]) ++ [y] by simp, List.take_left' (by simp)]
theorem box_cells (w : World) (op : Int) (N : Nat) : (w.alloc (.cells #[.int .i64 op, .int .u64 (N : Int)] 59)).cell? ⟨w.heap.size, 0, none⟩ = some (.int .i64 op) ∧ (w.alloc (.cells #[.int .i64 op, .int .u64 (N : Int)] 59)).cell? ⟨w.heap.size, 1, none⟩ = some (.int .u64 (N : Int)) := by
  constructor
  all_goals
    rw [cell_of_row _ _ _ _ _ (0, 0) (heap_alloc_new w _)]
    rfl
theorem big_of_p {x : Nat} (h : x < pN) : x < 4294967296 ^ bigE := lt_big (Nat.lt_trans h (by decide))

set_option maxRecDepth 20000 in
set_option maxHeartbeats 4000000 in
theorem do1_few (v : Value) (N : Nat) (Xs : List Nat) (w : World) (hD : Digs w v Xs) (hp : ∀ x ∈ Xs, x < pN) (hl : Xs.length ≤ 64) (hN : N < 18446744073709551616) (h1 : Xs.length < 2) :
    Calls Tryd.prog 20 #[v, .agg #[.int .i64 1, .int .u64 (N : Int)]] w fun e w' => ∃ r, e = .returned (.tuple #[r, .int .i64 13]) ∧ Below w.heap.size w w' := by
  obtain ⟨A, c, hv, hc, hm, -⟩ := hD.ex
  have hl1 : Xs.length ≤ 1000 := by omega
  obtain ⟨n, hn⟩ : ∃ n, n = Xs.length := ⟨_, rfl⟩
  rw [← hn] at hv hc hl h1
  have HN := hid hn
  clear hn
  subst hv
  have b0 : Below w.heap.size w (w.alloc (.cells #[.int .i64 1, .int .u64 (N : Int)] 59)) := (Below.refl _ _).alloc (Nat.le_refl _) _
  have hD0 := hD.up b0
  have q01 := hid (box_cells w 1 N)
  have d1 : decide ((n : Int) < 2) = true := decide_eq_true (by omega)
  go_enter Tryd.func20, Tryd.ntmps20
  go_wp2_with fail
  refine (need1_c N _ hN).mono ?_
  rintro e w1 ⟨rfl, hb1⟩
  have hs1 : w.heap.size < w1.heap.size := by have := hb1.size; simp at this; omega
  have b01 := b0.trans (hb1.mono b0.size)
  have hD1 := hD0.up hb1
  have c0 : w1.cell? ⟨w.heap.size, 0, none⟩ = some (.int .i64 1) := (hb1.cell (p := ⟨w.heap.size, 0, none⟩) (by simp)).trans q01.out.1
  have c1 : w1.cell? ⟨w.heap.size, 1, none⟩ = some (.int .u64 (N : Int)) := (hb1.cell (p := ⟨w.heap.size, 1, none⟩) (by simp)).trans q01.out.2
  clear hb1 q01 hD hD0 b0
  have B := hid b01
  clear b01 hD1
  go_wp2
  go_ret2
  exact ⟨_, rfl, B.out⟩

set_option maxRecDepth 20000 in
set_option maxHeartbeats 4000000 in
theorem do2_few (v : Value) (N : Nat) (Xs : List Nat) (w : World) (hD : Digs w v Xs) (hp : ∀ x ∈ Xs, x < pN) (hl : Xs.length ≤ 64) (hN : N < 18446744073709551616) (h1 : Xs.length < 2) :
    Calls Tryd.prog 20 #[v, .agg #[.int .i64 2, .int .u64 (N : Int)]] w fun e w' => ∃ r, e = .returned (.tuple #[r, .int .i64 13]) ∧ Below w.heap.size w w' := by
  obtain ⟨A, c, hv, hc, hm, -⟩ := hD.ex
  have hl1 : Xs.length ≤ 1000 := by omega
  obtain ⟨n, hn⟩ : ∃ n, n = Xs.length := ⟨_, rfl⟩
  rw [← hn] at hv hc hl h1
  have HN := hid hn
  clear hn
  subst hv
  have b0 : Below w.heap.size w (w.alloc (.cells #[.int .i64 2, .int .u64 (N : Int)] 59)) := (Below.refl _ _).alloc (Nat.le_refl _) _
  have hD0 := hD.up b0
  have q01 := hid (box_cells w 2 N)
  have d1 : decide ((n : Int) < 2) = true := decide_eq_true (by omega)
  go_enter Tryd.func20, Tryd.ntmps20
  go_wp2_with fail
  refine (need2_c N _ hN).mono ?_
  rintro e w1 ⟨rfl, hb1⟩
  have hs1 : w.heap.size < w1.heap.size := by have := hb1.size; simp at this; omega
  have b01 := b0.trans (hb1.mono b0.size)
  have hD1 := hD0.up hb1
  have c0 : w1.cell? ⟨w.heap.size, 0, none⟩ = some (.int .i64 2) := (hb1.cell (p := ⟨w.heap.size, 0, none⟩) (by simp)).trans q01.out.1
  have c1 : w1.cell? ⟨w.heap.size, 1, none⟩ = some (.int .u64 (N : Int)) := (hb1.cell (p := ⟨w.heap.size, 1, none⟩) (by simp)).trans q01.out.2
  clear hb1 q01 hD hD0 b0
  have B := hid b01
  clear b01 hD1
  go_wp2
  go_ret2
  exact ⟨_, rfl, B.out⟩

set_option maxRecDepth 20000 in
set_option maxHeartbeats 4000000 in
theorem do3_few (v : Value) (N : Nat) (Xs : List Nat) (w : World) (hD : Digs w v Xs) (hp : ∀ x ∈ Xs, x < pN) (hl : Xs.length ≤ 64) (hN : N < 18446744073709551616) (h1 : Xs.length < 2) :
    Calls Tryd.prog 20 #[v, .agg #[.int .i64 3, .int .u64 (N : Int)]] w fun e w' => ∃ r, e = .returned (.tuple #[r, .int .i64 13]) ∧ Below w.heap.size w w' := by
  obtain ⟨A, c, hv, hc, hm, -⟩ := hD.ex
  have hl1 : Xs.length ≤ 1000 := by omega
  obtain ⟨n, hn⟩ : ∃ n, n = Xs.length := ⟨_, rfl⟩
  rw [← hn] at hv hc hl h1
  have HN := hid hn
  clear hn
  subst hv
  have b0 : Below w.heap.size w (w.alloc (.cells #[.int .i64 3, .int .u64 (N : Int)] 59)) := (Below.refl _ _).alloc (Nat.le_refl _) _
  have hD0 := hD.up b0
  have q01 := hid (box_cells w 3 N)
  have d1 : decide ((n : Int) < 2) = true := decide_eq_true (by omega)
  go_enter Tryd.func20, Tryd.ntmps20
  go_wp2_with fail
  refine (need3_c N _ hN).mono ?_
  rintro e w1 ⟨rfl, hb1⟩
  have hs1 : w.heap.size < w1.heap.size := by have := hb1.size; simp at this; omega
  have b01 := b0.trans (hb1.mono b0.size)
  have hD1 := hD0.up hb1
  have c0 : w1.cell? ⟨w.heap.size, 0, none⟩ = some (.int .i64 3) := (hb1.cell (p := ⟨w.heap.size, 0, none⟩) (by simp)).trans q01.out.1
  have c1 : w1.cell? ⟨w.heap.size, 1, none⟩ = some (.int .u64 (N : Int)) := (hb1.cell (p := ⟨w.heap.size, 1, none⟩) (by simp)).trans q01.out.2
  clear hb1 q01 hD hD0 b0
  have B := hid b01
  clear b01 hD1
  go_wp2
  go_ret2
  exact ⟨_, rfl, B.out⟩

set_option maxRecDepth 20000 in
set_option maxHeartbeats 4000000 in
theorem do4_few (v : Value) (N : Nat) (Xs : List Nat) (w : World) (hD : Digs w v Xs) (hp : ∀ x ∈ Xs, x < pN) (hl : Xs.length ≤ 64) (hN : N < 18446744073709551616) (h1 : Xs.length < 1) :
    Calls Tryd.prog 20 #[v, .agg #[.int .i64 4, .int .u64 (N : Int)]] w fun e w' => ∃ r, e = .returned (.tuple #[r, .int .i64 13]) ∧ Below w.heap.size w w' := by
  obtain ⟨A, c, hv, hc, hm, -⟩ := hD.ex
  have hl1 : Xs.length ≤ 1000 := by omega
  obtain ⟨n, hn⟩ : ∃ n, n = Xs.length := ⟨_, rfl⟩
  rw [← hn] at hv hc hl h1
  have HN := hid hn
  clear hn
  subst hv
  have b0 : Below w.heap.size w (w.alloc (.cells #[.int .i64 4, .int .u64 (N : Int)] 59)) := (Below.refl _ _).alloc (Nat.le_refl _) _
  have hD0 := hD.up b0
  have q01 := hid (box_cells w 4 N)
  have d1 : decide ((n : Int) < 1) = true := decide_eq_true (by omega)
  go_enter Tryd.func20, Tryd.ntmps20
  go_wp2_with fail
  refine (need4_c N _ hN).mono ?_
  rintro e w1 ⟨rfl, hb1⟩
  have hs1 : w.heap.size < w1.heap.size := by have := hb1.size; simp at this; omega
  have b01 := b0.trans (hb1.mono b0.size)
  have hD1 := hD0.up hb1
  have c0 : w1.cell? ⟨w.heap.size, 0, none⟩ = some (.int .i64 4) := (hb1.cell (p := ⟨w.heap.size, 0, none⟩) (by simp)).trans q01.out.1
  have c1 : w1.cell? ⟨w.heap.size, 1, none⟩ = some (.int .u64 (N : Int)) := (hb1.cell (p := ⟨w.heap.size, 1, none⟩) (by simp)).trans q01.out.2
  clear hb1 q01 hD hD0 b0
  have B := hid b01
  clear b01 hD1
  go_wp2
  go_ret2
  exact ⟨_, rfl, B.out⟩

set_option maxRecDepth 20000 in
set_option maxHeartbeats 4000000 in
theorem do5_few (v : Value) (N : Nat) (Xs : List Nat) (w : World) (hD : Digs w v Xs) (hp : ∀ x ∈ Xs, x < pN) (hl : Xs.length ≤ 64) (hN : N < 18446744073709551616) (h1 : Xs.length < 1) :
    Calls Tryd.prog 20 #[v, .agg #[.int .i64 5, .int .u64 (N : Int)]] w fun e w' => ∃ r, e = .returned (.tuple #[r, .int .i64 13]) ∧ Below w.heap.size w w' := by
  obtain ⟨A, c, hv, hc, hm, -⟩ := hD.ex
  have hl1 : Xs.length ≤ 1000 := by omega
  obtain ⟨n, hn⟩ : ∃ n, n = Xs.length := ⟨_, rfl⟩
  rw [← hn] at hv hc hl h1
  have HN := hid hn
  clear hn
  subst hv
  have b0 : Below w.heap.size w (w.alloc (.cells #[.int .i64 5, .int .u64 (N : Int)] 59)) := (Below.refl _ _).alloc (Nat.le_refl _) _
  have hD0 := hD.up b0
  have q01 := hid (box_cells w 5 N)
  have d1 : decide ((n : Int) < 1) = true := decide_eq_true (by omega)
  go_enter Tryd.func20, Tryd.ntmps20
  go_wp2_with fail
  refine (need5_c N _ hN).mono ?_
  rintro e w1 ⟨rfl, hb1⟩
  have hs1 : w.heap.size < w1.heap.size := by have := hb1.size; simp at this; omega
  have b01 := b0.trans (hb1.mono b0.size)
  have hD1 := hD0.up hb1
  have c0 : w1.cell? ⟨w.heap.size, 0, none⟩ = some (.int .i64 5) := (hb1.cell (p := ⟨w.heap.size, 0, none⟩) (by simp)).trans q01.out.1
  have c1 : w1.cell? ⟨w.heap.size, 1, none⟩ = some (.int .u64 (N : Int)) := (hb1.cell (p := ⟨w.heap.size, 1, none⟩) (by simp)).trans q01.out.2
  clear hb1 q01 hD hD0 b0
  have B := hid b01
  clear b01 hD1
  go_wp2
  go_ret2
  exact ⟨_, rfl, B.out⟩

set_option maxRecDepth 20000 in
set_option maxHeartbeats 4000000 in
theorem do6_few (v : Value) (N : Nat) (Xs : List Nat) (w : World) (hD : Digs w v Xs) (hp : ∀ x ∈ Xs, x < pN) (hl : Xs.length ≤ 64) (hN : N < 18446744073709551616) (h1 : Xs.length < 1) :
    Calls Tryd.prog 20 #[v, .agg #[.int .i64 6, .int .u64 (N : Int)]] w fun e w' => ∃ r, e = .returned (.tuple #[r, .int .i64 13]) ∧ Below w.heap.size w w' := by
  obtain ⟨A, c, hv, hc, hm, -⟩ := hD.ex
  have hl1 : Xs.length ≤ 1000 := by omega
  obtain ⟨n, hn⟩ : ∃ n, n = Xs.length := ⟨_, rfl⟩
  rw [← hn] at hv hc hl h1
  have HN := hid hn
  clear hn
  subst hv
  have b0 : Below w.heap.size w (w.alloc (.cells #[.int .i64 6, .int .u64 (N : Int)] 59)) := (Below.refl _ _).alloc (Nat.le_refl _) _
  have hD0 := hD.up b0
  have q01 := hid (box_cells w 6 N)
  have d1 : decide ((n : Int) < 1) = true := decide_eq_true (by omega)
  go_enter Tryd.func20, Tryd.ntmps20
  go_wp2_with fail
  refine (need6_c N _ hN).mono ?_
  rintro e w1 ⟨rfl, hb1⟩
  have hs1 : w.heap.size < w1.heap.size := by have := hb1.size; simp at this; omega
  have b01 := b0.trans (hb1.mono b0.size)
  have hD1 := hD0.up hb1
  have c0 : w1.cell? ⟨w.heap.size, 0, none⟩ = some (.int .i64 6) := (hb1.cell (p := ⟨w.heap.size, 0, none⟩) (by simp)).trans q01.out.1
  have c1 : w1.cell? ⟨w.heap.size, 1, none⟩ = some (.int .u64 (N : Int)) := (hb1.cell (p := ⟨w.heap.size, 1, none⟩) (by simp)).trans q01.out.2
  clear hb1 q01 hD hD0 b0
  have B := hid b01
  clear b01 hD1
  go_wp2
  go_ret2
  exact ⟨_, rfl, B.out⟩

set_option maxRecDepth 20000 in
set_option maxHeartbeats 4000000 in
theorem do7_few (v : Value) (N : Nat) (Xs : List Nat) (w : World) (hD : Digs w v Xs) (hp : ∀ x ∈ Xs, x < pN) (hl : Xs.length ≤ 64) (hN : N < 18446744073709551616) (h1 : Xs.length < N + 1) :
    Calls Tryd.prog 20 #[v, .agg #[.int .i64 7, .int .u64 (N : Int)]] w fun e w' => ∃ r, e = .returned (.tuple #[r, .int .i64 13]) ∧ Below w.heap.size w w' := by
  obtain ⟨A, c, hv, hc, hm, -⟩ := hD.ex
  have hl1 : Xs.length ≤ 1000 := by omega
  obtain ⟨n, hn⟩ : ∃ n, n = Xs.length := ⟨_, rfl⟩
  rw [← hn] at hv hc hl h1
  have HN := hid hn
  clear hn
  subst hv
  have b0 : Below w.heap.size w (w.alloc (.cells #[.int .i64 7, .int .u64 (N : Int)] 59)) := (Below.refl _ _).alloc (Nat.le_refl _) _
  have hD0 := hD.up b0
  have q01 := hid (box_cells w 7 N)
  go_enter Tryd.func20, Tryd.ntmps20
  go_wp2_with fail
  refine (need7q_c N _ hN).mono ?_
  rintro e w1 ⟨q, rfl, hq, hb1⟩
  have d1 : decide (n < q) = true := by
    have := hq n (by omega)
    exact decide_eq_true (by omega)
  clear hq
  have hs1 : w.heap.size < w1.heap.size := by have := hb1.size; simp at this; omega
  have b01 := b0.trans (hb1.mono b0.size)
  have hD1 := hD0.up hb1
  have c0 : w1.cell? ⟨w.heap.size, 0, none⟩ = some (.int .i64 7) := (hb1.cell (p := ⟨w.heap.size, 0, none⟩) (by simp)).trans q01.out.1
  have c1 : w1.cell? ⟨w.heap.size, 1, none⟩ = some (.int .u64 (N : Int)) := (hb1.cell (p := ⟨w.heap.size, 1, none⟩) (by simp)).trans q01.out.2
  clear hb1 q01 hD hD0 b0
  have B := hid b01
  clear b01 hD1
  go_wp2
  go_ret2
  exact ⟨_, rfl, B.out⟩

set_option maxRecDepth 20000 in
set_option maxHeartbeats 4000000 in
theorem do8_few (v : Value) (N : Nat) (Xs : List Nat) (w : World) (hD : Digs w v Xs) (hp : ∀ x ∈ Xs, x < pN) (hl : Xs.length ≤ 64) (hN : N < 18446744073709551616) (h1 : Xs.length < 2) :
    Calls Tryd.prog 20 #[v, .agg #[.int .i64 8, .int .u64 (N : Int)]] w fun e w' => ∃ r, e = .returned (.tuple #[r, .int .i64 13]) ∧ Below w.heap.size w w' := by
  obtain ⟨A, c, hv, hc, hm, -⟩ := hD.ex
  have hl1 : Xs.length ≤ 1000 := by omega
  obtain ⟨n, hn⟩ : ∃ n, n = Xs.length := ⟨_, rfl⟩
  rw [← hn] at hv hc hl h1
  have HN := hid hn
  clear hn
  subst hv
  have b0 : Below w.heap.size w (w.alloc (.cells #[.int .i64 8, .int .u64 (N : Int)] 59)) := (Below.refl _ _).alloc (Nat.le_refl _) _
  have hD0 := hD.up b0
  have q01 := hid (box_cells w 8 N)
  have d1 : decide ((n : Int) < 2) = true := decide_eq_true (by omega)
  go_enter Tryd.func20, Tryd.ntmps20
  go_wp2_with fail
  refine (need8_c N _ hN).mono ?_
  rintro e w1 ⟨rfl, hb1⟩
  have hs1 : w.heap.size < w1.heap.size := by have := hb1.size; simp at this; omega
  have b01 := b0.trans (hb1.mono b0.size)
  have hD1 := hD0.up hb1
  have c0 : w1.cell? ⟨w.heap.size, 0, none⟩ = some (.int .i64 8) := (hb1.cell (p := ⟨w.heap.size, 0, none⟩) (by simp)).trans q01.out.1
  have c1 : w1.cell? ⟨w.heap.size, 1, none⟩ = some (.int .u64 (N : Int)) := (hb1.cell (p := ⟨w.heap.size, 1, none⟩) (by simp)).trans q01.out.2
  clear hb1 q01 hD hD0 b0
  have B := hid b01
  clear b01 hD1
  go_wp2
  go_ret2
  exact ⟨_, rfl, B.out⟩

set_option maxRecDepth 20000 in
set_option maxHeartbeats 4000000 in
theorem do9_few (v : Value) (N : Nat) (Xs : List Nat) (w : World) (hD : Digs w v Xs) (hp : ∀ x ∈ Xs, x < pN) (hl : Xs.length ≤ 64) (hN : N < 18446744073709551616) (h1 : Xs.length < 1) :
    Calls Tryd.prog 20 #[v, .agg #[.int .i64 9, .int .u64 (N : Int)]] w fun e w' => ∃ r, e = .returned (.tuple #[r, .int .i64 13]) ∧ Below w.heap.size w w' := by
  obtain ⟨A, c, hv, hc, hm, -⟩ := hD.ex
  have hl1 : Xs.length ≤ 1000 := by omega
  obtain ⟨n, hn⟩ : ∃ n, n = Xs.length := ⟨_, rfl⟩
  rw [← hn] at hv hc hl h1
  have HN := hid hn
  clear hn
  subst hv
  have b0 : Below w.heap.size w (w.alloc (.cells #[.int .i64 9, .int .u64 (N : Int)] 59)) := (Below.refl _ _).alloc (Nat.le_refl _) _
  have hD0 := hD.up b0
  have q01 := hid (box_cells w 9 N)
  have d1 : decide ((n : Int) < 1) = true := decide_eq_true (by omega)
  go_enter Tryd.func20, Tryd.ntmps20
  go_wp2_with fail
  refine (need9_c N _ hN).mono ?_
  rintro e w1 ⟨rfl, hb1⟩
  have hs1 : w.heap.size < w1.heap.size := by have := hb1.size; simp at this; omega
  have b01 := b0.trans (hb1.mono b0.size)
  have hD1 := hD0.up hb1
  have c0 : w1.cell? ⟨w.heap.size, 0, none⟩ = some (.int .i64 9) := (hb1.cell (p := ⟨w.heap.size, 0, none⟩) (by simp)).trans q01.out.1
  have c1 : w1.cell? ⟨w.heap.size, 1, none⟩ = some (.int .u64 (N : Int)) := (hb1.cell (p := ⟨w.heap.size, 1, none⟩) (by simp)).trans q01.out.2
  clear hb1 q01 hD hD0 b0
  have B := hid b01
  clear b01 hD1
  go_wp2
  go_ret2
  exact ⟨_, rfl, B.out⟩

set_option maxRecDepth 20000 in
set_option maxHeartbeats 4000000 in
theorem do10_few (v : Value) (N : Nat) (Xs : List Nat) (w : World) (hD : Digs w v Xs) (hp : ∀ x ∈ Xs, x < pN) (hl : Xs.length ≤ 64) (hN : N < 18446744073709551616) (h1 : Xs.length < 2) :
    Calls Tryd.prog 20 #[v, .agg #[.int .i64 10, .int .u64 (N : Int)]] w fun e w' => ∃ r, e = .returned (.tuple #[r, .int .i64 13]) ∧ Below w.heap.size w w' := by
  obtain ⟨A, c, hv, hc, hm, -⟩ := hD.ex
  have hl1 : Xs.length ≤ 1000 := by omega
  obtain ⟨n, hn⟩ : ∃ n, n = Xs.length := ⟨_, rfl⟩
  rw [← hn] at hv hc hl h1
  have HN := hid hn
  clear hn
  subst hv
  have b0 : Below w.heap.size w (w.alloc (.cells #[.int .i64 10, .int .u64 (N : Int)] 59)) := (Below.refl _ _).alloc (Nat.le_refl _) _
  have hD0 := hD.up b0
  have q01 := hid (box_cells w 10 N)
  have d1 : decide ((n : Int) < 2) = true := decide_eq_true (by omega)
  go_enter Tryd.func20, Tryd.ntmps20
  go_wp2_with fail
  refine (need10_c N _ hN).mono ?_
  rintro e w1 ⟨rfl, hb1⟩
  have hs1 : w.heap.size < w1.heap.size := by have := hb1.size; simp at this; omega
  have b01 := b0.trans (hb1.mono b0.size)
  have hD1 := hD0.up hb1
  have c0 : w1.cell? ⟨w.heap.size, 0, none⟩ = some (.int .i64 10) := (hb1.cell (p := ⟨w.heap.size, 0, none⟩) (by simp)).trans q01.out.1
  have c1 : w1.cell? ⟨w.heap.size, 1, none⟩ = some (.int .u64 (N : Int)) := (hb1.cell (p := ⟨w.heap.size, 1, none⟩) (by simp)).trans q01.out.2
  clear hb1 q01 hD hD0 b0
  have B := hid b01
  clear b01 hD1
  go_wp2
  go_ret2
  exact ⟨_, rfl, B.out⟩

set_option maxRecDepth 20000 in
set_option maxHeartbeats 4000000 in
theorem do0_full (v : Value) (N : Nat) (Xs : List Nat) (w : World) (hD : Digs w v Xs) (hp : ∀ x ∈ Xs, x < pN) (hl : Xs.length ≤ 64) (hN : N < 18446744073709551616) (h1 : Xs.length = 64) :
    Calls Tryd.prog 20 #[v, .agg #[.int .i64 0, .int .u64 (N : Int)]] w fun e w' => ∃ r, e = .returned (.tuple #[r, .int .i64 9]) ∧ Below w.heap.size w w' := by
  obtain ⟨A, c, hv, hc, hm, -⟩ := hD.ex
  have hl1 : Xs.length ≤ 1000 := by omega
  obtain ⟨n, hn⟩ : ∃ n, n = Xs.length := ⟨_, rfl⟩
  rw [← hn] at hv hc hl h1
  have HN := hid hn
  clear hn
  subst hv
  have b0 : Below w.heap.size w (w.alloc (.cells #[.int .i64 0, .int .u64 (N : Int)] 59)) := (Below.refl _ _).alloc (Nat.le_refl _) _
  have hD0 := hD.up b0
  have q01 := hid (box_cells w 0 N)
  have d1 : decide ((n : Int) < 0) = false := decide_eq_false (by omega)
  have d2 : decide ((n : Int) = 64) = true := decide_eq_true (by omega)
  have d3 : ((n : Int) == 64) = true := by simp; omega
  have h1a : 64 ≤ n := by omega
  clear h1
  go_enter Tryd.func20, Tryd.ntmps20
  go_wp2_with fail
  refine (need0_c N _ hN).mono ?_
  rintro e w1 ⟨rfl, hb1⟩
  have hs1 : w.heap.size < w1.heap.size := by have := hb1.size; simp at this; omega
  have b01 := b0.trans (hb1.mono b0.size)
  have hD1 := hD0.up hb1
  have c0 : w1.cell? ⟨w.heap.size, 0, none⟩ = some (.int .i64 0) := (hb1.cell (p := ⟨w.heap.size, 0, none⟩) (by simp)).trans q01.out.1
  have c1 : w1.cell? ⟨w.heap.size, 1, none⟩ = some (.int .u64 (N : Int)) := (hb1.cell (p := ⟨w.heap.size, 1, none⟩) (by simp)).trans q01.out.2
  clear hb1 q01 hD hD0 b0
  have B := hid b01
  clear b01 hD1
  go_wp2
  go_ret2
  exact ⟨_, rfl, B.out⟩

set_option maxRecDepth 20000 in
set_option maxHeartbeats 4000000 in
theorem do7_full (v : Value) (N : Nat) (Xs : List Nat) (w : World) (hD : Digs w v Xs) (hp : ∀ x ∈ Xs, x < pN) (hl : Xs.length ≤ 64) (hN : N < 18446744073709551616) (h1 : Xs.length = 64) (h2 : N < 64) :
    Calls Tryd.prog 20 #[v, .agg #[.int .i64 7, .int .u64 (N : Int)]] w fun e w' => ∃ r, e = .returned (.tuple #[r, .int .i64 9]) ∧ Below w.heap.size w w' := by
  obtain ⟨A, c, hv, hc, hm, -⟩ := hD.ex
  have hl1 : Xs.length ≤ 1000 := by omega
  obtain ⟨n, hn⟩ : ∃ n, n = Xs.length := ⟨_, rfl⟩
  rw [← hn] at hv hc hl h1
  have HN := hid hn
  clear hn
  subst hv
  have b0 : Below w.heap.size w (w.alloc (.cells #[.int .i64 7, .int .u64 (N : Int)] 59)) := (Below.refl _ _).alloc (Nat.le_refl _) _
  have hD0 := hD.up b0
  have q01 := hid (box_cells w 7 N)
  have d2 : decide ((n : Int) = 64) = true := decide_eq_true (by omega)
  have d3 : ((n : Int) == 64) = true := by simp; omega
  have h1a : 64 ≤ n := by omega
  clear h1
  go_enter Tryd.func20, Tryd.ntmps20
  go_wp2_with fail
  refine (need7q_c N _ hN).mono ?_
  rintro e w1 ⟨q, rfl, hq, hb1⟩
  have d1 : decide (n < q) = false := by
    have := hq n (by omega)
    exact decide_eq_false (by omega)
  clear hq
  have hs1 : w.heap.size < w1.heap.size := by have := hb1.size; simp at this; omega
  have b01 := b0.trans (hb1.mono b0.size)
  have hD1 := hD0.up hb1
  have c0 : w1.cell? ⟨w.heap.size, 0, none⟩ = some (.int .i64 7) := (hb1.cell (p := ⟨w.heap.size, 0, none⟩) (by simp)).trans q01.out.1
  have c1 : w1.cell? ⟨w.heap.size, 1, none⟩ = some (.int .u64 (N : Int)) := (hb1.cell (p := ⟨w.heap.size, 1, none⟩) (by simp)).trans q01.out.2
  clear hb1 q01 hD hD0 b0
  have B := hid b01
  clear b01 hD1
  go_wp2
  go_ret2
  exact ⟨_, rfl, B.out⟩

set_option maxRecDepth 20000 in
set_option maxHeartbeats 4000000 in
theorem do0_ok (v : Value) (N : Nat) (Xs : List Nat) (w : World) (hD : Digs w v Xs) (hp : ∀ x ∈ Xs, x < pN) (hl : Xs.length ≤ 64) (hN : N < 18446744073709551616) (h1 : 0 ≤ Xs.length) (h2 : Xs.length < 64) :
    Calls Tryd.prog 20 #[v, .agg #[.int .i64 0, .int .u64 (N : Int)]] w fun e w' => ∃ r, e = .returned (.tuple #[r, .int .i64 0]) ∧ Digs w' r (act 0 N Xs) ∧ Below w.heap.size w w' := by
  obtain ⟨A, c, hv, hc, hm, -⟩ := hD.ex
  have hl1 : Xs.length ≤ 1000 := by omega
  obtain ⟨n, hn⟩ : ∃ n, n = Xs.length := ⟨_, rfl⟩
  rw [← hn] at hv hc hl h1 h2
  have HN := hid hn
  clear hn
  subst hv
  have b0 : Below w.heap.size w (w.alloc (.cells #[.int .i64 0, .int .u64 (N : Int)] 59)) := (Below.refl _ _).alloc (Nat.le_refl _) _
  have hD0 := hD.up b0
  have q01 := hid (box_cells w 0 N)
  have d1 : decide ((n : Int) < 0) = false := decide_eq_false (by omega)
  have d2 : decide ((n : Int) = 64) = false := decide_eq_false (by omega)
  have d3 : ((n : Int) == 64) = false := by simp; omega
  go_enter Tryd.func20, Tryd.ntmps20
  go_wp2_with fail
  refine (need0_c N _ hN).mono ?_
  rintro e w1 ⟨rfl, hb1⟩
  have hs1 : w.heap.size < w1.heap.size := by have := hb1.size; simp at this; omega
  have b01 := b0.trans (hb1.mono b0.size)
  have hD1 := hD0.up hb1
  have c0 : w1.cell? ⟨w.heap.size, 0, none⟩ = some (.int .i64 0) := (hb1.cell (p := ⟨w.heap.size, 0, none⟩) (by simp)).trans q01.out.1
  have c1 : w1.cell? ⟨w.heap.size, 1, none⟩ = some (.int .u64 (N : Int)) := (hb1.cell (p := ⟨w.heap.size, 1, none⟩) (by simp)).trans q01.out.2
  clear hb1 q01 hD hD0 b0
  go_wp2_with (at_builtin; refine app_rows rfl (.tmp 36) (.tmp 37) rfl _ Xs w1.heap.size rfl rfl hD1 hl1 (Nat.le_refl _) ?_)
  intro v2 w2 ds hR hA hb2
  obtain ⟨g, cap, cur, hv2, hbg, -, hcap, hcm, -⟩ := hR.ex
  have hgl := (hR.lt g (by rw [hv2]; rfl)).2
  rw [hA.1, ← HN.out] at hv2 hcap
  subst hv2
  have c0' := (hb2.cell (p := ⟨w.heap.size, 0, none⟩) hs1).trans c0
  have c1' := (hb2.cell (p := ⟨w.heap.size, 1, none⟩) hs1).trans c1
  have b02 := b01.trans (hb2.mono b01.size)
  have hne : w.heap.size ≠ g := by omega
  have hs2 : w.heap.size < w2.heap.size := by omega
  have hl2 : ds.length = n := by rw [hA.1, HN.out]
  clear c0 c1 hb2 hD1 b01 d1 d2 d3
  go_wp2_with fail
  refine (dOf_c N w2 hN).mono ?_
  rintro e w3 ⟨r3, rfl, hd3, hb3⟩
  obtain ⟨A_r3, c_r3, l_r3, e_r3, -⟩ := hd3.ex
  subst e_r3
  have hR3 := hR.below hb3
  have hA3 := hA.up hb3
  have b03 := b02.trans (hb3.mono b02.size)
  clear hR hA b02 hb3 c0' c1'
  go_wp2_with fail
  refine (trimD_c _ N w3 hd3 (lt_big (Nat.lt_trans hN (by decide)))).mono ?_
  rintro e w4 ⟨r4, rfl, hd4, hb4⟩
  obtain ⟨A_r4, c_r4, l_r4, e_r4, -⟩ := hd4.ex
  subst e_r4
  have hR4 := hR3.below hb4
  have hA4 := hA3.up hb4
  have b04 := b03.trans (hb4.mono b03.size)
  have hbs : w1.heap.size ≤ w4.heap.size := by have := (hR4.lt g rfl).2; omega
  have hld : ds.length ≤ 1000 := by omega
  clear hR3 hA3 b03 hb4 hd3
  go_wp2_with (at_builtin; refine app_row rfl (.tmp 42) (.tmp 47) rfl _ w1.heap.size ds (.slice A_r4 l_r4.length c_r4) rfl rfl hR4 hld hbs rfl ?_)
  intro v5 w5 hR5 hM5
  have HD := hid (hR5.digs ((hA4.snoc hd4).kept hR4 hM5.gb))
  have HB := hid (b04.grown hM5.gb b04.size (fun q hq => by have := (hR4.lt q hq).1; omega))
  clear hR5 hM5 hR4 hA4 hd4 b04
  go_wp2
  go_ret2
  exact ⟨_, rfl, HD.out, HB.out⟩

set_option maxRecDepth 20000 in
set_option maxHeartbeats 4000000 in
theorem do7_ok (v : Value) (N : Nat) (Xs : List Nat) (w : World) (hD : Digs w v Xs) (hp : ∀ x ∈ Xs, x < pN) (hl : Xs.length ≤ 64) (hN : N < 18446744073709551616) (h1 : N + 1 ≤ Xs.length) (h2 : Xs.length < 64) :
    Calls Tryd.prog 20 #[v, .agg #[.int .i64 7, .int .u64 (N : Int)]] w fun e w' => ∃ r, e = .returned (.tuple #[r, .int .i64 0]) ∧ Digs w' r (act 7 N Xs) ∧ Below w.heap.size w w' := by
  obtain ⟨A, c, hv, hc, hm, -⟩ := hD.ex
  have hl1 : Xs.length ≤ 1000 := by omega
  obtain ⟨n, hn⟩ : ∃ n, n = Xs.length := ⟨_, rfl⟩
  rw [← hn] at hv hc hl h1 h2
  have HN := hid hn
  clear hn
  subst hv
  have b0 : Below w.heap.size w (w.alloc (.cells #[.int .i64 7, .int .u64 (N : Int)] 59)) := (Below.refl _ _).alloc (Nat.le_refl _) _
  have hD0 := hD.up b0
  have q01 := hid (box_cells w 7 N)
  have d2 : decide ((n : Int) = 64) = false := decide_eq_false (by omega)
  have d3 : ((n : Int) == 64) = false := by simp; omega
  go_enter Tryd.func20, Tryd.ntmps20
  go_wp2_with fail
  refine (need7q_c N _ hN).mono ?_
  rintro e w1 ⟨q, rfl, hq, hb1⟩
  have d1 : decide (n < q) = false := by
    have := hq n (by omega)
    exact decide_eq_false (by omega)
  clear hq
  have hs1 : w.heap.size < w1.heap.size := by have := hb1.size; simp at this; omega
  have b01 := b0.trans (hb1.mono b0.size)
  have hD1 := hD0.up hb1
  have c0 : w1.cell? ⟨w.heap.size, 0, none⟩ = some (.int .i64 7) := (hb1.cell (p := ⟨w.heap.size, 0, none⟩) (by simp)).trans q01.out.1
  have c1 : w1.cell? ⟨w.heap.size, 1, none⟩ = some (.int .u64 (N : Int)) := (hb1.cell (p := ⟨w.heap.size, 1, none⟩) (by simp)).trans q01.out.2
  clear hb1 q01 hD hD0 b0
  go_wp2_with (at_builtin; refine app_rows rfl (.tmp 36) (.tmp 37) rfl _ Xs w1.heap.size rfl rfl hD1 hl1 (Nat.le_refl _) ?_)
  intro v2 w2 ds hR hA hb2
  obtain ⟨g, cap, cur, hv2, hbg, -, hcap, hcm, -⟩ := hR.ex
  have hgl := (hR.lt g (by rw [hv2]; rfl)).2
  rw [hA.1, ← HN.out] at hv2 hcap
  subst hv2
  have c0' := (hb2.cell (p := ⟨w.heap.size, 0, none⟩) hs1).trans c0
  have c1' := (hb2.cell (p := ⟨w.heap.size, 1, none⟩) hs1).trans c1
  have b02 := b01.trans (hb2.mono b01.size)
  have hne : w.heap.size ≠ g := by omega
  have hs2 : w.heap.size < w2.heap.size := by omega
  have hl2 : ds.length = n := by rw [hA.1, HN.out]
  clear c0 c1 hb2 hD1 b01 d1 d2 d3
  obtain ⟨j, hj⟩ : ∃ j, j = n - 1 - N := ⟨_, rfl⟩
  have hjl : j < ds.length := by omega
  have hjX : j < Xs.length := by rw [← HN.out]; omega
  obtain ⟨d, hd⟩ : ∃ d, d = ds.getD j undef := ⟨_, rfl⟩
  have cj := (hR.cell j hjl).1
  have hDj := hA.2 j hjX
  rw [← hd] at cj hDj
  have HJ : Hid (act 7 N Xs = Xs ++ [Xs.getD j 0]) := hid (by rw [hj, HN.out]; rfl)
  obtain ⟨A_d, c_d, l_d, e_d, -⟩ := hDj.ex
  subst e_d
  have x1 : (n : Int) - 1 - (N : Int) = (j : Int) := by omega
  have x2 : IntKind.i64.wrap (N : Int) = (N : Int) := by rw [IntKind.wrap_i64]; omega
  have x3 : (0 : Int) ≤ (j : Int) := by omega
  have x4 : (j : Int) < (n : Int) := by omega
  have hbs : w1.heap.size ≤ w2.heap.size := by omega
  have hld : ds.length ≤ 1000 := by omega
  clear hd hj hjl hjX
  go_wp2_with (at_builtin; refine app_row rfl (.tmp 52) (.tmp 62) rfl _ w1.heap.size ds (.slice A_d l_d.length c_d) rfl rfl hR hld hbs rfl ?_)
  intro v5 w5 hR5 hM5
  have HD := hid (hR5.digs ((hA.snoc hDj).kept hR hM5.gb))
  rw [← HJ.out] at HD
  have HB := hid (b02.grown hM5.gb b02.size (fun q hq => by have := (hR.lt q hq).1; omega))
  clear hR5 hM5 hR hA hDj b02 HJ
  go_wp2
  go_ret2
  exact ⟨_, rfl, HD.out, HB.out⟩

set_option maxRecDepth 20000 in
set_option maxHeartbeats 4000000 in
theorem do9_ok (v : Value) (N : Nat) (Xs : List Nat) (w : World) (hD : Digs w v Xs) (hp : ∀ x ∈ Xs, x < pN) (hl : Xs.length ≤ 64) (hN : N < 18446744073709551616) (h1 : 1 ≤ Xs.length) :
    Calls Tryd.prog 20 #[v, .agg #[.int .i64 9, .int .u64 (N : Int)]] w fun e w' => ∃ r, e = .returned (.tuple #[r, .int .i64 0]) ∧ Digs w' r (act 9 N Xs) ∧ Below w.heap.size w w' := by
  obtain ⟨A, c, hv, hc, hm, -⟩ := hD.ex
  have hl1 : Xs.length ≤ 1000 := by omega
  obtain ⟨n, hn⟩ : ∃ n, n = Xs.length := ⟨_, rfl⟩
  rw [← hn] at hv hc hl h1
  have HN := hid hn
  clear hn
  subst hv
  have b0 : Below w.heap.size w (w.alloc (.cells #[.int .i64 9, .int .u64 (N : Int)] 59)) := (Below.refl _ _).alloc (Nat.le_refl _) _
  have hD0 := hD.up b0
  have q01 := hid (box_cells w 9 N)
  have d1 : decide ((n : Int) < 1) = false := decide_eq_false (by omega)
  have h64 : (decide ((n : Int) = 64) = true ∧ ((n : Int) == 64) = true) ∨ (decide ((n : Int) = 64) = false ∧ ((n : Int) == 64) = false) := by
    by_cases h : n = 64
    · exact Or.inl ⟨decide_eq_true (by omega), by simp; omega⟩
    · exact Or.inr ⟨decide_eq_false (by omega), by simp; omega⟩
  rcases h64 with ⟨d2, d3⟩ | ⟨d2, d3⟩
  all_goals
    go_enter Tryd.func20, Tryd.ntmps20
    go_wp2_with fail
    refine (need9_c N _ hN).mono ?_
    rintro e w1 ⟨rfl, hb1⟩
    have hs1 : w.heap.size < w1.heap.size := by have := hb1.size; simp at this; omega
    have b01 := b0.trans (hb1.mono b0.size)
    have hD1 := hD0.up hb1
    have c0 : w1.cell? ⟨w.heap.size, 0, none⟩ = some (.int .i64 9) := (hb1.cell (p := ⟨w.heap.size, 0, none⟩) (by simp)).trans q01.out.1
    have c1 : w1.cell? ⟨w.heap.size, 1, none⟩ = some (.int .u64 (N : Int)) := (hb1.cell (p := ⟨w.heap.size, 1, none⟩) (by simp)).trans q01.out.2
    clear hb1 q01 hD hD0 b0
    go_wp2_with (at_builtin; refine app_rows rfl (.tmp 36) (.tmp 37) rfl _ Xs w1.heap.size rfl rfl hD1 hl1 (Nat.le_refl _) ?_)
    intro v2 w2 ds hR hA hb2
    obtain ⟨g, cap, cur, hv2, hbg, -, hcap, hcm, -⟩ := hR.ex
    have hgl := (hR.lt g (by rw [hv2]; rfl)).2
    rw [hA.1, ← HN.out] at hv2 hcap
    subst hv2
    have c0' := (hb2.cell (p := ⟨w.heap.size, 0, none⟩) hs1).trans c0
    have c1' := (hb2.cell (p := ⟨w.heap.size, 1, none⟩) hs1).trans c1
    have b02 := b01.trans (hb2.mono b01.size)
    have hne : w.heap.size ≠ g := by omega
    have hs2 : w.heap.size < w2.heap.size := by omega
    have hl2 : ds.length = n := by rw [hA.1, HN.out]
    clear c0 c1 hb2 hD1 b01 d1 d2 d3
    obtain ⟨ys, x, rfl⟩ := split1 Xs (by rw [← HN.out]; omega)
    have hx : x < pN := hp x (by simp)
    obtain ⟨m, hmy⟩ : ∃ m, m = ys.length := ⟨_, rfl⟩
    have hnm : n = m + 1 := by rw [HN.out, hmy]; simp
    have HM := hid hmy
    obtain ⟨top, htop⟩ : ∃ d, d = ds.getD m undef := ⟨_, rfl⟩
    have ct := (hR.cell m (by omega)).1
    have hT := hA.2 m (by rw [hmy]; simp)
    rw [← htop] at ct hT
    rw [hmy, getD_top] at hT
    have x1 : (n : Int) - 1 = (m : Int) := by omega
    have x2 : (0 : Int) ≤ (m : Int) := by omega
    have x3 : (m : Int) < (n : Int) := by omega
    have x4 : (m : Int) ≤ (cap : Int) := by omega
    obtain ⟨A_t, c_t, l_t, e_t, -⟩ := hT.ex
    subst e_t
    clear htop hmy hp hnm
    have hC := hR.cut m (by omega)
    have hE := hA.take m
    have HD := hid (hC.digs hE)
    rw [HM.out, List.take_left] at HD
    have HB := hid b02
    clear hC hE hR hA b02 hT
    go_wp2
    go_ret2
    refine ⟨_, rfl, ?_, HB.out⟩
    rw [show act 9 N (ys ++ [x]) = ys from dropL_eq ys x]
    have := HD.out
    rw [← HM.out] at this
    exact this

set_option maxRecDepth 20000 in
set_option maxHeartbeats 4000000 in
theorem do4_ok (v : Value) (N : Nat) (Xs : List Nat) (w : World) (hD : Digs w v Xs) (hp : ∀ x ∈ Xs, x < pN) (hl : Xs.length ≤ 64) (hN : N < 18446744073709551616) (h1 : 1 ≤ Xs.length) :
    Calls Tryd.prog 20 #[v, .agg #[.int .i64 4, .int .u64 (N : Int)]] w fun e w' => ∃ r, e = .returned (.tuple #[r, .int .i64 0]) ∧ Digs w' r (act 4 N Xs) ∧ Below w.heap.size w w' := by
  obtain ⟨A, c, hv, hc, hm, -⟩ := hD.ex
  have hl1 : Xs.length ≤ 1000 := by omega
  obtain ⟨n, hn⟩ : ∃ n, n = Xs.length := ⟨_, rfl⟩
  rw [← hn] at hv hc hl h1
  have HN := hid hn
  clear hn
  subst hv
  have b0 : Below w.heap.size w (w.alloc (.cells #[.int .i64 4, .int .u64 (N : Int)] 59)) := (Below.refl _ _).alloc (Nat.le_refl _) _
  have hD0 := hD.up b0
  have q01 := hid (box_cells w 4 N)
  have d1 : decide ((n : Int) < 1) = false := decide_eq_false (by omega)
  have h64 : (decide ((n : Int) = 64) = true ∧ ((n : Int) == 64) = true) ∨ (decide ((n : Int) = 64) = false ∧ ((n : Int) == 64) = false) := by
    by_cases h : n = 64
    · exact Or.inl ⟨decide_eq_true (by omega), by simp; omega⟩
    · exact Or.inr ⟨decide_eq_false (by omega), by simp; omega⟩
  rcases h64 with ⟨d2, d3⟩ | ⟨d2, d3⟩
  all_goals
    go_enter Tryd.func20, Tryd.ntmps20
    go_wp2_with fail
    refine (need4_c N _ hN).mono ?_
    rintro e w1 ⟨rfl, hb1⟩
    have hs1 : w.heap.size < w1.heap.size := by have := hb1.size; simp at this; omega
    have b01 := b0.trans (hb1.mono b0.size)
    have hD1 := hD0.up hb1
    have c0 : w1.cell? ⟨w.heap.size, 0, none⟩ = some (.int .i64 4) := (hb1.cell (p := ⟨w.heap.size, 0, none⟩) (by simp)).trans q01.out.1
    have c1 : w1.cell? ⟨w.heap.size, 1, none⟩ = some (.int .u64 (N : Int)) := (hb1.cell (p := ⟨w.heap.size, 1, none⟩) (by simp)).trans q01.out.2
    clear hb1 q01 hD hD0 b0
    go_wp2_with (at_builtin; refine app_rows rfl (.tmp 36) (.tmp 37) rfl _ Xs w1.heap.size rfl rfl hD1 hl1 (Nat.le_refl _) ?_)
    intro v2 w2 ds hR hA hb2
    obtain ⟨g, cap, cur, hv2, hbg, -, hcap, hcm, -⟩ := hR.ex
    have hgl := (hR.lt g (by rw [hv2]; rfl)).2
    rw [hA.1, ← HN.out] at hv2 hcap
    subst hv2
    have c0' := (hb2.cell (p := ⟨w.heap.size, 0, none⟩) hs1).trans c0
    have c1' := (hb2.cell (p := ⟨w.heap.size, 1, none⟩) hs1).trans c1
    have b02 := b01.trans (hb2.mono b01.size)
    have hne : w.heap.size ≠ g := by omega
    have hs2 : w.heap.size < w2.heap.size := by omega
    have hl2 : ds.length = n := by rw [hA.1, HN.out]
    clear c0 c1 hb2 hD1 b01 d1 d2 d3
    obtain ⟨ys, x, rfl⟩ := split1 Xs (by rw [← HN.out]; omega)
    have hx : x < pN := hp x (by simp)
    obtain ⟨m, hmy⟩ : ∃ m, m = ys.length := ⟨_, rfl⟩
    have hnm : n = m + 1 := by rw [HN.out, hmy]; simp
    have HM := hid hmy
    obtain ⟨top, htop⟩ : ∃ d, d = ds.getD m undef := ⟨_, rfl⟩
    have ct := (hR.cell m (by omega)).1
    have hT := hA.2 m (by rw [hmy]; simp)
    rw [← htop] at ct hT
    rw [hmy, getD_top] at hT
    have x1 : (n : Int) - 1 = (m : Int) := by omega
    have x2 : (0 : Int) ≤ (m : Int) := by omega
    have x3 : (m : Int) < (n : Int) := by omega
    have x4 : (m : Int) ≤ (cap : Int) := by omega
    obtain ⟨A_t, c_t, l_t, e_t, -⟩ := hT.ex
    subst e_t
    clear htop hmy hp hnm
    go_wp2_with fail
    refine (dSubP_c (.slice none 0 0) _ 0 x w2 (Dg.nil w2) hT (hid pN_pos) (hid hx)).mono ?_
    rintro e w3 ⟨r, rfl, hr, hb3⟩
    rw [Nat.zero_add] at hr
    obtain ⟨A_r, c_r, l_r, e_r, -⟩ := hr.ex
    subst e_r
    obtain ⟨P1, P2, P3⟩ := RowV.put (hR.below hb3) (hA.up hb3) m (by omega) hr
    rw [HM.out, set_top, ← HM.out] at P2
    have b03 := b02.trans (hb3.mono b02.size)
    have fz := ((hR.below hb3).cell m (by omega)).2
    have e0 := other_cell P3 (Nat.lt_of_lt_of_le hs2 hb3.size) hne ((hb3.cell (p := ⟨w.heap.size, 0, none⟩) hs2).trans c0')
    have e1 := other_cell P3 (Nat.lt_of_lt_of_le hs2 hb3.size) hne ((hb3.cell (p := ⟨w.heap.size, 1, none⟩) hs2).trans c1')
    have b04 := b03.grown P3 b03.size (fun q hq => by injection hq with hq; omega)
    have HD := hid (P1.digs P2)
    have ct' := (hb3.cell (p := ⟨g, m, none⟩) hgl).trans ct
    clear c0' c1' hR hA hT ct P1 P2 P3 b02 b03 hb3 hr
    go_wp2_with fail
    refine (need4_c N _ hN).mono ?_
    rintro e w4 ⟨rfl, hb4⟩
    have HD4 := hid (HD.out.up hb4)
    have HB4 := hid (b04.trans (hb4.mono b04.size))
    clear hb4 HD b04 e0 e1 fz ct'
    go_wp2
    go_ret2
    refine ⟨_, rfl, ?_, HB4.out⟩
    rw [show act 4 N (ys ++ [x]) = ys ++ [(pN - x) % pN] from turnL_eq (fun x => (pN - x) % pN) ys x]
    exact HD4.out

set_option maxRecDepth 20000 in
set_option maxHeartbeats 4000000 in
theorem do5_ok (v : Value) (N : Nat) (Xs : List Nat) (w : World) (hD : Digs w v Xs) (hp : ∀ x ∈ Xs, x < pN) (hl : Xs.length ≤ 64) (hN : N < 18446744073709551616) (h1 : 1 ≤ Xs.length) :
    Calls Tryd.prog 20 #[v, .agg #[.int .i64 5, .int .u64 (N : Int)]] w fun e w' => ∃ r, e = .returned (.tuple #[r, .int .i64 0]) ∧ Digs w' r (act 5 N Xs) ∧ Below w.heap.size w w' := by
  obtain ⟨A, c, hv, hc, hm, -⟩ := hD.ex
  have hl1 : Xs.length ≤ 1000 := by omega
  obtain ⟨n, hn⟩ : ∃ n, n = Xs.length := ⟨_, rfl⟩
  rw [← hn] at hv hc hl h1
  have HN := hid hn
  clear hn
  subst hv
  have b0 : Below w.heap.size w (w.alloc (.cells #[.int .i64 5, .int .u64 (N : Int)] 59)) := (Below.refl _ _).alloc (Nat.le_refl _) _
  have hD0 := hD.up b0
  have q01 := hid (box_cells w 5 N)
  have d1 : decide ((n : Int) < 1) = false := decide_eq_false (by omega)
  have h64 : (decide ((n : Int) = 64) = true ∧ ((n : Int) == 64) = true) ∨ (decide ((n : Int) = 64) = false ∧ ((n : Int) == 64) = false) := by
    by_cases h : n = 64
    · exact Or.inl ⟨decide_eq_true (by omega), by simp; omega⟩
    · exact Or.inr ⟨decide_eq_false (by omega), by simp; omega⟩
  rcases h64 with ⟨d2, d3⟩ | ⟨d2, d3⟩
  all_goals
    go_enter Tryd.func20, Tryd.ntmps20
    go_wp2_with fail
    refine (need5_c N _ hN).mono ?_
    rintro e w1 ⟨rfl, hb1⟩
    have hs1 : w.heap.size < w1.heap.size := by have := hb1.size; simp at this; omega
    have b01 := b0.trans (hb1.mono b0.size)
    have hD1 := hD0.up hb1
    have c0 : w1.cell? ⟨w.heap.size, 0, none⟩ = some (.int .i64 5) := (hb1.cell (p := ⟨w.heap.size, 0, none⟩) (by simp)).trans q01.out.1
    have c1 : w1.cell? ⟨w.heap.size, 1, none⟩ = some (.int .u64 (N : Int)) := (hb1.cell (p := ⟨w.heap.size, 1, none⟩) (by simp)).trans q01.out.2
    clear hb1 q01 hD hD0 b0
    go_wp2_with (at_builtin; refine app_rows rfl (.tmp 36) (.tmp 37) rfl _ Xs w1.heap.size rfl rfl hD1 hl1 (Nat.le_refl _) ?_)
    intro v2 w2 ds hR hA hb2
    obtain ⟨g, cap, cur, hv2, hbg, -, hcap, hcm, -⟩ := hR.ex
    have hgl := (hR.lt g (by rw [hv2]; rfl)).2
    rw [hA.1, ← HN.out] at hv2 hcap
    subst hv2
    have c0' := (hb2.cell (p := ⟨w.heap.size, 0, none⟩) hs1).trans c0
    have c1' := (hb2.cell (p := ⟨w.heap.size, 1, none⟩) hs1).trans c1
    have b02 := b01.trans (hb2.mono b01.size)
    have hne : w.heap.size ≠ g := by omega
    have hs2 : w.heap.size < w2.heap.size := by omega
    have hl2 : ds.length = n := by rw [hA.1, HN.out]
    clear c0 c1 hb2 hD1 b01 d1 d2 d3
    obtain ⟨ys, x, rfl⟩ := split1 Xs (by rw [← HN.out]; omega)
    have hx : x < pN := hp x (by simp)
    obtain ⟨m, hmy⟩ : ∃ m, m = ys.length := ⟨_, rfl⟩
    have hnm : n = m + 1 := by rw [HN.out, hmy]; simp
    have HM := hid hmy
    obtain ⟨top, htop⟩ : ∃ d, d = ds.getD m undef := ⟨_, rfl⟩
    have ct := (hR.cell m (by omega)).1
    have hT := hA.2 m (by rw [hmy]; simp)
    rw [← htop] at ct hT
    rw [hmy, getD_top] at hT
    have x1 : (n : Int) - 1 = (m : Int) := by omega
    have x2 : (0 : Int) ≤ (m : Int) := by omega
    have x3 : (m : Int) < (n : Int) := by omega
    have x4 : (m : Int) ≤ (cap : Int) := by omega
    obtain ⟨A_t, c_t, l_t, e_t, -⟩ := hT.ex
    subst e_t
    clear htop hmy hp hnm
    go_wp2_with fail
    refine (ref2Mul_c _ _ x x w2 hT hT (hid hx) (hid hx)).mono ?_
    rintro e w3 ⟨r, rfl, hr, hb3⟩
    obtain ⟨A_r, c_r, l_r, e_r, -⟩ := hr.ex
    subst e_r
    obtain ⟨P1, P2, P3⟩ := RowV.put (hR.below hb3) (hA.up hb3) m (by omega) hr
    rw [HM.out, set_top, ← HM.out] at P2
    have b03 := b02.trans (hb3.mono b02.size)
    have fz := ((hR.below hb3).cell m (by omega)).2
    have e0 := other_cell P3 (Nat.lt_of_lt_of_le hs2 hb3.size) hne ((hb3.cell (p := ⟨w.heap.size, 0, none⟩) hs2).trans c0')
    have e1 := other_cell P3 (Nat.lt_of_lt_of_le hs2 hb3.size) hne ((hb3.cell (p := ⟨w.heap.size, 1, none⟩) hs2).trans c1')
    have b04 := b03.grown P3 b03.size (fun q hq => by injection hq with hq; omega)
    have HD := hid (P1.digs P2)
    have ct' := (hb3.cell (p := ⟨g, m, none⟩) hgl).trans ct
    clear c0' c1' hR hA hT ct P1 P2 P3 b02 b03 hb3 hr
    go_wp2_with fail
    refine (need5_c N _ hN).mono ?_
    rintro e w4 ⟨rfl, hb4⟩
    have HD4 := hid (HD.out.up hb4)
    have HB4 := hid (b04.trans (hb4.mono b04.size))
    clear hb4 HD b04 e0 e1 fz ct'
    go_wp2
    go_ret2
    refine ⟨_, rfl, ?_, HB4.out⟩
    rw [show act 5 N (ys ++ [x]) = ys ++ [x * x % pN] from turnL_eq (fun x => x * x % pN) ys x]
    exact HD4.out

set_option maxRecDepth 20000 in
set_option maxHeartbeats 4000000 in
theorem do6_ok (v : Value) (N : Nat) (Xs : List Nat) (w : World) (hD : Digs w v Xs) (hp : ∀ x ∈ Xs, x < pN) (hl : Xs.length ≤ 64) (hN : N < 18446744073709551616) (h1 : 1 ≤ Xs.length) :
    Calls Tryd.prog 20 #[v, .agg #[.int .i64 6, .int .u64 (N : Int)]] w fun e w' => ∃ r, e = .returned (.tuple #[r, .int .i64 0]) ∧ Digs w' r (act 6 N Xs) ∧ Below w.heap.size w w' := by
  obtain ⟨A, c, hv, hc, hm, -⟩ := hD.ex
  have hl1 : Xs.length ≤ 1000 := by omega
  obtain ⟨n, hn⟩ : ∃ n, n = Xs.length := ⟨_, rfl⟩
  rw [← hn] at hv hc hl h1
  have HN := hid hn
  clear hn
  subst hv
  have b0 : Below w.heap.size w (w.alloc (.cells #[.int .i64 6, .int .u64 (N : Int)] 59)) := (Below.refl _ _).alloc (Nat.le_refl _) _
  have hD0 := hD.up b0
  have q01 := hid (box_cells w 6 N)
  have d1 : decide ((n : Int) < 1) = false := decide_eq_false (by omega)
  have h64 : (decide ((n : Int) = 64) = true ∧ ((n : Int) == 64) = true) ∨ (decide ((n : Int) = 64) = false ∧ ((n : Int) == 64) = false) := by
    by_cases h : n = 64
    · exact Or.inl ⟨decide_eq_true (by omega), by simp; omega⟩
    · exact Or.inr ⟨decide_eq_false (by omega), by simp; omega⟩
  rcases h64 with ⟨d2, d3⟩ | ⟨d2, d3⟩
  all_goals
    go_enter Tryd.func20, Tryd.ntmps20
    go_wp2_with fail
    refine (need6_c N _ hN).mono ?_
    rintro e w1 ⟨rfl, hb1⟩
    have hs1 : w.heap.size < w1.heap.size := by have := hb1.size; simp at this; omega
    have b01 := b0.trans (hb1.mono b0.size)
    have hD1 := hD0.up hb1
    have c0 : w1.cell? ⟨w.heap.size, 0, none⟩ = some (.int .i64 6) := (hb1.cell (p := ⟨w.heap.size, 0, none⟩) (by simp)).trans q01.out.1
    have c1 : w1.cell? ⟨w.heap.size, 1, none⟩ = some (.int .u64 (N : Int)) := (hb1.cell (p := ⟨w.heap.size, 1, none⟩) (by simp)).trans q01.out.2
    clear hb1 q01 hD hD0 b0
    go_wp2_with (at_builtin; refine app_rows rfl (.tmp 36) (.tmp 37) rfl _ Xs w1.heap.size rfl rfl hD1 hl1 (Nat.le_refl _) ?_)
    intro v2 w2 ds hR hA hb2
    obtain ⟨g, cap, cur, hv2, hbg, -, hcap, hcm, -⟩ := hR.ex
    have hgl := (hR.lt g (by rw [hv2]; rfl)).2
    rw [hA.1, ← HN.out] at hv2 hcap
    subst hv2
    have c0' := (hb2.cell (p := ⟨w.heap.size, 0, none⟩) hs1).trans c0
    have c1' := (hb2.cell (p := ⟨w.heap.size, 1, none⟩) hs1).trans c1
    have b02 := b01.trans (hb2.mono b01.size)
    have hne : w.heap.size ≠ g := by omega
    have hs2 : w.heap.size < w2.heap.size := by omega
    have hl2 : ds.length = n := by rw [hA.1, HN.out]
    clear c0 c1 hb2 hD1 b01 d1 d2 d3
    obtain ⟨ys, x, rfl⟩ := split1 Xs (by rw [← HN.out]; omega)
    have hx : x < pN := hp x (by simp)
    obtain ⟨m, hmy⟩ : ∃ m, m = ys.length := ⟨_, rfl⟩
    have hnm : n = m + 1 := by rw [HN.out, hmy]; simp
    have HM := hid hmy
    obtain ⟨top, htop⟩ : ∃ d, d = ds.getD m undef := ⟨_, rfl⟩
    have ct := (hR.cell m (by omega)).1
    have hT := hA.2 m (by rw [hmy]; simp)
    rw [← htop] at ct hT
    rw [hmy, getD_top] at hT
    have x1 : (n : Int) - 1 = (m : Int) := by omega
    have x2 : (0 : Int) ≤ (m : Int) := by omega
    have x3 : (m : Int) < (n : Int) := by omega
    have x4 : (m : Int) ≤ (cap : Int) := by omega
    obtain ⟨A_t, c_t, l_t, e_t, -⟩ := hT.ex
    subst e_t
    clear htop hmy hp hnm
    go_wp2_with fail
    refine (dInvP_c _ x w2 hT (hid hx)).mono ?_
    rintro e w3 ⟨r, rfl, hr, hb3⟩
    obtain ⟨A_r, c_r, l_r, e_r, -⟩ := hr.ex
    subst e_r
    obtain ⟨P1, P2, P3⟩ := RowV.put (hR.below hb3) (hA.up hb3) m (by omega) hr
    rw [HM.out, set_top, ← HM.out] at P2
    have b03 := b02.trans (hb3.mono b02.size)
    have fz := ((hR.below hb3).cell m (by omega)).2
    have e0 := other_cell P3 (Nat.lt_of_lt_of_le hs2 hb3.size) hne ((hb3.cell (p := ⟨w.heap.size, 0, none⟩) hs2).trans c0')
    have e1 := other_cell P3 (Nat.lt_of_lt_of_le hs2 hb3.size) hne ((hb3.cell (p := ⟨w.heap.size, 1, none⟩) hs2).trans c1')
    have b04 := b03.grown P3 b03.size (fun q hq => by injection hq with hq; omega)
    have HD := hid (P1.digs P2)
    have ct' := (hb3.cell (p := ⟨g, m, none⟩) hgl).trans ct
    clear c0' c1' hR hA hT ct P1 P2 P3 b02 b03 hb3 hr
    go_wp2_with fail
    refine (need6_c N _ hN).mono ?_
    rintro e w4 ⟨rfl, hb4⟩
    have HD4 := hid (HD.out.up hb4)
    have HB4 := hid (b04.trans (hb4.mono b04.size))
    clear hb4 HD b04 e0 e1 fz ct'
    go_wp2
    go_ret2
    refine ⟨_, rfl, ?_, HB4.out⟩
    rw [show act 6 N (ys ++ [x]) = ys ++ [x ^ (pN - 2) % pN] from turnL_eq (fun x => x ^ (pN - 2) % pN) ys x]
    exact HD4.out

set_option maxRecDepth 20000 in
set_option maxHeartbeats 4000000 in
theorem do1_ok (v : Value) (N : Nat) (Xs : List Nat) (w : World) (hD : Digs w v Xs) (hp : ∀ x ∈ Xs, x < pN) (hl : Xs.length ≤ 64) (hN : N < 18446744073709551616) (h1 : 2 ≤ Xs.length) :
    Calls Tryd.prog 20 #[v, .agg #[.int .i64 1, .int .u64 (N : Int)]] w fun e w' => ∃ r, e = .returned (.tuple #[r, .int .i64 0]) ∧ Digs w' r (act 1 N Xs) ∧ Below w.heap.size w w' := by
  obtain ⟨A, c, hv, hc, hm, -⟩ := hD.ex
  have hl1 : Xs.length ≤ 1000 := by omega
  obtain ⟨n, hn⟩ : ∃ n, n = Xs.length := ⟨_, rfl⟩
  rw [← hn] at hv hc hl h1
  have HN := hid hn
  clear hn
  subst hv
  have b0 : Below w.heap.size w (w.alloc (.cells #[.int .i64 1, .int .u64 (N : Int)] 59)) := (Below.refl _ _).alloc (Nat.le_refl _) _
  have hD0 := hD.up b0
  have q01 := hid (box_cells w 1 N)
  have d1 : decide ((n : Int) < 2) = false := decide_eq_false (by omega)
  have h64 : (decide ((n : Int) = 64) = true ∧ ((n : Int) == 64) = true) ∨ (decide ((n : Int) = 64) = false ∧ ((n : Int) == 64) = false) := by
    by_cases h : n = 64
    · exact Or.inl ⟨decide_eq_true (by omega), by simp; omega⟩
    · exact Or.inr ⟨decide_eq_false (by omega), by simp; omega⟩
  rcases h64 with ⟨d2, d3⟩ | ⟨d2, d3⟩
  all_goals
    go_enter Tryd.func20, Tryd.ntmps20
    go_wp2_with fail
    refine (need1_c N _ hN).mono ?_
    rintro e w1 ⟨rfl, hb1⟩
    have hs1 : w.heap.size < w1.heap.size := by have := hb1.size; simp at this; omega
    have b01 := b0.trans (hb1.mono b0.size)
    have hD1 := hD0.up hb1
    have c0 : w1.cell? ⟨w.heap.size, 0, none⟩ = some (.int .i64 1) := (hb1.cell (p := ⟨w.heap.size, 0, none⟩) (by simp)).trans q01.out.1
    have c1 : w1.cell? ⟨w.heap.size, 1, none⟩ = some (.int .u64 (N : Int)) := (hb1.cell (p := ⟨w.heap.size, 1, none⟩) (by simp)).trans q01.out.2
    clear hb1 q01 hD hD0 b0
    go_wp2_with (at_builtin; refine app_rows rfl (.tmp 36) (.tmp 37) rfl _ Xs w1.heap.size rfl rfl hD1 hl1 (Nat.le_refl _) ?_)
    intro v2 w2 ds hR hA hb2
    obtain ⟨g, cap, cur, hv2, hbg, -, hcap, hcm, -⟩ := hR.ex
    have hgl := (hR.lt g (by rw [hv2]; rfl)).2
    rw [hA.1, ← HN.out] at hv2 hcap
    subst hv2
    have c0' := (hb2.cell (p := ⟨w.heap.size, 0, none⟩) hs1).trans c0
    have c1' := (hb2.cell (p := ⟨w.heap.size, 1, none⟩) hs1).trans c1
    have b02 := b01.trans (hb2.mono b01.size)
    have hne : w.heap.size ≠ g := by omega
    have hs2 : w.heap.size < w2.heap.size := by omega
    have hl2 : ds.length = n := by rw [hA.1, HN.out]
    clear c0 c1 hb2 hD1 b01 d1 d2 d3
    obtain ⟨ys, x, y, rfl⟩ := split2 Xs (by rw [← HN.out]; omega)
    have hx : x < pN := hp x (by simp)
    have hy : y < pN := hp y (by simp)
    obtain ⟨m, hmy⟩ : ∃ m, m = ys.length := ⟨_, rfl⟩
    have hnm : n = m + 2 := by rw [HN.out, hmy]; simp
    have HM := hid hmy
    obtain ⟨p, hpm⟩ : ∃ p, p = m + 1 := ⟨_, rfl⟩
    obtain ⟨top, htop⟩ : ∃ d, d = ds.getD p undef := ⟨_, rfl⟩
    obtain ⟨low, hlow⟩ : ∃ d, d = ds.getD m undef := ⟨_, rfl⟩
    have ct := (hR.cell p (by omega)).1
    have cl := (hR.cell m (by omega)).1
    have hT := hA.2 p (by rw [hpm, hmy]; simp)
    have hL := hA.2 m (by rw [hmy]; simp)
    rw [← htop] at ct hT
    rw [← hlow] at cl hL
    rw [hpm, hmy, getD_top2] at hT
    rw [hmy, getD_low] at hL
    have x1 : (n : Int) - 1 = (p : Int) := by omega
    have x5 : (n : Int) - 2 = (m : Int) := by omega
    have x2 : (0 : Int) ≤ (m : Int) := by omega
    have x3 : (m : Int) < (n : Int) := by omega
    have x6 : (0 : Int) ≤ (p : Int) := by omega
    have x7 : (p : Int) < (n : Int) := by omega
    have x4 : (p : Int) ≤ (cap : Int) := by omega
    have HPM := hid hpm
    obtain ⟨A_t, c_t, l_t, e_t, -⟩ := hT.ex
    subst e_t
    obtain ⟨A_l, c_l, l_l, e_l, -⟩ := hL.ex
    subst e_l
    clear htop hlow hmy hp hpm hnm
    go_wp2_with fail
    refine (need1_c N _ hN).mono ?_
    rintro e w3 ⟨rfl, hb3⟩
    have hR3 := hR.below hb3
    have hA3 := hA.up hb3
    have hT3 := hT.up hb3
    have hL3 := hL.up hb3
    have c0'' := (hb3.cell (p := ⟨w.heap.size, 0, none⟩) hs2).trans c0'
    have cl3 := (hb3.cell (p := ⟨g, m, none⟩) hgl).trans cl
    have ct3 := (hb3.cell (p := ⟨g, p, none⟩) hgl).trans ct
    have b03 := b02.trans (hb3.mono b02.size)
    clear hR hA hT hL c0' c1' ct cl b02 hb3
    go_wp2_with fail
    refine (dAddP_c _ _ x y w3 hL3 hT3 (hid hx) (hid hy)).mono ?_
    rintro e w4 ⟨r, rfl, hr, hb4⟩
    obtain ⟨A_r, c_r, l_r, e_r, -⟩ := hr.ex
    subst e_r
    obtain ⟨P1, P2, P3⟩ := RowV.put (hR3.below hb4) (hA3.up hb4) m (by omega) hr
    have b04 := b03.trans (hb4.mono b03.size)
    have fz := ((hR3.below hb4).cell m (by omega)).2
    have HB := hid (b04.grown P3 b04.size (fun q hq => by injection hq with hq; omega))
    have HD := hid ((P1.cut p (by omega)).digs (P2.take p))
    rw [HPM.out, HM.out, set_low, take_low] at HD
    have HE := hid HD.out
    have cl4 := (hb4.cell (p := ⟨g, m, none⟩) (hR3.lt g rfl).2).trans cl3
    clear P1 P2 P3 b03 b04 hb4 hr hR3 hA3 hT3 hL3 cl3 ct3 HD c0''
    go_wp2
    go_ret2
    refine ⟨_, rfl, ?_, HB.out⟩
    rw [show act 1 N (ys ++ [x, y]) = ys ++ [(x + y) % pN] from joinL_eq (fun x y => (x + y) % pN) ys x y]
    have := HE.out
    rw [← HM.out, ← HPM.out] at this
    exact this

set_option maxRecDepth 20000 in
set_option maxHeartbeats 4000000 in
theorem do2_ok (v : Value) (N : Nat) (Xs : List Nat) (w : World) (hD : Digs w v Xs) (hp : ∀ x ∈ Xs, x < pN) (hl : Xs.length ≤ 64) (hN : N < 18446744073709551616) (h1 : 2 ≤ Xs.length) :
    Calls Tryd.prog 20 #[v, .agg #[.int .i64 2, .int .u64 (N : Int)]] w fun e w' => ∃ r, e = .returned (.tuple #[r, .int .i64 0]) ∧ Digs w' r (act 2 N Xs) ∧ Below w.heap.size w w' := by
  obtain ⟨A, c, hv, hc, hm, -⟩ := hD.ex
  have hl1 : Xs.length ≤ 1000 := by omega
  obtain ⟨n, hn⟩ : ∃ n, n = Xs.length := ⟨_, rfl⟩
  rw [← hn] at hv hc hl h1
  have HN := hid hn
  clear hn
  subst hv
  have b0 : Below w.heap.size w (w.alloc (.cells #[.int .i64 2, .int .u64 (N : Int)] 59)) := (Below.refl _ _).alloc (Nat.le_refl _) _
  have hD0 := hD.up b0
  have q01 := hid (box_cells w 2 N)
  have d1 : decide ((n : Int) < 2) = false := decide_eq_false (by omega)
  have h64 : (decide ((n : Int) = 64) = true ∧ ((n : Int) == 64) = true) ∨ (decide ((n : Int) = 64) = false ∧ ((n : Int) == 64) = false) := by
    by_cases h : n = 64
    · exact Or.inl ⟨decide_eq_true (by omega), by simp; omega⟩
    · exact Or.inr ⟨decide_eq_false (by omega), by simp; omega⟩
  rcases h64 with ⟨d2, d3⟩ | ⟨d2, d3⟩
  all_goals
    go_enter Tryd.func20, Tryd.ntmps20
    go_wp2_with fail
    refine (need2_c N _ hN).mono ?_
    rintro e w1 ⟨rfl, hb1⟩
    have hs1 : w.heap.size < w1.heap.size := by have := hb1.size; simp at this; omega
    have b01 := b0.trans (hb1.mono b0.size)
    have hD1 := hD0.up hb1
    have c0 : w1.cell? ⟨w.heap.size, 0, none⟩ = some (.int .i64 2) := (hb1.cell (p := ⟨w.heap.size, 0, none⟩) (by simp)).trans q01.out.1
    have c1 : w1.cell? ⟨w.heap.size, 1, none⟩ = some (.int .u64 (N : Int)) := (hb1.cell (p := ⟨w.heap.size, 1, none⟩) (by simp)).trans q01.out.2
    clear hb1 q01 hD hD0 b0
    go_wp2_with (at_builtin; refine app_rows rfl (.tmp 36) (.tmp 37) rfl _ Xs w1.heap.size rfl rfl hD1 hl1 (Nat.le_refl _) ?_)
    intro v2 w2 ds hR hA hb2
    obtain ⟨g, cap, cur, hv2, hbg, -, hcap, hcm, -⟩ := hR.ex
    have hgl := (hR.lt g (by rw [hv2]; rfl)).2
    rw [hA.1, ← HN.out] at hv2 hcap
    subst hv2
    have c0' := (hb2.cell (p := ⟨w.heap.size, 0, none⟩) hs1).trans c0
    have c1' := (hb2.cell (p := ⟨w.heap.size, 1, none⟩) hs1).trans c1
    have b02 := b01.trans (hb2.mono b01.size)
    have hne : w.heap.size ≠ g := by omega
    have hs2 : w.heap.size < w2.heap.size := by omega
    have hl2 : ds.length = n := by rw [hA.1, HN.out]
    clear c0 c1 hb2 hD1 b01 d1 d2 d3
    obtain ⟨ys, x, y, rfl⟩ := split2 Xs (by rw [← HN.out]; omega)
    have hx : x < pN := hp x (by simp)
    have hy : y < pN := hp y (by simp)
    obtain ⟨m, hmy⟩ : ∃ m, m = ys.length := ⟨_, rfl⟩
    have hnm : n = m + 2 := by rw [HN.out, hmy]; simp
    have HM := hid hmy
    obtain ⟨p, hpm⟩ : ∃ p, p = m + 1 := ⟨_, rfl⟩
    obtain ⟨top, htop⟩ : ∃ d, d = ds.getD p undef := ⟨_, rfl⟩
    obtain ⟨low, hlow⟩ : ∃ d, d = ds.getD m undef := ⟨_, rfl⟩
    have ct := (hR.cell p (by omega)).1
    have cl := (hR.cell m (by omega)).1
    have hT := hA.2 p (by rw [hpm, hmy]; simp)
    have hL := hA.2 m (by rw [hmy]; simp)
    rw [← htop] at ct hT
    rw [← hlow] at cl hL
    rw [hpm, hmy, getD_top2] at hT
    rw [hmy, getD_low] at hL
    have x1 : (n : Int) - 1 = (p : Int) := by omega
    have x5 : (n : Int) - 2 = (m : Int) := by omega
    have x2 : (0 : Int) ≤ (m : Int) := by omega
    have x3 : (m : Int) < (n : Int) := by omega
    have x6 : (0 : Int) ≤ (p : Int) := by omega
    have x7 : (p : Int) < (n : Int) := by omega
    have x4 : (p : Int) ≤ (cap : Int) := by omega
    have HPM := hid hpm
    obtain ⟨A_t, c_t, l_t, e_t, -⟩ := hT.ex
    subst e_t
    obtain ⟨A_l, c_l, l_l, e_l, -⟩ := hL.ex
    subst e_l
    clear htop hlow hmy hp hpm hnm
    go_wp2_with fail
    refine (need2_c N _ hN).mono ?_
    rintro e w3 ⟨rfl, hb3⟩
    have hR3 := hR.below hb3
    have hA3 := hA.up hb3
    have hT3 := hT.up hb3
    have hL3 := hL.up hb3
    have c0'' := (hb3.cell (p := ⟨w.heap.size, 0, none⟩) hs2).trans c0'
    have cl3 := (hb3.cell (p := ⟨g, m, none⟩) hgl).trans cl
    have ct3 := (hb3.cell (p := ⟨g, p, none⟩) hgl).trans ct
    have b03 := b02.trans (hb3.mono b02.size)
    clear hR hA hT hL c0' c1' ct cl b02 hb3
    go_wp2_with fail
    refine (dSubP_c _ _ x y w3 hL3 hT3 (hid hx) (hid hy)).mono ?_
    rintro e w4 ⟨r, rfl, hr, hb4⟩
    obtain ⟨A_r, c_r, l_r, e_r, -⟩ := hr.ex
    subst e_r
    obtain ⟨P1, P2, P3⟩ := RowV.put (hR3.below hb4) (hA3.up hb4) m (by omega) hr
    have b04 := b03.trans (hb4.mono b03.size)
    have fz := ((hR3.below hb4).cell m (by omega)).2
    have HB := hid (b04.grown P3 b04.size (fun q hq => by injection hq with hq; omega))
    have HD := hid ((P1.cut p (by omega)).digs (P2.take p))
    rw [HPM.out, HM.out, set_low, take_low] at HD
    have HE := hid HD.out
    have cl4 := (hb4.cell (p := ⟨g, m, none⟩) (hR3.lt g rfl).2).trans cl3
    clear P1 P2 P3 b03 b04 hb4 hr hR3 hA3 hT3 hL3 cl3 ct3 HD c0''
    go_wp2
    go_ret2
    refine ⟨_, rfl, ?_, HB.out⟩
    rw [show act 2 N (ys ++ [x, y]) = ys ++ [(x + (pN - y)) % pN] from joinL_eq (fun x y => (x + (pN - y)) % pN) ys x y]
    have := HE.out
    rw [← HM.out, ← HPM.out] at this
    exact this

set_option maxRecDepth 20000 in
set_option maxHeartbeats 4000000 in
theorem do3_ok (v : Value) (N : Nat) (Xs : List Nat) (w : World) (hD : Digs w v Xs) (hp : ∀ x ∈ Xs, x < pN) (hl : Xs.length ≤ 64) (hN : N < 18446744073709551616) (h1 : 2 ≤ Xs.length) :
    Calls Tryd.prog 20 #[v, .agg #[.int .i64 3, .int .u64 (N : Int)]] w fun e w' => ∃ r, e = .returned (.tuple #[r, .int .i64 0]) ∧ Digs w' r (act 3 N Xs) ∧ Below w.heap.size w w' := by
  obtain ⟨A, c, hv, hc, hm, -⟩ := hD.ex
  have hl1 : Xs.length ≤ 1000 := by omega
  obtain ⟨n, hn⟩ : ∃ n, n = Xs.length := ⟨_, rfl⟩
  rw [← hn] at hv hc hl h1
  have HN := hid hn
  clear hn
  subst hv
  have b0 : Below w.heap.size w (w.alloc (.cells #[.int .i64 3, .int .u64 (N : Int)] 59)) := (Below.refl _ _).alloc (Nat.le_refl _) _
  have hD0 := hD.up b0
  have q01 := hid (box_cells w 3 N)
  have d1 : decide ((n : Int) < 2) = false := decide_eq_false (by omega)
  have h64 : (decide ((n : Int) = 64) = true ∧ ((n : Int) == 64) = true) ∨ (decide ((n : Int) = 64) = false ∧ ((n : Int) == 64) = false) := by
    by_cases h : n = 64
    · exact Or.inl ⟨decide_eq_true (by omega), by simp; omega⟩
    · exact Or.inr ⟨decide_eq_false (by omega), by simp; omega⟩
  rcases h64 with ⟨d2, d3⟩ | ⟨d2, d3⟩
  all_goals
    go_enter Tryd.func20, Tryd.ntmps20
    go_wp2_with fail
    refine (need3_c N _ hN).mono ?_
    rintro e w1 ⟨rfl, hb1⟩
    have hs1 : w.heap.size < w1.heap.size := by have := hb1.size; simp at this; omega
    have b01 := b0.trans (hb1.mono b0.size)
    have hD1 := hD0.up hb1
    have c0 : w1.cell? ⟨w.heap.size, 0, none⟩ = some (.int .i64 3) := (hb1.cell (p := ⟨w.heap.size, 0, none⟩) (by simp)).trans q01.out.1
    have c1 : w1.cell? ⟨w.heap.size, 1, none⟩ = some (.int .u64 (N : Int)) := (hb1.cell (p := ⟨w.heap.size, 1, none⟩) (by simp)).trans q01.out.2
    clear hb1 q01 hD hD0 b0
    go_wp2_with (at_builtin; refine app_rows rfl (.tmp 36) (.tmp 37) rfl _ Xs w1.heap.size rfl rfl hD1 hl1 (Nat.le_refl _) ?_)
    intro v2 w2 ds hR hA hb2
    obtain ⟨g, cap, cur, hv2, hbg, -, hcap, hcm, -⟩ := hR.ex
    have hgl := (hR.lt g (by rw [hv2]; rfl)).2
    rw [hA.1, ← HN.out] at hv2 hcap
    subst hv2
    have c0' := (hb2.cell (p := ⟨w.heap.size, 0, none⟩) hs1).trans c0
    have c1' := (hb2.cell (p := ⟨w.heap.size, 1, none⟩) hs1).trans c1
    have b02 := b01.trans (hb2.mono b01.size)
    have hne : w.heap.size ≠ g := by omega
    have hs2 : w.heap.size < w2.heap.size := by omega
    have hl2 : ds.length = n := by rw [hA.1, HN.out]
    clear c0 c1 hb2 hD1 b01 d1 d2 d3
    obtain ⟨ys, x, y, rfl⟩ := split2 Xs (by rw [← HN.out]; omega)
    have hx : x < pN := hp x (by simp)
    have hy : y < pN := hp y (by simp)
    obtain ⟨m, hmy⟩ : ∃ m, m = ys.length := ⟨_, rfl⟩
    have hnm : n = m + 2 := by rw [HN.out, hmy]; simp
    have HM := hid hmy
    obtain ⟨p, hpm⟩ : ∃ p, p = m + 1 := ⟨_, rfl⟩
    obtain ⟨top, htop⟩ : ∃ d, d = ds.getD p undef := ⟨_, rfl⟩
    obtain ⟨low, hlow⟩ : ∃ d, d = ds.getD m undef := ⟨_, rfl⟩
    have ct := (hR.cell p (by omega)).1
    have cl := (hR.cell m (by omega)).1
    have hT := hA.2 p (by rw [hpm, hmy]; simp)
    have hL := hA.2 m (by rw [hmy]; simp)
    rw [← htop] at ct hT
    rw [← hlow] at cl hL
    rw [hpm, hmy, getD_top2] at hT
    rw [hmy, getD_low] at hL
    have x1 : (n : Int) - 1 = (p : Int) := by omega
    have x5 : (n : Int) - 2 = (m : Int) := by omega
    have x2 : (0 : Int) ≤ (m : Int) := by omega
    have x3 : (m : Int) < (n : Int) := by omega
    have x6 : (0 : Int) ≤ (p : Int) := by omega
    have x7 : (p : Int) < (n : Int) := by omega
    have x4 : (p : Int) ≤ (cap : Int) := by omega
    have HPM := hid hpm
    obtain ⟨A_t, c_t, l_t, e_t, -⟩ := hT.ex
    subst e_t
    obtain ⟨A_l, c_l, l_l, e_l, -⟩ := hL.ex
    subst e_l
    clear htop hlow hmy hp hpm hnm
    go_wp2_with fail
    refine (need3_c N _ hN).mono ?_
    rintro e w3 ⟨rfl, hb3⟩
    have hR3 := hR.below hb3
    have hA3 := hA.up hb3
    have hT3 := hT.up hb3
    have hL3 := hL.up hb3
    have c0'' := (hb3.cell (p := ⟨w.heap.size, 0, none⟩) hs2).trans c0'
    have cl3 := (hb3.cell (p := ⟨g, m, none⟩) hgl).trans cl
    have ct3 := (hb3.cell (p := ⟨g, p, none⟩) hgl).trans ct
    have b03 := b02.trans (hb3.mono b02.size)
    clear hR hA hT hL c0' c1' ct cl b02 hb3
    go_wp2_with fail
    refine (ref2Mul_c _ _ x y w3 hL3 hT3 (hid hx) (hid hy)).mono ?_
    rintro e w4 ⟨r, rfl, hr, hb4⟩
    obtain ⟨A_r, c_r, l_r, e_r, -⟩ := hr.ex
    subst e_r
    obtain ⟨P1, P2, P3⟩ := RowV.put (hR3.below hb4) (hA3.up hb4) m (by omega) hr
    have b04 := b03.trans (hb4.mono b03.size)
    have fz := ((hR3.below hb4).cell m (by omega)).2
    have HB := hid (b04.grown P3 b04.size (fun q hq => by injection hq with hq; omega))
    have HD := hid ((P1.cut p (by omega)).digs (P2.take p))
    rw [HPM.out, HM.out, set_low, take_low] at HD
    have HE := hid HD.out
    have cl4 := (hb4.cell (p := ⟨g, m, none⟩) (hR3.lt g rfl).2).trans cl3
    clear P1 P2 P3 b03 b04 hb4 hr hR3 hA3 hT3 hL3 cl3 ct3 HD c0''
    go_wp2
    go_ret2
    refine ⟨_, rfl, ?_, HB.out⟩
    rw [show act 3 N (ys ++ [x, y]) = ys ++ [x * y % pN] from joinL_eq (fun x y => x * y % pN) ys x y]
    have := HE.out
    rw [← HM.out, ← HPM.out] at this
    exact this

set_option maxRecDepth 20000 in
set_option maxHeartbeats 4000000 in
theorem do8_ok (v : Value) (N : Nat) (Xs : List Nat) (w : World) (hD : Digs w v Xs) (hp : ∀ x ∈ Xs, x < pN) (hl : Xs.length ≤ 64) (hN : N < 18446744073709551616) (h1 : 2 ≤ Xs.length) :
    Calls Tryd.prog 20 #[v, .agg #[.int .i64 8, .int .u64 (N : Int)]] w fun e w' => ∃ r, e = .returned (.tuple #[r, .int .i64 0]) ∧ Digs w' r (act 8 N Xs) ∧ Below w.heap.size w w' := by
  obtain ⟨A, c, hv, hc, hm, -⟩ := hD.ex
  have hl1 : Xs.length ≤ 1000 := by omega
  obtain ⟨n, hn⟩ : ∃ n, n = Xs.length := ⟨_, rfl⟩
  rw [← hn] at hv hc hl h1
  have HN := hid hn
  clear hn
  subst hv
  have b0 : Below w.heap.size w (w.alloc (.cells #[.int .i64 8, .int .u64 (N : Int)] 59)) := (Below.refl _ _).alloc (Nat.le_refl _) _
  have hD0 := hD.up b0
  have q01 := hid (box_cells w 8 N)
  have d1 : decide ((n : Int) < 2) = false := decide_eq_false (by omega)
  have h64 : (decide ((n : Int) = 64) = true ∧ ((n : Int) == 64) = true) ∨ (decide ((n : Int) = 64) = false ∧ ((n : Int) == 64) = false) := by
    by_cases h : n = 64
    · exact Or.inl ⟨decide_eq_true (by omega), by simp; omega⟩
    · exact Or.inr ⟨decide_eq_false (by omega), by simp; omega⟩
  rcases h64 with ⟨d2, d3⟩ | ⟨d2, d3⟩
  all_goals
    go_enter Tryd.func20, Tryd.ntmps20
    go_wp2_with fail
    refine (need8_c N _ hN).mono ?_
    rintro e w1 ⟨rfl, hb1⟩
    have hs1 : w.heap.size < w1.heap.size := by have := hb1.size; simp at this; omega
    have b01 := b0.trans (hb1.mono b0.size)
    have hD1 := hD0.up hb1
    have c0 : w1.cell? ⟨w.heap.size, 0, none⟩ = some (.int .i64 8) := (hb1.cell (p := ⟨w.heap.size, 0, none⟩) (by simp)).trans q01.out.1
    have c1 : w1.cell? ⟨w.heap.size, 1, none⟩ = some (.int .u64 (N : Int)) := (hb1.cell (p := ⟨w.heap.size, 1, none⟩) (by simp)).trans q01.out.2
    clear hb1 q01 hD hD0 b0
    go_wp2_with (at_builtin; refine app_rows rfl (.tmp 36) (.tmp 37) rfl _ Xs w1.heap.size rfl rfl hD1 hl1 (Nat.le_refl _) ?_)
    intro v2 w2 ds hR hA hb2
    obtain ⟨g, cap, cur, hv2, hbg, -, hcap, hcm, -⟩ := hR.ex
    have hgl := (hR.lt g (by rw [hv2]; rfl)).2
    rw [hA.1, ← HN.out] at hv2 hcap
    subst hv2
    have c0' := (hb2.cell (p := ⟨w.heap.size, 0, none⟩) hs1).trans c0
    have c1' := (hb2.cell (p := ⟨w.heap.size, 1, none⟩) hs1).trans c1
    have b02 := b01.trans (hb2.mono b01.size)
    have hne : w.heap.size ≠ g := by omega
    have hs2 : w.heap.size < w2.heap.size := by omega
    have hl2 : ds.length = n := by rw [hA.1, HN.out]
    clear c0 c1 hb2 hD1 b01 d1 d2 d3
    obtain ⟨ys, x, y, rfl⟩ := split2 Xs (by rw [← HN.out]; omega)
    have hx : x < pN := hp x (by simp)
    have hy : y < pN := hp y (by simp)
    obtain ⟨m, hmy⟩ : ∃ m, m = ys.length := ⟨_, rfl⟩
    have hnm : n = m + 2 := by rw [HN.out, hmy]; simp
    have HM := hid hmy
    obtain ⟨p, hpm⟩ : ∃ p, p = m + 1 := ⟨_, rfl⟩
    obtain ⟨top, htop⟩ : ∃ d, d = ds.getD p undef := ⟨_, rfl⟩
    obtain ⟨low, hlow⟩ : ∃ d, d = ds.getD m undef := ⟨_, rfl⟩
    have ct := (hR.cell p (by omega)).1
    have cl := (hR.cell m (by omega)).1
    have hT := hA.2 p (by rw [hpm, hmy]; simp)
    have hL := hA.2 m (by rw [hmy]; simp)
    rw [← htop] at ct hT
    rw [← hlow] at cl hL
    rw [hpm, hmy, getD_top2] at hT
    rw [hmy, getD_low] at hL
    have x1 : (n : Int) - 1 = (p : Int) := by omega
    have x5 : (n : Int) - 2 = (m : Int) := by omega
    have x2 : (0 : Int) ≤ (m : Int) := by omega
    have x3 : (m : Int) < (n : Int) := by omega
    have x6 : (0 : Int) ≤ (p : Int) := by omega
    have x7 : (p : Int) < (n : Int) := by omega
    have x4 : (p : Int) ≤ (cap : Int) := by omega
    have HPM := hid hpm
    obtain ⟨A_t, c_t, l_t, e_t, -⟩ := hT.ex
    subst e_t
    obtain ⟨A_l, c_l, l_l, e_l, -⟩ := hL.ex
    subst e_l
    clear htop hlow hmy hp hpm hnm
    go_wp2_with fail
    refine (need8_c N _ hN).mono ?_
    rintro e w3 ⟨rfl, hb3⟩
    have hR3 := hR.below hb3
    have hA3 := hA.up hb3
    have hT3 := hT.up hb3
    have hL3 := hL.up hb3
    have c0'' := (hb3.cell (p := ⟨w.heap.size, 0, none⟩) hs2).trans c0'
    have cl3 := (hb3.cell (p := ⟨g, m, none⟩) hgl).trans cl
    have ct3 := (hb3.cell (p := ⟨g, p, none⟩) hgl).trans ct
    have b03 := b02.trans (hb3.mono b02.size)
    clear hR hA hT hL c0' c1' ct cl b02 hb3
    obtain ⟨P1, P2, P3⟩ := RowV.put hR3 hA3 m (by omega) hT3
    have hL4 := hL3.kept P3 (fun a n c e hn => hL3.off hR3 a n c e hn)
    obtain ⟨Q1, Q2, Q3⟩ := RowV.put P1 P2 p (by rw [List.length_set]; omega) hL4
    rw [HPM.out, HM.out, set_low, set_top2, ← HM.out, ← HPM.out] at Q2
    have fz := (hR3.cell m (by omega)).2
    have fz2 := (P1.cell p (by rw [List.length_set]; omega)).2
    have ct4 := (P1.cell p (by rw [List.length_set]; omega)).1
    have b04 := b03.grown P3 b03.size (fun q hq => by injection hq with hq; omega)
    have HB := hid (b04.grown Q3 b04.size (fun q hq => by injection hq with hq; omega))
    have HD := hid (Q1.digs Q2)
    clear P1 P2 P3 Q1 Q2 Q3 b03 b04 hR3 hA3 hT3 hL3 hL4
    go_wp2
    go_ret2
    refine ⟨_, rfl, ?_, HB.out⟩
    rw [show act 8 N (ys ++ [x, y]) = ys ++ [y, x] from swapL_eq ys x y]
    exact HD.out

set_option maxRecDepth 20000 in
set_option maxHeartbeats 4000000 in
theorem do10_ok (v : Value) (N : Nat) (Xs : List Nat) (w : World) (hD : Digs w v Xs) (hp : ∀ x ∈ Xs, x < pN) (hl : Xs.length ≤ 64) (hN : N < 18446744073709551616) (h1 : 2 ≤ Xs.length) :
    Calls Tryd.prog 20 #[v, .agg #[.int .i64 10, .int .u64 (N : Int)]] w fun e w' => ∃ r, e = .returned (.tuple #[r, .int .i64 0]) ∧ Digs w' r (act 10 N Xs) ∧ Below w.heap.size w w' := by
  obtain ⟨A, c, hv, hc, hm, -⟩ := hD.ex
  have hl1 : Xs.length ≤ 1000 := by omega
  obtain ⟨n, hn⟩ : ∃ n, n = Xs.length := ⟨_, rfl⟩
  rw [← hn] at hv hc hl h1
  have HN := hid hn
  clear hn
  subst hv
  have b0 : Below w.heap.size w (w.alloc (.cells #[.int .i64 10, .int .u64 (N : Int)] 59)) := (Below.refl _ _).alloc (Nat.le_refl _) _
  have hD0 := hD.up b0
  have q01 := hid (box_cells w 10 N)
  have d1 : decide ((n : Int) < 2) = false := decide_eq_false (by omega)
  have h64 : (decide ((n : Int) = 64) = true ∧ ((n : Int) == 64) = true) ∨ (decide ((n : Int) = 64) = false ∧ ((n : Int) == 64) = false) := by
    by_cases h : n = 64
    · exact Or.inl ⟨decide_eq_true (by omega), by simp; omega⟩
    · exact Or.inr ⟨decide_eq_false (by omega), by simp; omega⟩
  rcases h64 with ⟨d2, d3⟩ | ⟨d2, d3⟩
  all_goals
    go_enter Tryd.func20, Tryd.ntmps20
    go_wp2_with fail
    refine (need10_c N _ hN).mono ?_
    rintro e w1 ⟨rfl, hb1⟩
    have hs1 : w.heap.size < w1.heap.size := by have := hb1.size; simp at this; omega
    have b01 := b0.trans (hb1.mono b0.size)
    have hD1 := hD0.up hb1
    have c0 : w1.cell? ⟨w.heap.size, 0, none⟩ = some (.int .i64 10) := (hb1.cell (p := ⟨w.heap.size, 0, none⟩) (by simp)).trans q01.out.1
    have c1 : w1.cell? ⟨w.heap.size, 1, none⟩ = some (.int .u64 (N : Int)) := (hb1.cell (p := ⟨w.heap.size, 1, none⟩) (by simp)).trans q01.out.2
    clear hb1 q01 hD hD0 b0
    go_wp2_with (at_builtin; refine app_rows rfl (.tmp 36) (.tmp 37) rfl _ Xs w1.heap.size rfl rfl hD1 hl1 (Nat.le_refl _) ?_)
    intro v2 w2 ds hR hA hb2
    obtain ⟨g, cap, cur, hv2, hbg, -, hcap, hcm, -⟩ := hR.ex
    have hgl := (hR.lt g (by rw [hv2]; rfl)).2
    rw [hA.1, ← HN.out] at hv2 hcap
    subst hv2
    have c0' := (hb2.cell (p := ⟨w.heap.size, 0, none⟩) hs1).trans c0
    have c1' := (hb2.cell (p := ⟨w.heap.size, 1, none⟩) hs1).trans c1
    have b02 := b01.trans (hb2.mono b01.size)
    have hne : w.heap.size ≠ g := by omega
    have hs2 : w.heap.size < w2.heap.size := by omega
    have hl2 : ds.length = n := by rw [hA.1, HN.out]
    clear c0 c1 hb2 hD1 b01 d1 d2 d3
    obtain ⟨ys, x, y, rfl⟩ := split2 Xs (by rw [← HN.out]; omega)
    have hx : x < pN := hp x (by simp)
    have hy : y < pN := hp y (by simp)
    obtain ⟨m, hmy⟩ : ∃ m, m = ys.length := ⟨_, rfl⟩
    have hnm : n = m + 2 := by rw [HN.out, hmy]; simp
    have HM := hid hmy
    obtain ⟨p, hpm⟩ : ∃ p, p = m + 1 := ⟨_, rfl⟩
    obtain ⟨top, htop⟩ : ∃ d, d = ds.getD p undef := ⟨_, rfl⟩
    obtain ⟨low, hlow⟩ : ∃ d, d = ds.getD m undef := ⟨_, rfl⟩
    have ct := (hR.cell p (by omega)).1
    have cl := (hR.cell m (by omega)).1
    have hT := hA.2 p (by rw [hpm, hmy]; simp)
    have hL := hA.2 m (by rw [hmy]; simp)
    rw [← htop] at ct hT
    rw [← hlow] at cl hL
    rw [hpm, hmy, getD_top2] at hT
    rw [hmy, getD_low] at hL
    have x1 : (n : Int) - 1 = (p : Int) := by omega
    have x5 : (n : Int) - 2 = (m : Int) := by omega
    have x2 : (0 : Int) ≤ (m : Int) := by omega
    have x3 : (m : Int) < (n : Int) := by omega
    have x6 : (0 : Int) ≤ (p : Int) := by omega
    have x7 : (p : Int) < (n : Int) := by omega
    have x4 : (p : Int) ≤ (cap : Int) := by omega
    have HPM := hid hpm
    obtain ⟨A_t, c_t, l_t, e_t, -⟩ := hT.ex
    subst e_t
    obtain ⟨A_l, c_l, l_l, e_l, -⟩ := hL.ex
    subst e_l
    clear htop hlow hmy hp hpm hnm
    go_wp2_with fail
    refine (need10_c N _ hN).mono ?_
    rintro e w3 ⟨rfl, hb3⟩
    have hR3 := hR.below hb3
    have hA3 := hA.up hb3
    have hT3 := hT.up hb3
    have hL3 := hL.up hb3
    have c0'' := (hb3.cell (p := ⟨w.heap.size, 0, none⟩) hs2).trans c0'
    have cl3 := (hb3.cell (p := ⟨g, m, none⟩) hgl).trans cl
    have ct3 := (hb3.cell (p := ⟨g, p, none⟩) hgl).trans ct
    have b03 := b02.trans (hb3.mono b02.size)
    clear hR hA hT hL c0' c1' ct cl b02 hb3
    go_wp2_with fail
    refine (dSame_c _ _ x y w3 hL3 hT3).mono ?_
    rintro e w4 ⟨rfl, rfl⟩
    obtain ⟨P1, P2, P3⟩ := RowV.put hR3 hA3 m (by omega) (Dg.nil w3)
    have fz := (hR3.cell m (by omega)).2
    have b04 := b03.grown P3 b03.size (fun q hq => by injection hq with hq; omega)
    by_cases hxy : x = y
    · rw [decide_eq_true hxy]
      obtain ⟨w5, hw5⟩ : ∃ x, x = w3.setCell ⟨g, m, none⟩ (.slice none 0 0) := ⟨_, rfl⟩
      have hsz : w3.heap.size = w5.heap.size := by rw [hw5]; simp
      rw [← hw5] at P1 P2 P3 b04
      have b5 : Below w5.heap.size w5 (w5.alloc (.cells #[.int .u64 1] 37)) := (Below.refl _ _).alloc (Nat.le_refl _) _
      obtain ⟨Q1, Q2, Q3⟩ := RowV.put (P1.below b5) (P2.up b5) m (by rw [List.length_set]; omega) (dOne w5 1 (by decide) (by decide))
      have fz5 := (P1.cell m (by rw [List.length_set]; omega)).2
      have fz6 := ((P1.below b5).cell m (by rw [List.length_set]; omega)).2
      have cz := ((P1.below b5).cell m (by rw [List.length_set]; omega)).1
      have HSZ := hid hsz
      have b05 := b04.trans (b5.mono b04.size)
      have HB := hid (b05.grown Q3 b05.size (fun q hq => by injection hq with hq; omega))
      have HD := hid ((Q1.cut p (by omega)).digs (Q2.take p))
      rw [HPM.out, HM.out, set_low, set_low, take_low] at HD
      have HE := hid HD.out
      have HW := hid hw5
      rw [hw5] at fz5 fz6 cz
      clear hsz P1 P2 P3 Q1 Q2 Q3 b03 b04 b05 b5 hR3 hA3 hT3 hL3 HD hw5
      go_wp2
      go_ret2
      refine ⟨_, rfl, ?_, ?_⟩
      · rw [show act 10 N (ys ++ [x, y]) = ys ++ [samF x y] from joinL_eq samF ys x y, show samF x y = 1 by unfold samF; rw [if_pos hxy]]
        have := HE.out
        rw [← HM.out, ← HPM.out, ← HSZ.out, HW.out] at this
        exact this
      · have := HB.out
        rw [← HSZ.out, HW.out] at this
        exact this
    · rw [decide_eq_false hxy]
      have HB := hid b04
      have HD := hid ((P1.cut p (by omega)).digs (P2.take p))
      rw [HPM.out, HM.out, set_low, take_low] at HD
      have HE := hid HD.out
      clear P1 P2 P3 b03 b04 hR3 hA3 hT3 hL3 HD
      go_wp2
      go_ret2
      refine ⟨_, rfl, ?_, HB.out⟩
      rw [show act 10 N (ys ++ [x, y]) = ys ++ [samF x y] from joinL_eq samF ys x y, show samF x y = 0 by unfold samF; rw [if_neg hxy]]
      have := HE.out
      rw [← HM.out, ← HPM.out] at this
      exact this
end Go.Proofs.YtjohbepdmnigcaaDoor
