/-
  avouchlaw04.speaks: the document's example holds.
-/
import Derived.Test.YtfonpmahcdmajaaDoorNumP
namespace Go.Proofs.YtfonpmahcdmajaaDoor
open Go.RowKit
set_option linter.unusedVariables false

/-- A number of one word, as the program builds it. -/
theorem num_one (n : Nat) (h : n < 18446744073709551616) : num n = .agg #[.int .u64 (n : Int), .int .u64 0, .int .u64 0, .int .u64 0, .int .u64 0, .int .u64 0, .int .u64 0, .int .u64 0, .int .u64 0, .int .u64 0, .int .u64 0, .int .u64 0] := by
  have hd : ds n = n :: List.replicate 11 0 := by
    have hv : val 18446744073709551616 (n :: List.replicate 11 0) = n := by
      unfold val
      simp [pv]
    have h' := ds_of (l := n :: List.replicate 11 0) (by simp) (by
      intro x hx
      rcases List.mem_cons.1 hx with h' | h'
      · omega
      · have := List.eq_of_mem_replicate h'; omega)
    rw [hv] at h'
    exact h'
  unfold num
  rw [hd]
  rfl

theorem num_0 : num 0 = .agg #[.int .u64 0, .int .u64 0, .int .u64 0, .int .u64 0, .int .u64 0, .int .u64 0, .int .u64 0, .int .u64 0, .int .u64 0, .int .u64 0, .int .u64 0, .int .u64 0] := num_one 0 (by decide)
theorem num_1 : num 1 = .agg #[.int .u64 1, .int .u64 0, .int .u64 0, .int .u64 0, .int .u64 0, .int .u64 0, .int .u64 0, .int .u64 0, .int .u64 0, .int .u64 0, .int .u64 0, .int .u64 0] := num_one 1 (by decide)
theorem num_2 : num 2 = .agg #[.int .u64 2, .int .u64 0, .int .u64 0, .int .u64 0, .int .u64 0, .int .u64 0, .int .u64 0, .int .u64 0, .int .u64 0, .int .u64 0, .int .u64 0, .int .u64 0] := num_one 2 (by decide)
theorem num_3 : num 3 = .agg #[.int .u64 3, .int .u64 0, .int .u64 0, .int .u64 0, .int .u64 0, .int .u64 0, .int .u64 0, .int .u64 0, .int .u64 0, .int .u64 0, .int .u64 0, .int .u64 0] := num_one 3 (by decide)
theorem num_5 : num 5 = .agg #[.int .u64 5, .int .u64 0, .int .u64 0, .int .u64 0, .int .u64 0, .int .u64 0, .int .u64 0, .int .u64 0, .int .u64 0, .int .u64 0, .int .u64 0, .int .u64 0] := num_one 5 (by decide)
def hbits : Nat := 768
theorem two_q : 2 ^ bigQ % bigP = 1 := by
  have h : bigQ < 2 ^ hbits := by decide +kernel
  rw [← pm_eq bigP hbits 2 bigQ h]
  decide +kernel

theorem all_range_n : ∀ (xs ys : List Nat), xs.length = ys.length → ((List.range xs.length).all fun i => xs.getD i 0 == ys.getD i 0) = decide (xs = ys)
  | [], [], _ => rfl
  | x :: xs, y :: ys, h => by
    have ih := all_range_n xs ys (by simpa using h)
    rw [List.length_cons, List.range_succ_eq_map, List.all_cons, List.all_map]
    simp only [List.getD_cons_zero, Function.comp_def, List.getD_cons_succ, ih]
    rw [Bool.eq_iff_iff]
    simp
  | [], _ :: _, h => by simp at h
  | _ :: _, [], h => by simp at h
theorem run_equalIn_words {P : Program} (w : World) (d : Nat) (t e : TypeId) (n : Nat) (ht : P.underlying t = some (.array n e)) (he : P.underlying e = some (.int .u64)) (hsz : ∀ w, (sizeOf e).run P w = .ok 1 w)
    (xs ys : List Nat) (hx : xs.length = n) (hy : ys.length = n) :
    (Op.equalIn (d + 2) t (.agg (cellsOf64 xs).toArray) (.agg (cellsOf64 ys).toArray)).run P w = .ok (decide (xs = ys)) w := by
  rw [← all_range_n xs ys (hx.trans hy.symm), hx, List.range_eq_range', Op.equalIn]
  simp only [Sem.run_bind, run_underlying ht, Result.andThen_ok, hsz, Std.Legacy.Range.forIn_eq_forIn_range', Std.Legacy.Range.size, Nat.sub_zero, Nat.add_sub_cancel, Nat.div_one]
  have hl : ∀ i ∈ List.range' 0 n 1, i < n := fun i hi => by simpa using (List.mem_range'_1.1 hi).2
  generalize List.range' 0 n 1 = l at hl ⊢
  induction l with
  | nil => simp
  | cons i l ih =>
    have hi : i < n := hl i (by simp)
    have px : (part e (cellsOf64 xs).toArray (i * 1)).run P w = .ok (.int .u64 ((xs.getD i 0 : Nat) : Int)) w := by
      simp [part, isAgg, cellsOf64, run_underlying he, List.getD, List.getElem?_eq_getElem (show i < xs.length by omega)]
    have py : (part e (cellsOf64 ys).toArray (i * 1)).run P w = .ok (.int .u64 ((ys.getD i 0 : Nat) : Int)) w := by
      simp [part, isAgg, cellsOf64, run_underlying he, List.getD, List.getElem?_eq_getElem (show i < ys.length by omega)]
    have pe : (Op.equalIn (d + 1) e (.int .u64 ((xs.getD i 0 : Nat) : Int)) (.int .u64 ((ys.getD i 0 : Nat) : Int))).run P w = .ok (xs.getD i 0 == ys.getD i 0) w := by
      rw [run_equalIn_int w d e .u64 .u64 _ _ he]
      congr 1
      rw [Bool.eq_iff_iff]
      simp only [beq_iff_eq]
      omega
    simp only [List.forIn_cons, Sem.run_bind, px, py, pe, Result.andThen_ok, List.all_cons]
    cases hb : (xs.getD i 0 == ys.getD i 0)
    · simp
    · simp only [Bool.not_true, Bool.false_eq_true, if_false, Sem.run_pure, Result.andThen_ok, Bool.true_and]
      exact ih fun j hj => hl j (by simp [hj])
theorem sz64 (w : World) : (sizeOf 22).run Tryd.prog w = .ok 1 w := by kernel_rfl
/-- Numbers are compared. -/
theorem num_eq (w : World) (A B : Nat) (hA : A < W12) (hB : B < W12) : (Op.equalIn 10000 24 (num A) (num B)).run Tryd.prog w = .ok (decide (A = B)) w := by
  have h := run_equalIn_words (P := Tryd.prog) w 9998 24 22 12 Tryd.underlying24 Tryd.underlying22 sz64 (ds A) (ds B) (ds_len A) (ds_len B)
  have e : decide (ds A = ds B) = decide (A = B) := by
    rw [Bool.eq_iff_iff, decide_eq_true_iff, decide_eq_true_iff]
    refine ⟨fun h => ?_, fun h => by rw [h]⟩
    rw [← ds_val A hA, ← ds_val B hB, h]
  rw [e] at h
  exact h
theorem num_same (w : World) (A : Nat) : (Op.equalIn 10000 24 (.agg (cellsOf64 (ds A)).toArray) (.agg (cellsOf64 (ds A)).toArray)).run Tryd.prog w = .ok true w := by
  have h := run_equalIn_words (P := Tryd.prog) w 9998 24 22 12 Tryd.underlying24 Tryd.underlying22 sz64 (ds A) (ds A) (ds_len A) (ds_len A)
  rw [decide_eq_true rfl] at h
  exact h

set_option maxRecDepth 20000 in
set_option maxHeartbeats 4000000 in
theorem speaks4_c (w : World) (hG : GlobW w) : Calls Tryd.prog 9 #[] w fun e w' => e = .returned (.bool true) ∧ Below w.heap.size w w' := by
  go_enter Tryd.func9, Tryd.ntmps9
  go_wp2_with fail
  refine (group_c w hG).mono ?_
  rintro e w1 ⟨g, rfl, hg, b1⟩
  go_wp2_with fail
  refine (exponents_c w1 (hG.up b1)).mono ?_
  rintro e w2 ⟨x, rfl, hx, b2⟩
  have b12 := bchain b1 b2
  have hg := hg.up b2
  go_wp2_with fail
  refine (size_c x bigQ w2 hx bigQ_lt).mono ?_
  rintro e w3 ⟨rfl, b3⟩
  have b13 := bchain b12 b3
  have hg := hg.up b3
  go_wp2_with fail
  have hE := rExp_c g 2 bigQ bigP w3 hg (by decide) bigQ_lt bigP_lt (by decide)
  rw [num_2, two_q, num_1] at hE
  refine hE.mono ?_
  rintro e w4 ⟨rfl, b4⟩
  have b14 := bchain b13 b4
  have hg := hg.up b4
  clear hE
  have q1 : ∀ w : World, (Op.equalIn 10000 24 (.agg #[.int .u64 1, .int .u64 0, .int .u64 0, .int .u64 0, .int .u64 0, .int .u64 0, .int .u64 0, .int .u64 0, .int .u64 0, .int .u64 0, .int .u64 0, .int .u64 0]) (.agg #[.int .u64 1, .int .u64 0, .int .u64 0, .int .u64 0, .int .u64 0, .int .u64 0, .int .u64 0, .int .u64 0, .int .u64 0, .int .u64 0, .int .u64 0, .int .u64 0])).run Tryd.prog w = .ok true w := by
    intro w
    have h := num_eq w 1 1 (by decide) (by decide)
    rw [num_1] at h
    exact h
  have q5 : ∀ w : World, (Op.equalIn 10000 24 (.agg #[.int .u64 5, .int .u64 0, .int .u64 0, .int .u64 0, .int .u64 0, .int .u64 0, .int .u64 0, .int .u64 0, .int .u64 0, .int .u64 0, .int .u64 0, .int .u64 0]) (.agg #[.int .u64 5, .int .u64 0, .int .u64 0, .int .u64 0, .int .u64 0, .int .u64 0, .int .u64 0, .int .u64 0, .int .u64 0, .int .u64 0, .int .u64 0, .int .u64 0])).run Tryd.prog w = .ok true w := by
    intro w
    have h := num_eq w 5 5 (by decide) (by decide)
    rw [num_5] at h
    exact h
  go_wp2_with fail
  have hA := rAdd_c g 2 3 bigP w4 hg (by decide) (by decide) bigP_lt (by decide)
  rw [show (2 + 3) % bigP = 5 by decide, num_2, num_3, num_5] at hA
  refine hA.mono ?_
  rintro e w5 ⟨rfl, b5⟩
  have b15 := bchain b14 b5
  clear hA
  go_wp2
  go_ret
  exact ⟨rfl, b15⟩
end Go.Proofs.YtfonpmahcdmajaaDoor
