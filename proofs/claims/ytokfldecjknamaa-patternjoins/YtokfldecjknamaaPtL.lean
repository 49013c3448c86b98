/-
  avouchlaw13.speaks: what the call does; the lengths of what is read.
-/
import Derived.Test.YtokfldecjknamaaPtI
import Derived.Test.YtokfldecjknamaaPtJ
import Derived.Test.YtokfldecjknamaaPtK
namespace Go.Proofs.Ytokfldecjknamaa
open Go.RowKit
set_option linter.unusedVariables false
set_option linter.unusedSimpArgs false

def ex13 : List Nat := [3, 0, 1, 0, 0, 0, 0, 0]
theorem ex13_lt : allLt8 ex13 := by unfold allLt8 ex13; decide
theorem pEnd_nil : PEnd [] 0 := ⟨fun i hi => absurd hi (by omega), fun h => h.1 rfl⟩
theorem ex13_dec : decE ex13 = 0 ∧ dR ex13 = [] := by decide
theorem pEnd_one : PEnd ex13 1 := by
  refine ⟨fun i hi => ?_, fun h => h.1 (show dR ex13 = [] from ex13_dec.2)⟩
  obtain rfl : i = 0 := by omega
  exact ⟨(fun e => by cases e), by decide, ex13_dec.1⟩
theorem parse_nil (w : World) : Calls Try.prog 16 #[.slice none 0 0] w fun e w' => ∃ A2 c2, e = .returned (.tuple #[.slice A2 0 c2, .int .i64 (-1), .int .i64 0]) ∧ Below w.heap.size w w' := by
  refine (parse_c none 0 0 [] w (Rd8.nil w w.heap.size none) (Nat.le_refl _) (Nat.le_refl _) (by decide)).mono ?_
  rintro e w' ⟨j, A2, m, c2, hj, rfl, r, hc, b⟩
  obtain rfl := hj.uniq pEnd_nil
  have hm := r.len
  obtain ⟨p1, p2, p3⟩ := pE_eq (b := []) (j := 0) rfl
  rw [p3] at hm
  obtain rfl : m = 0 := hm.symm
  exact ⟨A2, c2, by rw [p1, p2]; rfl, b⟩
theorem parse_one {B : Nat} (A : Option Addr) (c : Nat) (w : World) (h : Rd8 w B A 8 ex13) (hB : B ≤ w.heap.size) (hc : 8 ≤ c) : Calls Try.prog 16 #[.slice A 8 c] w fun e w' => ∃ A2 c2, e = .returned (.tuple #[.slice A2 1 c2, .int .i64 (-1), .int .i64 0]) ∧ Below w.heap.size w w' := by
  refine (parse_c A 8 c ex13 w h hB hc (by decide)).mono ?_
  rintro e w' ⟨j, A2, m, c2, hj, rfl, r, hc, b⟩
  obtain rfl := hj.uniq pEnd_one
  have hm := r.len
  obtain ⟨p1, p2, p3⟩ := pE_eq (b := ex13) (j := 1) (show dR ex13 = [] from ex13_dec.2)
  rw [p3, xsN_len] at hm
  obtain rfl : m = 1 := hm.symm
  exact ⟨A2, c2, by rw [p1, p2]; rfl, b⟩
set_option maxRecDepth 100000 in
set_option maxHeartbeats 1000000 in
theorem speaks13_c (w : World) : Calls Try.prog 8 #[] w fun e w' => e = .returned (.bool true) ∧ Below w.heap.size w w' := by
  go_enter Try.func8, Try.ntmps8
  go_wp2_with fail
  refine (parse_nil _).mono ?_
  rintro e w1 ⟨A1, c1, rfl, b1⟩
  have b2 : Below w.heap.size w (w1.alloc (.cells #[.int .u8 3, .int .u8 0, .int .u8 1, .int .u8 0, .int .u8 0, .int .u8 0, .int .u8 0, .int .u8 0] 5)) := b1.alloc b1.size _
  have B2 := BlkV.new w1 5 (cells8 ex13)
  have r2 : Rd8 (w1.alloc (.cells #[.int .u8 3, .int .u8 0, .int .u8 1, .int .u8 0, .int .u8 0, .int .u8 0, .int .u8 0, .int .u8 0] 5)) (w1.heap.size + 1) (some ⟨w1.heap.size, 0, none⟩) 8 ex13 := rd8_range12 B2 ex13_lt
  have C := parse_one _ 8 _ r2 (by simp) (Nat.le_refl _)
  clear B2 r2
  go_wp2_with fail
  generalize w1.alloc (.cells #[.int .u8 3, .int .u8 0, .int .u8 1, .int .u8 0, .int .u8 0, .int .u8 0, .int .u8 0, .int .u8 0] 5) = w2 at *
  refine C.mono ?_
  rintro e w3 ⟨A3, c3, rfl, b3⟩
  have b4 := b2.trans (b3.mono b2.size)
  clear C b1 b2 b3
  go_wp2
  go_ret
  exact ⟨rfl, b4⟩
end Go.Proofs.Ytokfldecjknamaa
