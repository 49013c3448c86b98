/-
  avouchref08.in, New: what each call does.
-/
import Derived.Test.YtpjjobophplleaaHrB
import Derived.Test.YtpjjobophplleaaHrC
import Derived.Test.YtpjjobophplleaaGnG
namespace Go.Proofs.Ytpjjobophplleaa
open Go.RowKit
set_option linter.unusedVariables false

set_option maxRecDepth 20000 in
theorem in12_c (n : Int) (w : World) :
    Calls Try.prog 14 #[.int .i64 n, .int .i64 1, .int .i64 4095] w fun e w' => e = .returned (.bool (decide (1 ≤ n ∧ n < 4096))) ∧ w' = w := by
  by_cases h1 : 1 ≤ n
  · by_cases h2 : n ≤ 4095
    · have e : decide (1 ≤ n ∧ n < 4096) = true := decide_eq_true ⟨h1, by omega⟩
      rw [e]
      clear e
      go_enter Try.func14, Try.ntmps14
      go_wp2
      go_ret
      exact ⟨rfl, rfl⟩
    · have e : decide (1 ≤ n ∧ n < 4096) = false := decide_eq_false (by omega)
      rw [e]
      have h3 : decide (n ≤ 4095) = false := decide_eq_false h2
      clear e h2
      go_enter Try.func14, Try.ntmps14
      go_wp2
      go_ret
      exact ⟨rfl, rfl⟩
  · have e : decide (1 ≤ n ∧ n < 4096) = false := decide_eq_false (by omega)
    rw [e]
    have h3 : decide (1 ≤ n) = false := decide_eq_false h1
    clear e h1
    go_enter Try.func14, Try.ntmps14
    go_wp2
    go_ret
    exact ⟨rfl, rfl⟩
set_option maxRecDepth 20000 in
theorem in10_c (n : Int) (w : World) :
    Calls Try.prog 14 #[.int .i64 n, .int .i64 0, .int .i64 1023] w fun e w' => e = .returned (.bool (decide (0 ≤ n ∧ n < 1024))) ∧ w' = w := by
  by_cases h1 : 0 ≤ n
  · by_cases h2 : n ≤ 1023
    · have e : decide (0 ≤ n ∧ n < 1024) = true := decide_eq_true ⟨h1, by omega⟩
      rw [e]
      clear e
      go_enter Try.func14, Try.ntmps14
      go_wp2
      go_ret
      exact ⟨rfl, rfl⟩
    · have e : decide (0 ≤ n ∧ n < 1024) = false := decide_eq_false (by omega)
      rw [e]
      have h3 : decide (n ≤ 1023) = false := decide_eq_false h2
      clear e h2
      go_enter Try.func14, Try.ntmps14
      go_wp2
      go_ret
      exact ⟨rfl, rfl⟩
  · have e : decide (0 ≤ n ∧ n < 1024) = false := decide_eq_false (by omega)
    rw [e]
    have h3 : decide (0 ≤ n) = false := decide_eq_false h1
    clear e h1
    go_enter Try.func14, Try.ntmps14
    go_wp2
    go_ret
    exact ⟨rfl, rfl⟩
/-- The bits of a list, the first k of them laid. -/
def fcp (L : List Bool) (k : Nat) : Nat → Bool := fun j => if j < k then L.getD j false else false
theorem fcp_set (L : List Bool) (k j : Nat) : (if j = k then L.getD k false else fcp L k j) = fcp L (k + 1) j := by
  unfold fcp
  by_cases c : j = k
  · rw [if_pos c, if_pos (by omega), c]
  · rw [if_neg c]
    by_cases d : j < k
    · rw [if_pos d, if_pos (by omega)]
    · rw [if_neg d, if_neg (by omega)]
theorem fcp_end (a b c d : Nat) {j : Nat} (hj : j < 80) : fcp (gL a b c d) 80 j = (gS0 a b c d).testBit j := by
  unfold fcp
  rw [if_pos hj, gS0_bit]
structure CpR (q : Nat) (f : Nat → Bool) (w wr : World) : Prop where
  o : BF wr q 30 80 f
  b : Below q w wr
theorem CpR.set {q : Nat} {f g : Nat → Bool} {w wr : World} (h : CpR q f w wr) {k : Nat} (hk : k < 80) (v : Bool) (e : ∀ j, (if j = k then v else f j) = g j) : CpR q g w (wr.setCell ⟨q, k, none⟩ (.bool v)) :=
  ⟨(h.o.setf hk v).eq fun j _ => e j, h.b.setCell (Nat.le_refl _) _⟩
theorem CpR.turn {q : Nat} {f : Nat → Bool} {w wr w' : World} (h : CpR q f w wr) (hb : Below wr.heap.size wr w') (hq : q ≤ wr.heap.size) (x : Nat) : CpR q x.testBit w (w'.setCells q 0 (bcell 80 x.testBit)) :=
  ⟨BF.over x.testBit (BlkV.up h.o hb), below_cells (Nat.le_refl _) _ _ _ (h.b.trans (hb.mono hq))⟩
end Go.Proofs.Ytpjjobophplleaa
