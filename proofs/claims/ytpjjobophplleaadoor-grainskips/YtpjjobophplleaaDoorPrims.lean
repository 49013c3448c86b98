/-
  The walks' closed facts: make of words, the model's own entries for bits.Add64 and bits.Sub64.
-/
import Derived.Test.YtpjjobophplleaaDoorRows
import Derived.Test.YtpjjobophplleaaDoorMem
import Derived.Test.YtpjjobophplleaaDoorNum
import Derived.Shelf.Spec.BitsCarry
import Derived.Deep.OwnRows
import Derived.Lib.MinMax
namespace Go.Proofs.YtpjjobophplleaaDoor
open Go.RowKit

theorem add64 (x y c : Int) (hx : 0 ≤ x) (hy : 0 ≤ y) (hc0 : 0 ≤ c) (hc : c ≤ 1) (w : World) : (callFunc 44 #[.int .u64 x, .int .u64 y, .int .u64 c]).run Tryd.prog w =
    .ok (.value (.tuple #[.int .u64 ((x + y + c) % 18446744073709551616), .int .u64 ((x + y + c) / 18446744073709551616)])) w := by
  rw [run_callFunc_extern Tryd.func44 (by kernel_rfl) (by kernel_rfl) (by kernel_rfl) (e := add64Entry) (by kernel_rfl), run_add64 x y c hx hy hc0 hc]
  rfl
theorem add64_0 (x y : Int) (hx : 0 ≤ x) (hy : 0 ≤ y) (w : World) : (callFunc 44 #[.int .u64 x, .int .u64 y, .int .u64 0]).run Tryd.prog w =
    .ok (.value (.tuple #[.int .u64 ((x + y) % 18446744073709551616), .int .u64 ((x + y) / 18446744073709551616)])) w := by
  simpa using add64 x y 0 hx hy (Int.le_refl 0) (by decide) w
/-- The borrow, under a name. -/
def bor (x y : Int) : Int := if x < y then 1 else 0
theorem bor_nonneg (x y : Int) : 0 ≤ bor x y := by unfold bor; split <;> decide
theorem bor_le (x y : Int) : bor x y ≤ 1 := by unfold bor; split <;> decide
theorem sub64 (x y b : Int) (hx : 0 ≤ x) (hy : 0 ≤ y) (hy' : y < 18446744073709551616) (hb0 : 0 ≤ b) (hb : b ≤ 1) (w : World) : (callFunc 47 #[.int .u64 x, .int .u64 y, .int .u64 b]).run Tryd.prog w =
    .ok (.value (.tuple #[.int .u64 ((x - y - b) % 18446744073709551616), .int .u64 (bor x (y + b))])) w := by
  obtain ⟨x, rfl⟩ := Int.eq_ofNat_of_zero_le hx
  obtain ⟨y, rfl⟩ := Int.eq_ofNat_of_zero_le hy
  obtain ⟨b, rfl⟩ := Int.eq_ofNat_of_zero_le hb0
  have e1 : (((x + 18446744073709551616 - y - b) % 18446744073709551616 : Nat) : Int) = ((x : Int) - y - b) % 18446744073709551616 := by omega
  have e2 : ((if x < y + b then 1 else 0 : Nat) : Int) = bor x (y + b) := by unfold bor; split <;> split <;> omega
  rw [← e1, ← e2]
  rw [run_callFunc_extern Tryd.func47 (by kernel_rfl) (by kernel_rfl) (by kernel_rfl) (e := sub64Entry) (by kernel_rfl), run_sub64 x y b (by omega)]
  rfl
theorem sub64_0 (x y : Int) (hx : 0 ≤ x) (hy : 0 ≤ y) (hy' : y < 18446744073709551616) (w : World) : (callFunc 47 #[.int .u64 x, .int .u64 y, .int .u64 0]).run Tryd.prog w =
    .ok (.value (.tuple #[.int .u64 ((x - y) % 18446744073709551616), .int .u64 (bor x y)])) w := by
  simpa using sub64 x y 0 hx hy hy' (Int.le_refl 0) (by decide) w

theorem u64_info : (Tryd.prog.info? 36).map (fun i => (i.zero, i.size, i.bytes)) = some (some (.int .u64 0), 1, 8) := by kernel_rfl
/-- n words that are 0. -/
def zeros (n : Nat) : Array Value := madeCells (Value.int .u64 0).cells (n * 1)
theorem zeros_eq (n : Nat) : zeros n = ((List.replicate n 0).map fun (x : Nat) => Value.int .u64 (x : Int)).toArray := by
  unfold zeros madeCells
  apply Array.ext
  · simp
  · intro i h1 h2
    simp [Value.cells, Nat.mod_one]
theorem make64 (n c : Nat) (hn : n ≤ c) (hc : c ≤ 1000000) (w : World) : (Instr.makeSlice 32 (.int .i64 (n : Int)) (.int .i64 (c : Int))).run Tryd.prog w =
    .ok (.slice (some ⟨w.heap.size, 0, none⟩) n c) (w.alloc (.cells (zeros c) 36)) := by
  obtain ⟨i, hi, hz, hs, hb⟩ := info_parts u64_info
  have hr := run_make (P := Tryd.prog) w 32 36 i _ Tryd.underlying32 hi hz .i64 .i64 n c (by omega) (by omega) (by rw [hb]; omega) (by omega)
  simp only [Int.toNat_natCast, hs] at hr
  exact hr
theorem make64I (n c : Nat) (hn : n ≤ c) (hc : c ≤ 1000000) (N C : Int) (e1 : N = (n : Int)) (e2 : C = (c : Int)) (w : World) : (Instr.makeSlice 32 (.int .i64 N) (.int .i64 C)).run Tryd.prog w =
    .ok (.slice (some ⟨w.heap.size, 0, none⟩) n c) (w.alloc (.cells (zeros c) 36)) := by subst e1 e2; exact make64 n c hn hc w
theorem blk_zeros (w : World) (n : Nat) : BlkW (w.alloc (.cells (zeros n) 36)) w.heap.size 36 (List.replicate n 0) := by
  refine ⟨?_, ?_⟩
  · rw [← zeros_eq]; exact heap_alloc_new w _
  · intro x hx; have := List.eq_of_mem_replicate hx; omega
theorem BlkW.setI {w : World} {b : Nat} {t : TypeId} {ws : List Nat} (h : BlkW w b t ws) (i : Nat) (x : Nat) (v : Int) (hx : x < 18446744073709551616) (hv : v = (x : Int)) :
    BlkW (w.setCell ⟨b, i, none⟩ (.int .u64 v)) b t (ws.set i x) := by subst hv; exact h.set i x hx
end Go.Proofs.YtpjjobophplleaaDoor
