/-
  The rounds' constants, bit by bit: plain arithmetic, nothing of the program.
-/
import Derived.Test.YtpilbpkblcmngaaDoorKecB
namespace Go.Proofs.YtpilbpkblcmngaaDoor
set_option linter.unusedVariables false

/-- One bit of a byte turned over. -/
def kflip (r p : Nat) : Nat := if r / p % 2 = 1 then r - p else r + p
/-- The byte R, turned once more. -/
def knext (r : Nat) : Nat := if 256 ≤ r * 2 then kflip (kflip (kflip (kflip (r * 2 - 256) 64) 32) 16) 1 else r * 2
def klf : Nat → Nat
  | 0 => 1
  | n + 1 => knext (klf n)
theorem knext_lt {r : Nat} (h : r < 256) : knext r < 256 := by
  have key : ∀ r : Fin 256, knext r.val < 256 := by decide +kernel
  exact key ⟨r, h⟩
theorem klf_lt : ∀ n, klf n < 256
  | 0 => by decide
  | n + 1 => knext_lt (klf_lt n)
/-- The bit at a place. -/
def krc (t : Nat) : Bool := klf t % 2 == 1
/-- The constants' bits: those at the places 2^j - 1. -/
def kcb (i z : Nat) : Bool := (z == 0 && krc (7 * i)) || ((z == 1 && krc (1 + 7 * i)) || ((z == 3 && krc (2 + 7 * i)) || ((z == 7 && krc (3 + 7 * i)) || ((z == 15 && krc (4 + 7 * i)) || ((z == 31 && krc (5 + 7 * i)) || (z == 63 && krc (6 + 7 * i)))))))
theorem kconst_bits : ((List.range 24).all fun i => (List.range 64).all fun z => (kconst.getD i 0).testBit z == kcb i z) = true := by decide +kernel
theorem kconst_bit {i z : Nat} (hi : i < 24) (hz : z < 64) : (kconst.getD i 0).testBit z = kcb i z := by
  have h := List.all_eq_true.1 (List.all_eq_true.1 kconst_bits i (List.mem_range.2 hi)) z (List.mem_range.2 hz)
  exact eq_of_beq h
theorem kconst_lt (i : Nat) : kconst.getD i 0 < 18446744073709551616 := by
  rcases Nat.lt_or_ge i 24 with h | h
  · have key : ∀ i : Fin 24, kconst.getD i.val 0 < 18446744073709551616 := by decide
    exact key ⟨i, h⟩
  · rw [List.getD_eq_getElem?_getD, List.getElem?_eq_none (by simpa [kconst] using h)]
    decide
end Go.Proofs.YtpilbpkblcmngaaDoor
