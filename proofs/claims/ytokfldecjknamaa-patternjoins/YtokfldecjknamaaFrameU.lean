/-
  Small unsigned integers that came in, as natural numbers. Helpers for the frames.
-/
import Derived.Test.YtokfldecjknamaaMem
namespace Go.Proofs.Ytokfldecjknamaa
set_option linter.unusedVariables false

theorem u8_numI {a : Int} (h : (Lit.int .u8 a).wf = true) : ∃ v : Nat, a = (v : Int) ∧ v < 256 := by
  have e1 : IntKind.u8.min = 0 := by decide
  have e2 : IntKind.u8.max = 255 := by decide
  simp [Lit.wf, e1, e2] at h
  exact ⟨a.toNat, by omega, by omega⟩
theorem u16_numI {a : Int} (h : (Lit.int .u16 a).wf = true) : ∃ v : Nat, a = (v : Int) ∧ v < 65536 := by
  have e1 : IntKind.u16.min = 0 := by decide
  have e2 : IntKind.u16.max = 65535 := by decide
  simp [Lit.wf, e1, e2] at h
  exact ⟨a.toNat, by omega, by omega⟩
end Go.Proofs.Ytokfldecjknamaa
