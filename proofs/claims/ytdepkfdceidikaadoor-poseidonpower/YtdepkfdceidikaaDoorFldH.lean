import Derived.Test.YtdepkfdceidikaaDoorFldF
import Derived.Test.YtdepkfdceidikaaDoorAgg
import Derived.Test.YtdepkfdceidikaaDoorBytesB
import Derived.Laws.CopyOwn
import Derived.Deep.RegionLaw
import Derived.Deep.MidRow
/-
  field.bytesOf, Prime, (Element).Bytes: arrays of 32 bytes.
-/
namespace Go.Proofs.YtdepkfdceidikaaDoor
open Go.RowKit
set_option linter.unusedVariables false

/-- 32 bytes as a value: the bytes of the number X. -/
structure By (v : Value) (X : Nat) : Prop where
  ex : ∃ l : List Nat, v = .agg (cells8 l).toArray ∧ l.length = 32 ∧ allLt8 l ∧ val 256 l = X

/-- A new block of 32 bytes. -/
def o32 (t : TypeId) : Obj := .cells (cells8 (List.replicate 32 0)).toArray t
theorem o32_new (w : World) (t : TypeId) : BlkB (w.alloc (o32 t)) w.heap.size t (List.replicate 32 0) := BlkB.new w t _ (zeros_lt8 _)
theorem size32 : (Tryd.prog.info? 132).map (·.size) = some 32 := by kernel_rfl

end Go.Proofs.YtdepkfdceidikaaDoor
/-
  field.Prime, (Element).Bytes: what each call does.
-/
namespace Go.Proofs.YtdepkfdceidikaaDoor
open Go.RowKit
set_option linter.unusedVariables false

theorem one4 : W4 1 0 0 0 := ⟨⟨by decide, by decide⟩, ⟨by decide, by decide⟩, ⟨by decide, by decide⟩, ⟨by decide, by decide⟩⟩
theorem el_back {r0 r1 r2 r3 : Int} {x : Nat} {A : Int} (hx : x < pN) (hW : W4 r0 r1 r2 r3) (h1 : n4 r0 r1 r2 r3 < prm) (hA : A = ((mo x : Nat) : Int))
    (h : ∃ T : Int, n4 r0 r1 r2 r3 * 115792089237316195423570985008687907853269984665640564039457584007913129639936 = A * n4 1 0 0 0 + prm * T) : n4 r0 r1 r2 r3 = (x : Int) := by
  obtain ⟨n, e, hn⟩ := nat_of (n4_nonneg hW) h1
  obtain ⟨T, h⟩ := h
  rw [e, hA, show n4 1 0 0 0 = ((1 : Nat) : Int) by decide] at h
  rw [e]
  exact_mod_cast mo_back hn hx (int_mod h)

end Go.Proofs.YtdepkfdceidikaaDoor
