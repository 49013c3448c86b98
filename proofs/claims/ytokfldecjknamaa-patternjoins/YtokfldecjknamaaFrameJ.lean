/-
  A document's item that came in, as the library opens it. Helpers for the frames of stage 12.
-/
import Derived.Test.YtokfldecjknamaaStr0
import Derived.Lib.SmallJoins
namespace Go.Proofs.Ytokfldecjknamaa
open Go.RowKit Go.Joins
set_option linter.unusedVariables false

theorem open_item {H : Type} {enc : TypeId × Value → H} {W : World} {base : Nat} {sp : Nat → Bool} {held : Bool} {r : Reach} {b0 : Nat} {v : Value} {d : DataW H} {ps : List MemPlace}
    (hval : Value.okWide Try.prog W r b0 25 v) (hd : DataW.Trod enc Try.prog W base sp held 25 v d ps) :
    ∃ (k t c : Int) (s : ByteArray), v = .agg #[.int .i64 k, .int .i64 t, .int .i64 c, .string s] ∧ s.size ≤ maxLen := by
  obtain ⟨v0, v1, v2, v3, y0, y1, y2, y3, n, rfl, _, _, h0, h1, h2, h3⟩ := open_agg4 Try.underlying25 (by kernel_rfl) (by kernel_rfl) hval hd
  obtain ⟨k, e0, -, -⟩ := DataW.trod_int Try.underlying3 h0
  obtain ⟨t, e1, -, -⟩ := DataW.trod_int Try.underlying3 h1
  obtain ⟨c, e2, -, -⟩ := DataW.trod_int Try.underlying3 h2
  obtain ⟨s, e3, -, hs⟩ := DataW.trod_string Try.underlying9 h3
  injection e0 with e0
  injection e1 with e1
  injection e2 with e2
  injection e3 with e3
  exact ⟨k, t, c, s, by rw [e0, e1, e2, e3], hs⟩
end Go.Proofs.Ytokfldecjknamaa
