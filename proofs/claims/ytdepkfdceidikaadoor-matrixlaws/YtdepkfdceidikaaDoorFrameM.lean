/-
  Nine slices of bytes that came in, as the statements' frame tells of them, are nine that are read.
-/
import Derived.Test.YtdepkfdceidikaaDoorMnB
import Derived.Test.YtdepkfdceidikaaDoorFrame8
import Derived.WalkKit
import Derived.ProofKit
import Derived.OpenShut
import Derived.ChangeOld
import Derived.Below
namespace Go.Proofs.YtdepkfdceidikaaDoor
open Go.RowKit
open Go.ChangeShapes Go.WideShapes
set_option linter.unusedVariables false

theorem cells1N : Tryd.prog.cellsOf 22 = 1 := by kernel_rfl
theorem cells9N : Tryd.prog.cellsOf 35 = 9 := by kernel_rfl
theorem mapM_eachN {α β : Type} {f : α → Option β} : ∀ {L : List α} {xs : List β}, L.mapM f = some xs → ∀ i ∈ L, ∃ y, f i = some y
  | [], _, _, i, hi => by simp at hi
  | j :: L, xs, h, i, hi => by
    rw [List.mapM_cons] at h
    simp only [bind, Option.bind_eq_some_iff, pure, Option.some.injEq] at h
    obtain ⟨y, hy, ys, hys, rfl⟩ := h
    rcases List.mem_cons.1 hi with rfl | hi
    · exact ⟨y, hy⟩
    · exact mapM_eachN hys i hi
set_option maxRecDepth 20000 in
theorem open_nine {H : Type} {enc : TypeId × Value → H} {W : World} {r : Reach} {b0 : Nat} {v : Value} {d : DataW H} {ps : List MemPlace}
    (hval : Value.okWide Tryd.prog W r b0 35 v) (hd : DataW.Trod enc Tryd.prog W 0 (fun _ => true) true 35 v d ps) :
    ∃ (A : Nat → Option Addr) (n c : Nat → Nat) (l : Nat → List Nat), v = .agg (sls A n c).toArray ∧ N9 W W.heap.size A n l := by
  have hu := Tryd.underlying35
  simp only [Value.okWide, hu] at hval
  obtain ⟨⟨cs⟩, rfl, hn, _⟩ := hval
  rw [cells9N] at hn
  simp only [List.size_toArray] at hn
  obtain ⟨fuel, hf⟩ := hd
  have key : ∀ i, i < 9 → ∃ (A : Option Addr) (n c : Nat) (l : List Nat), (cs.drop (i * 1)).take 1 = [.slice A n c] ∧ Rd8 W W.heap.size A n l := by
    cases fuel with
    | zero => simp [DataW.trod] at hf
    | succ m =>
      rw [DataW.trod_step] at hf
      unfold DataW.trodStep at hf
      simp only [hu, Value.cells] at hf
      rw [if_pos (by rw [cells9N]; simpa using hn)] at hf
      simp only [Option.map_eq_some_iff, cells1N] at hf
      obtain ⟨ys, hy, e1⟩ := hf
      intro i hi
      obtain ⟨y, h1⟩ := mapM_eachN hy i (by simpa using hi)
      rcases open_ints Tryd.underlying22 Tryd.underlying5 (by kernel_rfl) h1 with ⟨hcs, _⟩ | ⟨x, len, cap, zs, hcs, _, hl, hm, hz, _, hcell, hwz⟩
      · obtain ⟨l, hl⟩ := rd8_of_row (w := W) (a := none) (len := 0) (cap := 0) (zs := []) (.inl ⟨rfl, rfl, rfl, rfl⟩)
        exact ⟨none, 0, 0, l, hcs, hl⟩
      · obtain ⟨l, hl⟩ := rd8_of_row (.inr ⟨x, rfl, hl, hm, by simpa using hz, hcell, hwz⟩)
        exact ⟨some x, len, cap, l, hcs, hl⟩
  have all : ∀ i : Nat, ∃ t : Option Addr × Nat × Nat × List Nat, i < 9 → (cs.drop (i * 1)).take 1 = [.slice t.1 t.2.1 t.2.2.1] ∧ Rd8 W W.heap.size t.1 t.2.1 t.2.2.2 := fun i => by
    by_cases h : i < 9
    · obtain ⟨A, n, c, l, q⟩ := key i h
      exact ⟨(A, n, c, l), fun _ => q⟩
    · exact ⟨(none, 0, 0, []), fun h' => absurd h' h⟩
  obtain ⟨F, hF⟩ := Classical.axiomOfChoice all
  refine ⟨fun i => (F i).1, fun i => (F i).2.1, fun i => (F i).2.2.1, fun i => (F i).2.2.2, ?_, ⟨fun i hi => (hF i hi).2⟩⟩
  have e : cs = sls (fun i => (F i).1) (fun i => (F i).2.1) (fun i => (F i).2.2.1) := by
    apply List.ext_getElem?
    intro i
    rcases Nat.lt_or_ge i 9 with hi | hi
    · rw [sls_get hi]
      have h := (hF i hi).1
      rw [Nat.mul_one] at h
      have h2 := congrArg (fun l : List Value => l[0]?) h
      simp only [List.getElem?_take_of_lt Nat.zero_lt_one, List.getElem?_drop, Nat.add_zero] at h2
      exact h2
    · rw [List.getElem?_eq_none (by omega), List.getElem?_eq_none (by rw [sls_len]; exact hi)]
  rw [← e]
end Go.Proofs.YtdepkfdceidikaaDoor
