import Derived.Test.YtdepkfdceidikaaGreatDoorMnE
import Derived.Test.YtdepkfdceidikaaGreatDoorFrame8
import Derived.WalkKit
import Derived.ProofKit
import Derived.OpenShut
import Derived.ChangeOld
import Derived.Below
import Derived.Test.YtdepkfdceidikaaGreatDoorPrA
/-
  Nine slices of bytes that came in, as the statements' frame tells of them, are nine that are read.
-/
namespace Go.Proofs.YtdepkfdceidikaaGreatDoor
open Go.RowKit
open Go.ChangeShapes Go.WideShapes
set_option linter.unusedVariables false

theorem cells1N : Tryz.prog.cellsOf 22 = 1 := by kernel_rfl
theorem mapM_eachN {α β : Type} {f : α → Option β} : ∀ {L : List α} {xs : List β}, L.mapM f = some xs → ∀ i ∈ L, ∃ y, f i = some y
  | [], _, _, i, hi => by simp at hi
  | j :: L, xs, h, i, hi => by
    rw [List.mapM_cons] at h
    simp only [bind, Option.bind_eq_some_iff, pure, Option.some.injEq] at h
    obtain ⟨y, hy, ys, hys, rfl⟩ := h
    rcases List.mem_cons.1 hi with rfl | hi
    · exact ⟨y, hy⟩
    · exact mapM_eachN hys i hi
end Go.Proofs.YtdepkfdceidikaaGreatDoor
/-
  Three slices of bytes that came in, as the statements' frame tells of them, are three that are read.
-/
namespace Go.Proofs.YtdepkfdceidikaaGreatDoor
open Go.RowKit
open Go.ChangeShapes Go.WideShapes
set_option linter.unusedVariables false

theorem cells1T : Tryz.prog.cellsOf 22 = 1 := by kernel_rfl
theorem cells3T : Tryz.prog.cellsOf 23 = 3 := by kernel_rfl
theorem mapM_eachT {α β : Type} {f : α → Option β} : ∀ {L : List α} {xs : List β}, L.mapM f = some xs → ∀ i ∈ L, ∃ y, f i = some y
  | [], _, _, i, hi => by simp at hi
  | j :: L, xs, h, i, hi => by
    rw [List.mapM_cons] at h
    simp only [bind, Option.bind_eq_some_iff, pure, Option.some.injEq] at h
    obtain ⟨y, hy, ys, hys, rfl⟩ := h
    rcases List.mem_cons.1 hi with rfl | hi
    · exact ⟨y, hy⟩
    · exact mapM_eachT hys i hi
set_option maxRecDepth 20000 in
theorem open_three {H : Type} {enc : TypeId × Value → H} {W : World} {r : Reach} {b0 : Nat} {v : Value} {d : DataW H} {ps : List MemPlace}
    (hval : Value.okWide Tryz.prog W r b0 23 v) (hd : DataW.Trod enc Tryz.prog W 0 (fun _ => true) true 23 v d ps) :
    ∃ (A : Nat → Option Addr) (n c : Nat → Nat) (l : Nat → List Nat), v = .agg #[.slice (A 0) (n 0) (c 0), .slice (A 1) (n 1) (c 1), .slice (A 2) (n 2) (c 2)] ∧ N3 W W.heap.size A n l := by
  have hu := Tryz.underlying23
  simp only [Value.okWide, hu] at hval
  obtain ⟨⟨cs⟩, rfl, hn, _⟩ := hval
  rw [cells3T] at hn
  simp only [List.size_toArray] at hn
  obtain ⟨fuel, hf⟩ := hd
  have key : ∀ i, i < 3 → ∃ (A : Option Addr) (n c : Nat) (l : List Nat), (cs.drop (i * 1)).take 1 = [.slice A n c] ∧ Rd8 W W.heap.size A n l := by
    cases fuel with
    | zero => simp [DataW.trod] at hf
    | succ m =>
      rw [DataW.trod_step] at hf
      unfold DataW.trodStep at hf
      simp only [hu, Value.cells] at hf
      rw [if_pos (by rw [cells3T]; simpa using hn)] at hf
      simp only [Option.map_eq_some_iff, cells1T] at hf
      obtain ⟨ys, hy, e1⟩ := hf
      intro i hi
      obtain ⟨y, h1⟩ := mapM_eachT hy i (by simpa using hi)
      rcases open_ints Tryz.underlying22 Tryz.underlying5 (by kernel_rfl) h1 with ⟨hcs, _⟩ | ⟨x, len, cap, zs, hcs, _, hl, hm, hz, _, hcell, hwz⟩
      · obtain ⟨l, hl⟩ := rd8_of_row (w := W) (a := none) (len := 0) (cap := 0) (zs := []) (.inl ⟨rfl, rfl, rfl, rfl⟩)
        exact ⟨none, 0, 0, l, hcs, hl⟩
      · obtain ⟨l, hl⟩ := rd8_of_row (.inr ⟨x, rfl, hl, hm, by simpa using hz, hcell, hwz⟩)
        exact ⟨some x, len, cap, l, hcs, hl⟩
  have all : ∀ i : Nat, ∃ t : Option Addr × Nat × Nat × List Nat, i < 3 → (cs.drop (i * 1)).take 1 = [.slice t.1 t.2.1 t.2.2.1] ∧ Rd8 W W.heap.size t.1 t.2.1 t.2.2.2 := fun i => by
    by_cases h : i < 3
    · obtain ⟨A, n, c, l, q⟩ := key i h
      exact ⟨(A, n, c, l), fun _ => q⟩
    · exact ⟨(none, 0, 0, []), fun h' => absurd h' h⟩
  obtain ⟨F, hF⟩ := Classical.axiomOfChoice all
  refine ⟨fun i => (F i).1, fun i => (F i).2.1, fun i => (F i).2.2.1, fun i => (F i).2.2.2, ?_, ⟨fun i hi => (hF i hi).2⟩⟩
  match cs, hn with
  | [a, b, c], _ =>
    have h0 := (hF 0 (by decide)).1
    have h1 := (hF 1 (by decide)).1
    have h2 := (hF 2 (by decide)).1
    simp at h0 h1 h2
    rw [h0, h1, h2]
end Go.Proofs.YtdepkfdceidikaaGreatDoor
