/-
  Rows of slices that a call makes (stacks of digits).
-/
import Derived.Test.YtjohbepdmnigcaaDoorCalG
import Derived.Test.YtjohbepdmnigcaaDoorRef2H
namespace Go.Proofs.YtjohbepdmnigcaaDoor
open Go.RowKit
set_option linter.unusedVariables false

def isSl : Value → Bool
  | .slice _ _ _ => true
  | _ => false
theorem isSl_one {v : Value} (h : isSl v = true) : v.oneCell' = true := by
  cases v <;> simp [isSl] at h
  rfl
/-- The slice v owns the slices ds, among the blocks from base on; nothing but slices lies in its block. -/
structure RowV (w : World) (base : Nat) (v : Value) (ds : List Value) : Prop where
  ex : ∃ g cap cur, v = .slice (some ⟨g, 0, none⟩) ds.length cap ∧ base ≤ g ∧ w.heap[g]? = some (.cells cur 23 (0, 0)) ∧ ds.length ≤ cap ∧ cap ≤ maxLen ∧ cur.size = cap ∧ cur.toList.take ds.length = ds ∧ ∀ c ∈ cur.toList, isSl c = true
theorem RowV.kept {w w' : World} {b : Nat} {v : Value} {ds : List Value} {row : Option Nat} (h : RowV w b v ds) (hg : w.grownBy w' row) (hne : v.ownBlock ≠ row) : RowV w' b v ds := by
  obtain ⟨g, cap, cur, rfl, h1, h2, h3⟩ := h.ex
  exact ⟨g, cap, cur, rfl, h1, (hg.block g (Array.getElem?_eq_some_iff.1 h2).1 hne).trans h2, h3⟩
theorem RowV.below {w w' : World} {b : Nat} {v : Value} {ds : List Value} (h : RowV w b v ds) (hb : Below w.heap.size w w') : RowV w' b v ds := by
  refine h.kept (gb_below hb none) ?_
  obtain ⟨g, cap, cur, rfl, _⟩ := h.ex
  simp [Value.ownBlock]
theorem RowV.alloc {w : World} {b : Nat} {v : Value} {ds : List Value} (h : RowV w b v ds) (o : Obj) : RowV (w.alloc o) b v ds := h.below ((Below.refl _ _).alloc (Nat.le_refl _) _)
theorem RowV.mono {w : World} {b b' : Nat} {v : Value} {ds : List Value} (h : RowV w b v ds) (hb : b' ≤ b) : RowV w b' v ds := by
  obtain ⟨g, cap, cur, h0, h1, h2⟩ := h.ex
  exact ⟨g, cap, cur, h0, Nat.le_trans hb h1, h2⟩
theorem RowV.lt {w : World} {b : Nat} {v : Value} {ds : List Value} (h : RowV w b v ds) : ∀ k, v.ownBlock = some k → b ≤ k ∧ k < w.heap.size := by
  obtain ⟨g, cap, cur, rfl, h1, h2, _⟩ := h.ex
  intro k hk
  simp [Value.ownBlock] at hk
  subst hk
  exact ⟨h1, (Array.getElem?_eq_some_iff.1 h2).1⟩
theorem RowV.sl {w : World} {b : Nat} {v : Value} {ds : List Value} (h : RowV w b v ds) : ∀ d ∈ ds, isSl d = true := by
  obtain ⟨g, cap, cur, rfl, h1, h2, h3, h4, h5, h6, h7⟩ := h.ex
  intro d hd
  rw [← h6] at hd
  exact h7 d (List.mem_of_mem_take hd)
theorem RowV.new (w : World) (base : Nat) (hb : base ≤ w.heap.size) : RowV (w.alloc (.cells #[] 23)) base (.slice (some ⟨w.heap.size, 0, none⟩) 0 0) [] :=
  ⟨w.heap.size, 0, #[], rfl, hb, heap_alloc_new w _, Nat.le_refl _, by decide, rfl, rfl, fun c hc => by simp at hc⟩
/-- The cell of the i-th slice. -/
theorem RowV.cell {w : World} {base g n cap : Nat} {ds : List Value} (h : RowV w base (.slice (some ⟨g, 0, none⟩) n cap) ds) (i : Nat) (hi : i < ds.length) : w.cell? ⟨g, i, none⟩ = some (ds.getD i undef) ∧ ∀ j, w.frozen? ⟨g, j, none⟩ = false := by
  obtain ⟨g', cap', cur, e, h1, h2, h3, h4, h5, h6, h7⟩ := h.ex
  injection e with e1 e2 e3
  injection e1 with e1
  injection e1 with e1
  subst e1
  refine ⟨?_, fun j => frozen_of_row w g j cur _ h2⟩
  rw [cell_of_row w g i cur _ (0, 0) h2, List.getD_eq_getElem?_getD]
  have : ds[i]? = cur.toList[i]? := by
    conv => lhs; rw [← h6]
    rw [List.getElem?_take, if_pos hi]
  rw [show cur[i]? = cur.toList[i]? by simp, ← this, List.getElem?_eq_getElem hi]
  rfl
/-- A store into a place of the row. -/
theorem RowV.set {w : World} {base g n cap : Nat} {ds : List Value} (h : RowV w base (.slice (some ⟨g, 0, none⟩) n cap) ds) (i : Nat) (hi : i < ds.length) (d : Value) (hd : isSl d = true) :
    RowV (w.setCell ⟨g, i, none⟩ d) base (.slice (some ⟨g, 0, none⟩) n cap) (ds.set i d) := by
  obtain ⟨g', cap', cur, e, h1, h2, h3, h4, h5, h6, h7⟩ := h.ex
  injection e with e1 e2 e3
  injection e1 with e1
  injection e1 with e1
  subst e1 e2 e3
  refine ⟨g, cap, cur.setIfInBounds i d, by rw [List.length_set], h1, heap_setCell_same w g i cur _ d h2, by rw [List.length_set]; exact h3, h4, by simpa using h5, ?_, ?_⟩
  · rw [List.length_set, Array.toList_setIfInBounds, List.take_set, h6]
  · intro c hc
    rw [Array.toList_setIfInBounds] at hc
    rcases List.mem_or_eq_of_mem_set hc with h | rfl
    · exact h7 c h
    · exact hd
theorem RowV.cut {w : World} {base g n cap : Nat} {ds : List Value} (h : RowV w base (.slice (some ⟨g, 0, none⟩) n cap) ds) (m : Nat) (hm : m ≤ n) : RowV w base (.slice (some ⟨g, 0, none⟩) m cap) (ds.take m) := by
  obtain ⟨g', cap', cur, e, h1, h2, h3, h4, h5, h6, h7⟩ := h.ex
  injection e with e1 e2 e3
  injection e1 with e1
  injection e1 with e1
  subst e1 e2 e3
  have hl : (ds.take m).length = m := by rw [List.length_take]; omega
  refine ⟨g, cap, cur, by rw [hl], h1, h2, by rw [hl]; omega, h4, h5, ?_, h7⟩
  rw [hl, ← h6, List.take_take, Nat.min_eq_left hm]

theorem sl_info : (Tryd.prog.info? 23).map (fun i => (i.zero, i.size, i.bytes)) = some (some (.slice none 0 0), 1, 24) := by kernel_rfl
theorem zeroCells_sl (n : Nat) : ∀ c ∈ (Builtin.zeroCells (Value.slice none 0 0).cells n).toList, isSl c = true := by
  intro c hc
  simp only [Builtin.zeroCells, Value.cells] at hc
  simp at hc
  obtain ⟨i, _, rfl⟩ := hc
  simp [Nat.mod_one, isSl]

theorem run_append_row (w : World) (base : Nat) (ty : TypeId) (v : Value) (ds ms : List Value) (hR : RowV w base v ds) (hms : ∀ m ∈ ms, isSl m = true) (a : Addr) (c : Nat) (hM : 0 < ms.length)
    (hnews : ∀ j u, ms[j]? = some u → w.cell? (a.add j) = some u) (hlen : ds.length + ms.length ≤ 100000) (hbase : base ≤ w.heap.size) :
    ∃ v' w', (Builtin.append_ #[26, 26] ty #[v, .slice (some a) ms.length c]).run Tryd.prog w = .ok v' w' ∧ RowV w' base v' (ds ++ ms) ∧ w.grownBy w' v.ownBlock ∧
      (v'.ownBlock = v.ownBlock ∨ ∃ k, v'.ownBlock = some k ∧ w.heap.size ≤ k) := by
  obtain ⟨i0, hi, hz, hs1, hb⟩ := info_parts sl_info
  obtain ⟨g, cap, cur, rfl, h1, h2, h3, h4, h5, h6, h7⟩ := hR.ex
  have hone : ∀ u ∈ ms, u.oneCell' = true := fun u hu => isSl_one (hms u hu)
  by_cases hroom : ds.length + ms.length ≤ cap
  · have hr := run_append_room (P := Tryd.prog) w 26 ty 23 i0 Tryd.underlying26 hi g ds.length cap cur h2 a ms.length c ms (by rw [hs1]; omega) hnews hone hroom (by rw [hs1]; omega)
    refine ⟨_, _, hr, ⟨g, cap, _, by rw [List.length_append], h1, setRow_heap w g cur _ _ _ h2, by rw [List.length_append]; exact hroom, h4, ?_, ?_, ?_⟩, ⟨rfl, rfl, rfl, by simp, fun k _ hk => setRow_other w g k _ (fun e => hk (by simp [Value.ownBlock, e]))⟩, Or.inl rfl⟩
    · rw [hs1]
      simp only [List.size_toArray, List.length_append, List.length_take, List.length_drop, Array.length_toList]
      omega
    · rw [hs1, Nat.mul_one, h6]
      rw [List.take_append_of_le_length (by simp), List.take_of_length_le (by simp)]
    · intro x hx
      simp only [List.mem_append] at hx
      rcases hx with (hx | hx) | hx
      · exact h7 x (List.mem_of_mem_take hx)
      · exact hms x hx
      · exact h7 x (List.mem_of_mem_drop hx)
  · have holds : ∀ j u, ds[j]? = some u → w.cell? ((⟨g, 0, none⟩ : Addr).add j) = some u := by
      intro j u hj
      have hjl := (List.getElem?_eq_some_iff.1 hj).1
      have := (hR.cell j hjl).1
      rw [add_flat, Nat.zero_add, this, List.getD_eq_getElem?_getD, hj]
      rfl
    have hr := run_append_grow (P := Tryd.prog) w 26 ty 23 i0 _ Tryd.underlying26 hi hz ⟨g, 0, none⟩ ds.length cap ds (by rw [hs1]; omega) holds a ms.length c ms (by rw [hs1]; omega) hnews (by omega) (by omega)
      (by rw [hb]; have := nextslicecap_le (need := ds.length + ms.length) (old := cap) (by omega); omega)
    have hge := grownCap_ge w (ds.length + ms.length) cap 23
    refine ⟨_, _, hr, ⟨w.heap.size, _, _, by rw [List.length_append], hbase, heap_alloc_new w.drew _, by rw [List.length_append]; exact hge, grownCap_le_maxLen w _ _ _ (by unfold maxLen; omega), ?_, ?_, ?_⟩, gb_below (((Below.refl _ _).drew).alloc (Nat.le_refl _) _) _, Or.inr ⟨_, rfl, Nat.le_refl _⟩⟩
    · simp only [Array.size_append, List.size_toArray, size_zeroCells]
      rw [show (Value.slice none 0 0).cells.size = 1 from rfl]
      omega
    · simp only [Array.toList_append]
      rw [List.take_append_of_le_length (by simp), List.take_of_length_le (by simp)]
    · intro x hx
      simp only [Array.toList_append, List.mem_append] at hx
      rcases hx with (hx | hx) | hx
      · exact hR.sl x hx
      · exact hms x hx
      · exact zeroCells_sl _ x hx
end Go.Proofs.YtjohbepdmnigcaaDoor
