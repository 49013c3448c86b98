/-
  Rows of slices of any type that a call makes; the document's vectors and matrices (DV, DM) as integers.
-/
import Derived.Test.YtdepkfdceidikaaGreatDoorEvS
import Derived.Test.YtdepkfdceidikaaGreatDoorCalI
namespace Go.Proofs.YtdepkfdceidikaaGreatDoor
open Go.RowKit
set_option linter.unusedVariables false

/-- The slice v owns the slices ds, among the blocks from base on; nothing but slices lies in its block. -/
structure RowT (te : TypeId) (w : World) (base : Nat) (v : Value) (ds : List Value) : Prop where
  ex : ∃ g cap cur, v = .slice (some ⟨g, 0, none⟩) ds.length cap ∧ base ≤ g ∧ w.heap[g]? = some (.cells cur te (0, 0)) ∧ ds.length ≤ cap ∧ cap ≤ maxLen ∧ cur.size = cap ∧ cur.toList.take ds.length = ds ∧ ∀ c ∈ cur.toList, isSl c = true
theorem RowT.kept {te : TypeId} {w w' : World} {b : Nat} {v : Value} {ds : List Value} {row : Option Nat} (h : RowT te w b v ds) (hg : w.grownBy w' row) (hne : v.ownBlock ≠ row) : RowT te w' b v ds := by
  obtain ⟨g, cap, cur, rfl, h1, h2, h3⟩ := h.ex
  exact ⟨g, cap, cur, rfl, h1, (hg.block g (Array.getElem?_eq_some_iff.1 h2).1 hne).trans h2, h3⟩
theorem RowT.below {te : TypeId} {w w' : World} {b : Nat} {v : Value} {ds : List Value} (h : RowT te w b v ds) (hb : Below w.heap.size w w') : RowT te w' b v ds := by
  refine h.kept (gb_below hb none) ?_
  obtain ⟨g, cap, cur, rfl, _⟩ := h.ex
  simp [Value.ownBlock]
theorem RowT.alloc {te : TypeId} {w : World} {b : Nat} {v : Value} {ds : List Value} (h : RowT te w b v ds) (o : Obj) : RowT te (w.alloc o) b v ds := h.below ((Below.refl _ _).alloc (Nat.le_refl _) _)
theorem RowT.mono {te : TypeId} {w : World} {b b' : Nat} {v : Value} {ds : List Value} (h : RowT te w b v ds) (hb : b' ≤ b) : RowT te w b' v ds := by
  obtain ⟨g, cap, cur, h0, h1, h2⟩ := h.ex
  exact ⟨g, cap, cur, h0, Nat.le_trans hb h1, h2⟩
theorem RowT.lt {te : TypeId} {w : World} {b : Nat} {v : Value} {ds : List Value} (h : RowT te w b v ds) : ∀ k, v.ownBlock = some k → b ≤ k ∧ k < w.heap.size := by
  obtain ⟨g, cap, cur, rfl, h1, h2, _⟩ := h.ex
  intro k hk
  simp [Value.ownBlock] at hk
  subst hk
  exact ⟨h1, (Array.getElem?_eq_some_iff.1 h2).1⟩
theorem RowT.sl {te : TypeId} {w : World} {b : Nat} {v : Value} {ds : List Value} (h : RowT te w b v ds) : ∀ d ∈ ds, isSl d = true := by
  obtain ⟨g, cap, cur, rfl, h1, h2, h3, h4, h5, h6, h7⟩ := h.ex
  intro d hd
  rw [← h6] at hd
  exact h7 d (List.mem_of_mem_take hd)
theorem RowT.new (te : TypeId) (w : World) (base : Nat) (hb : base ≤ w.heap.size) : RowT te (w.alloc (.cells #[] te)) base (.slice (some ⟨w.heap.size, 0, none⟩) 0 0) [] :=
  ⟨w.heap.size, 0, #[], rfl, hb, heap_alloc_new w _, Nat.le_refl _, by decide, rfl, rfl, fun c hc => by simp at hc⟩
/-- The cell of the i-th slice. -/
theorem RowT.cell {te : TypeId} {w : World} {base g n cap : Nat} {ds : List Value} (h : RowT te w base (.slice (some ⟨g, 0, none⟩) n cap) ds) (i : Nat) (hi : i < ds.length) : w.cell? ⟨g, i, none⟩ = some (ds.getD i undef) ∧ ∀ j, w.frozen? ⟨g, j, none⟩ = false := by
  obtain ⟨g', cap', cur, e, h1, h2, h3, h4, h5, h6, h7⟩ := h.ex
  injection e with e1 e2 e3
  injection e1 with e1
  injection e1 with e1
  subst e1
  refine ⟨?_, fun j => frozen_of_row w g j cur _ h2⟩
  rw [cell_of_row w g i cur _ (0, 0) h2, List.getD_eq_getElem?_getD]
  have : ds[i]? = cur.toList[i]? := by
    conv => lhs; rw [← h6]
    rw [List.getElem?_take, if_pos hi]
  rw [show cur[i]? = cur.toList[i]? by simp, ← this, List.getElem?_eq_getElem hi]
  rfl
/-- A store into a place of the row. -/
theorem RowT.set {te : TypeId} {w : World} {base g n cap : Nat} {ds : List Value} (h : RowT te w base (.slice (some ⟨g, 0, none⟩) n cap) ds) (i : Nat) (hi : i < ds.length) (d : Value) (hd : isSl d = true) :
    RowT te (w.setCell ⟨g, i, none⟩ d) base (.slice (some ⟨g, 0, none⟩) n cap) (ds.set i d) := by
  obtain ⟨g', cap', cur, e, h1, h2, h3, h4, h5, h6, h7⟩ := h.ex
  injection e with e1 e2 e3
  injection e1 with e1
  injection e1 with e1
  subst e1 e2 e3
  refine ⟨g, cap, cur.setIfInBounds i d, by rw [List.length_set], h1, heap_setCell_same w g i cur _ d h2, by rw [List.length_set]; exact h3, h4, by simpa using h5, ?_, ?_⟩
  · rw [List.length_set, Array.toList_setIfInBounds, List.take_set, h6]
  · intro c hc
    rw [Array.toList_setIfInBounds] at hc
    rcases List.mem_or_eq_of_mem_set hc with h | rfl
    · exact h7 c h
    · exact hd
theorem RowT.cut {te : TypeId} {w : World} {base g n cap : Nat} {ds : List Value} (h : RowT te w base (.slice (some ⟨g, 0, none⟩) n cap) ds) (m : Nat) (hm : m ≤ n) : RowT te w base (.slice (some ⟨g, 0, none⟩) m cap) (ds.take m) := by
  obtain ⟨g', cap', cur, e, h1, h2, h3, h4, h5, h6, h7⟩ := h.ex
  injection e with e1 e2 e3
  injection e1 with e1
  injection e1 with e1
  subst e1 e2 e3
  have hl : (ds.take m).length = m := by rw [List.length_take]; omega
  refine ⟨g, cap, cur, by rw [hl], h1, h2, by rw [hl]; omega, h4, h5, ?_, h7⟩
  rw [hl, ← h6, List.take_take, Nat.min_eq_left hm]

theorem run_append_rowT (te tS : TypeId) (hu : Tryz.prog.underlying tS = some (.slice te)) (hinfo : (Tryz.prog.info? te).map (fun i => (i.zero, i.size, i.bytes)) = some (some (.slice none 0 0), 1, 24)) (w : World) (base : Nat) (ty : TypeId) (v : Value) (ds ms : List Value) (hR : RowT te w base v ds) (hms : ∀ m ∈ ms, isSl m = true) (a : Addr) (c : Nat) (hM : 0 < ms.length)
    (hnews : ∀ j u, ms[j]? = some u → w.cell? (a.add j) = some u) (hlen : ds.length + ms.length ≤ 100000) (hbase : base ≤ w.heap.size) :
    ∃ v' w', (Builtin.append_ #[tS, tS] ty #[v, .slice (some a) ms.length c]).run Tryz.prog w = .ok v' w' ∧ RowT te w' base v' (ds ++ ms) ∧ w.grownBy w' v.ownBlock ∧
      (v'.ownBlock = v.ownBlock ∨ ∃ k, v'.ownBlock = some k ∧ w.heap.size ≤ k) := by
  obtain ⟨i0, hi, hz, hs1, hb⟩ := info_parts hinfo
  obtain ⟨g, cap, cur, rfl, h1, h2, h3, h4, h5, h6, h7⟩ := hR.ex
  have hone : ∀ u ∈ ms, u.oneCell' = true := fun u hu => isSl_one (hms u hu)
  by_cases hroom : ds.length + ms.length ≤ cap
  · have hr := run_append_room (P := Tryz.prog) w tS ty te i0 hu hi g ds.length cap cur h2 a ms.length c ms (by rw [hs1]; omega) hnews hone hroom (by rw [hs1]; omega)
    refine ⟨_, _, hr, ⟨g, cap, _, by rw [List.length_append], h1, setRow_heap w g cur _ _ _ h2, by rw [List.length_append]; exact hroom, h4, ?_, ?_, ?_⟩, ⟨rfl, rfl, rfl, by simp, fun k _ hk => setRow_other w g k _ (fun e => hk (by simp [Value.ownBlock, e]))⟩, Or.inl rfl⟩
    · rw [hs1]
      simp only [List.size_toArray, List.length_append, List.length_take, List.length_drop, Array.length_toList]
      omega
    · rw [hs1, Nat.mul_one, h6]
      rw [List.take_append_of_le_length (by simp), List.take_of_length_le (by simp)]
    · intro x hx
      simp only [List.mem_append] at hx
      rcases hx with (hx | hx) | hx
      · exact h7 x (List.mem_of_mem_take hx)
      · exact hms x hx
      · exact h7 x (List.mem_of_mem_drop hx)
  · have holds : ∀ j u, ds[j]? = some u → w.cell? ((⟨g, 0, none⟩ : Addr).add j) = some u := by
      intro j u hj
      have hjl := (List.getElem?_eq_some_iff.1 hj).1
      have := (hR.cell j hjl).1
      rw [add_flat, Nat.zero_add, this, List.getD_eq_getElem?_getD, hj]
      rfl
    have hr := run_append_grow (P := Tryz.prog) w tS ty te i0 _ hu hi hz ⟨g, 0, none⟩ ds.length cap ds (by rw [hs1]; omega) holds a ms.length c ms (by rw [hs1]; omega) hnews (by omega) (by omega)
      (by rw [hb]; have := nextslicecap_le (need := ds.length + ms.length) (old := cap) (by omega); omega)
    have hge := grownCap_ge w (ds.length + ms.length) cap te
    refine ⟨_, _, hr, ⟨w.heap.size, _, _, by rw [List.length_append], hbase, heap_alloc_new w.drew _, by rw [List.length_append]; exact hge, grownCap_le_maxLen w _ _ _ (by unfold maxLen; omega), ?_, ?_, ?_⟩, gb_below (((Below.refl _ _).drew).alloc (Nat.le_refl _) _) _, Or.inr ⟨_, rfl, Nat.le_refl _⟩⟩
    · simp only [Array.size_append, List.size_toArray, size_zeroCells]
      rw [show (Value.slice none 0 0).cells.size = 1 from rfl]
      omega
    · simp only [Array.toList_append]
      rw [List.take_append_of_le_length (by simp), List.take_of_length_le (by simp)]
    · intro x hx
      simp only [Array.toList_append, List.mem_append] at hx
      rcases hx with (hx | hx) | hx
      · exact hR.sl x hx
      · exact hms x hx
      · exact zeroCells_sl _ x hx

theorem rr_info : (Tryz.prog.info? 28).map (fun i => (i.zero, i.size, i.bytes)) = some (some (.slice none 0 0), 1, 24) := by kernel_rfl
/-- What an append does to the world: it moves the row v, and nothing else that was there. -/
theorem RowT.moved {te : TypeId} {w w' : World} {b : Nat} {v v' : Value} {ds : List Value} (h : RowT te w b v ds) (hm : Moved w w' v v') (hb : b ≤ w.heap.size) : Below b w w' :=
  (Below.refl b w).grown hm.gb hb (fun k hk => (h.lt k hk).1)
/-- append of one slice that was just laid out. -/
theorem app_rowT {ops : Array Oper} {rest : List Oper} {o : Oper} {a : Act} {Q : Exit → Act → World → Prop} {w : World} (te tS : TypeId) (hu : Tryz.prog.underlying tS = some (.slice te)) (hinfo : (Tryz.prog.info? te).map (fun i => (i.zero, i.size, i.bytes)) = some (some (.slice none 0 0), 1, 24)) (hgd : o.guard = none) (s x : Operand)
    (ho : o.op = .call { callee := .builtin .append, args := #[s, x], argTypes := #[tS, tS] })
    (v : Value) (base : Nat) (ds : List Value) (d : Value) (hs : a.eval s = v) (hx : a.eval x = .slice (some ⟨w.heap.size, 0, none⟩) 1 1) (hR : RowT te w base v ds) (hl : ds.length ≤ 1000) (hbase : base ≤ w.heap.size) (hd : isSl d = true)
    (h : ∀ v' w', RowT te w' base v' (ds ++ [d]) → Moved w w' v v' → wpList Tryz.prog ops Q rest (a.put o.dst v') w') :
    wpList Tryz.prog ops Q (o :: rest) a (w.alloc (.cells #[d] te)) := by
  refine wpList_plain hgd fun K hK => ?_
  have hb1 : Below w.heap.size w (w.alloc (.cells #[d] te)) := (Below.refl _ _).alloc (Nat.le_refl _) _
  obtain ⟨v', w', hr, g2, g3, g4⟩ := run_append_rowT te tS hu hinfo (w.alloc (.cells #[d] te)) base o.type v ds [d] (hR.alloc _) (fun m hm => by rw [List.mem_singleton.1 hm]; exact hd) ⟨w.heap.size, 0, none⟩ 1 (by simp)
    (fun j u hj => by
      rw [add_flat, Nat.zero_add, cell_of_row _ _ j _ _ (0, 0) (heap_alloc_new w _), ← hj]
      simp) (by simp; omega) (by simp; omega)
  unfold Oper.wp execOp
  simp only [List.length_cons, List.length_nil, Nat.zero_add] at hr
  simp only [ho, resolve, invoke, builtin, Sem.run_bind, Sem.run_pure, Result.andThen_ok, List.map_toArray, List.map_cons, List.map_nil, hs, hx, hr]
  exact hK _ _ (h v' w' g2 (Moved.pre ⟨g3, g4⟩ hb1))

/-- Digits lie in no block of slices. -/
theorem Dg.offT {te : TypeId} {w : World} {d : Value} {X base : Nat} {v : Value} {ds : List Value} (h : Dg w d X) (hr : RowT te w base v ds) : ∀ a n c, d = .slice (some a) n c → 0 < n → some a.block ≠ v.ownBlock := by
  intro a n c e hn
  obtain ⟨A, c', l, rfl, h1, h2, h3, h4⟩ := h.ex
  injection e with e1 e2 e3
  subst e1 e2
  obtain ⟨b, off, e, hb, hc⟩ := h3.cells hn
  injection e with e
  subst e
  obtain ⟨g, cap, cur, rfl, g1, g2, g3, g4, g5, g6, g7⟩ := hr.ex
  intro e
  simp only [Value.ownBlock, Option.some.injEq] at e
  subst e
  have := hc 0 hn
  rw [cell_of_row w b (off + 0) cur _ (0, 0) g2] at this
  have hm : (.int .u64 (at64 l 0) : Value) ∈ cur.toList := by
    rw [Array.mem_toList_iff]
    exact Array.mem_of_getElem? this
  have := g7 _ hm
  simp [isSl] at this
theorem Dz.sl {w : World} {d : Value} {X : Int} (h : Dz w d X) : isSl d = true := by
  obtain ⟨x, hx, _⟩ := h.ex
  exact hx.sl
theorem Dz.kept {te : TypeId} {w w' : World} {d : Value} {X : Int} {base : Nat} {v : Value} {ds : List Value} (h : Dz w d X) (hr : RowT te w base v ds) (hg : w.grownBy w' v.ownBlock) : Dz w' d X := by
  obtain ⟨x, hx, hl, e⟩ := h.ex
  exact ⟨⟨x, hx.kept hg (fun a n c e hn => hx.offT hr a n c e hn), hl, e⟩⟩
/-- A row of the document's numbers: the integers of Y. -/
structure DV (w : World) (v : Value) (n : Nat) (Y : Nat → Int) : Prop where
  ex : ∃ b cap cur, v = .slice (some ⟨b, 0, none⟩) n cap ∧ w.heap[b]? = some (.cells cur 50 (0, 0)) ∧ ∀ j, j < n → ∃ d, w.cell? ⟨b, j, none⟩ = some d ∧ Dz w d (Y j)
/-- Rows of them. -/
structure DM (w : World) (v : Value) (n : Nat) (Y : MZ) : Prop where
  ex : ∃ b cap cur, v = .slice (some ⟨b, 0, none⟩) n cap ∧ w.heap[b]? = some (.cells cur 28 (0, 0)) ∧ ∀ i, i < n → ∃ d, w.cell? ⟨b, i, none⟩ = some d ∧ DV w d n (Y i)
theorem DV.up {w w' : World} {v : Value} {n : Nat} {Y : Nat → Int} (h : DV w v n Y) (hb : Below w.heap.size w w') : DV w' v n Y := by
  obtain ⟨b, cap, cur, e, h1, h2⟩ := h.ex
  have hlt := (Array.getElem?_eq_some_iff.1 h1).1
  refine ⟨b, cap, cur, e, (hb.block b hlt).trans h1, fun j hj => ?_⟩
  obtain ⟨d, q1, q2⟩ := h2 j hj
  exact ⟨d, (hb.cell (p := ⟨b, j, none⟩) hlt).trans q1, q2.up hb⟩
theorem DM.up {w w' : World} {v : Value} {n : Nat} {Y : MZ} (h : DM w v n Y) (hb : Below w.heap.size w w') : DM w' v n Y := by
  obtain ⟨b, cap, cur, e, h1, h2⟩ := h.ex
  have hlt := (Array.getElem?_eq_some_iff.1 h1).1
  refine ⟨b, cap, cur, e, (hb.block b hlt).trans h1, fun j hj => ?_⟩
  obtain ⟨d, q1, q2⟩ := h2 j hj
  exact ⟨d, (hb.cell (p := ⟨b, j, none⟩) hlt).trans q1, q2.up hb⟩
theorem DV.eq {w : World} {v : Value} {n : Nat} {Y Z : Nat → Int} (h : DV w v n Y) (e : ∀ j, j < n → Y j = Z j) : DV w v n Z := by
  obtain ⟨b, cap, cur, h0, h1, h2⟩ := h.ex
  exact ⟨b, cap, cur, h0, h1, fun j hj => by obtain ⟨d, q1, q2⟩ := h2 j hj; exact ⟨d, q1, q2.eq (e j hj)⟩⟩
theorem DM.eq {w : World} {v : Value} {n : Nat} {Y Z : MZ} (h : DM w v n Y) (e : ∀ i j, i < n → j < n → Y i j = Z i j) : DM w v n Z := by
  obtain ⟨b, cap, cur, h0, h1, h2⟩ := h.ex
  exact ⟨b, cap, cur, h0, h1, fun j hj => by obtain ⟨d, q1, q2⟩ := h2 j hj; exact ⟨d, q1, q2.eq (e j · hj)⟩⟩
theorem DV.sl {w : World} {v : Value} {n : Nat} {Y : Nat → Int} (h : DV w v n Y) : isSl v = true := by
  obtain ⟨b, cap, cur, rfl, _⟩ := h.ex
  rfl
/-- A row of numbers is kept where a row of rows grows. -/
theorem DV.kept {w w' : World} {d : Value} {n : Nat} {Y : Nat → Int} {base : Nat} {v : Value} {ds : List Value} (h : DV w d n Y) (hr : RowT 28 w base v ds) (hg : w.grownBy w' v.ownBlock) : DV w' d n Y := by
  obtain ⟨b, cap, cur, e, h1, h2⟩ := h.ex
  have hlt := (Array.getElem?_eq_some_iff.1 h1).1
  have hne : some b ≠ v.ownBlock := by
    obtain ⟨g, c', cur', rfl, g1, g2, _⟩ := hr.ex
    intro e
    simp only [Value.ownBlock, Option.some.injEq] at e
    subst e
    rw [h1] at g2
    simp at g2
  have hbl := hg.block b hlt hne
  refine ⟨b, cap, cur, e, hbl.trans h1, fun j hj => ?_⟩
  obtain ⟨x, q1, q2⟩ := h2 j hj
  exact ⟨x, (World.cell?_of_block (a := ⟨b, j, none⟩) hbl).trans q1, q2.kept hr hg⟩
/-- All of a row's slices are the numbers of Y. -/
def AllZ (w : World) (ds : List Value) (Y : Nat → Int) : Prop := ∀ i, i < ds.length → Dz w (ds.getD i undef) (Y i)
def AllV (w : World) (es : List Value) (n : Nat) (Y : MZ) : Prop := ∀ i, i < es.length → DV w (es.getD i undef) n (Y i)
theorem AllZ.nil (w : World) (Y : Nat → Int) : AllZ w [] Y := fun i hi => absurd hi (Nat.not_lt_zero i)
theorem AllV.nil (w : World) (n : Nat) (Y : MZ) : AllV w [] n Y := fun i hi => absurd hi (Nat.not_lt_zero i)
theorem AllZ.up {w w' : World} {ds : List Value} {Y : Nat → Int} (h : AllZ w ds Y) (hb : Below w.heap.size w w') : AllZ w' ds Y := fun i hi => (h i hi).up hb
theorem AllV.up {w w' : World} {es : List Value} {n : Nat} {Y : MZ} (h : AllV w es n Y) (hb : Below w.heap.size w w') : AllV w' es n Y := fun i hi => (h i hi).up hb
theorem snoc_getD (ds : List Value) (d : Value) (i : Nat) : (ds ++ [d]).getD i undef = if i < ds.length then ds.getD i undef else if i = ds.length then d else undef := by
  by_cases h : i < ds.length
  · rw [if_pos h]
    simp [List.getD_eq_getElem?_getD, List.getElem?_append_left h]
  · rw [if_neg h]
    by_cases e : i = ds.length
    · subst e
      simp [List.getD_eq_getElem?_getD]
    · rw [if_neg e]
      simp only [List.getD_eq_getElem?_getD]
      rw [List.getElem?_eq_none (by simp; omega)]
      rfl
theorem AllZ.snoc {w w' : World} {ds : List Value} {d v v' : Value} {base : Nat} {Y : Nat → Int} (h : AllZ w ds Y) (hd : Dz w d (Y ds.length)) (hr : RowT 50 w base v ds) (hm : Moved w w' v v') : AllZ w' (ds ++ [d]) Y := fun i hi => by
  rw [snoc_getD]
  by_cases hlt : i < ds.length
  · rw [if_pos hlt]
    exact (h i hlt).kept hr hm.gb
  · simp only [List.length_append, List.length_singleton] at hi
    rw [if_neg hlt, if_pos (by omega), show i = ds.length by omega]
    exact hd.kept hr hm.gb
theorem AllV.snoc {w w' : World} {es : List Value} {d v v' : Value} {base n : Nat} {Y : MZ} (h : AllV w es n Y) (hd : DV w d n (Y es.length)) (hr : RowT 28 w base v es) (hm : Moved w w' v v') : AllV w' (es ++ [d]) n Y := fun i hi => by
  rw [snoc_getD]
  by_cases hlt : i < es.length
  · rw [if_pos hlt]
    exact (h i hlt).kept hr hm.gb
  · simp only [List.length_append, List.length_singleton] at hi
    rw [if_neg hlt, if_pos (by omega), show i = es.length by omega]
    exact hd.kept hr hm.gb
theorem RowT.dv {w : World} {base : Nat} {v : Value} {ds : List Value} {Y : Nat → Int} (h : RowT 50 w base v ds) (hd : AllZ w ds Y) : DV w v ds.length Y := by
  obtain ⟨g, cap, cur, e, h1, h2, h3, h4, h5, h6, h7⟩ := id h.ex
  subst e
  exact ⟨g, cap, cur, rfl, h2, fun j hj => ⟨ds.getD j undef, (h.cell j hj).1, hd j hj⟩⟩
theorem RowT.dm {w : World} {base : Nat} {v : Value} {es : List Value} {Y : MZ} (h : RowT 28 w base v es) (hd : AllV w es es.length Y) : DM w v es.length Y := by
  obtain ⟨g, cap, cur, e, h1, h2, h3, h4, h5, h6, h7⟩ := id h.ex
  subst e
  exact ⟨g, cap, cur, rfl, h2, fun j hj => ⟨es.getD j undef, (h.cell j hj).1, hd j hj⟩⟩
/-- A number of a row, a row of a matrix, as they are read in every world above. -/
theorem DV.at_ {w : World} {v : Value} {n : Nat} {Y : Nat → Int} (h : DV w v n Y) : ∃ b cap, v = .slice (some ⟨b, 0, none⟩) n cap ∧ b < w.heap.size ∧ ∀ j, j < n → ∃ d, Dz w d (Y j) ∧ w.cell? ⟨b, j, none⟩ = some d := by
  obtain ⟨b, cap, cur, e, h1, h2⟩ := h.ex
  exact ⟨b, cap, e, (Array.getElem?_eq_some_iff.1 h1).1, fun j hj => by obtain ⟨d, q1, q2⟩ := h2 j hj; exact ⟨d, q2, q1⟩⟩
theorem DM.at_ {w : World} {v : Value} {n : Nat} {Y : MZ} (h : DM w v n Y) : ∃ b cap, v = .slice (some ⟨b, 0, none⟩) n cap ∧ b < w.heap.size ∧ ∀ j, j < n → ∃ d, DV w d n (Y j) ∧ w.cell? ⟨b, j, none⟩ = some d := by
  obtain ⟨b, cap, cur, e, h1, h2⟩ := h.ex
  exact ⟨b, cap, e, (Array.getElem?_eq_some_iff.1 h1).1, fun j hj => by obtain ⟨d, q1, q2⟩ := h2 j hj; exact ⟨d, q2, q1⟩⟩
theorem Dz.form {w : World} {v : Value} {X : Int} (h : Dz w v X) : ∃ A n c, v = .slice A n c := by
  obtain ⟨x, hx, _⟩ := h.ex
  obtain ⟨A, c, l, e, _⟩ := hx.ex
  exact ⟨A, _, c, e⟩
end Go.Proofs.YtdepkfdceidikaaGreatDoor
