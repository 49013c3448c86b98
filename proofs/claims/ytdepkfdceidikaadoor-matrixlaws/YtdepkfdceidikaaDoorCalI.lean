import Derived.Test.YtdepkfdceidikaaDoorRef2E
import Derived.StillTailTactics
import Derived.Deep.RegionHeld3
import Derived.Test.YtdepkfdceidikaaDoorLOpsC
import Derived.Test.YtdepkfdceidikaaDoorCalG
import Derived.Deep.RegionLaw
import Derived.BigRegion
/-
  What the double loop of avouchref02.Mul keeps; its numbers.
-/
namespace Go.Proofs.YtdepkfdceidikaaDoor
open Go.RowKit
set_option linter.unusedVariables false

theorem sets_all {ws r : List Nat} (h : r.length = ws.length) : sets ws 0 r = r := by
  apply List.ext_getElem (by rw [sets_length]; exact h.symm)
  intro i h1 h2
  have e := sets_in r ws 0 i h2 (by omega)
  rw [Nat.zero_add] at e
  simpa [List.getD_eq_getElem?_getD, List.getElem?_eq_getElem h1, List.getElem?_eq_getElem h2] using e

theorem Rd8.cellAt {w : World} {B n b off : Nat} {l : List Nat} (h : Rd8 w B (some ⟨b, off, none⟩) n l) {i : Nat} (hi : i < n) : w.cell? ⟨b, off + i, none⟩ = some (.int .u8 (at64 l i)) := by
  obtain ⟨b', off', e, _, hc⟩ := h.cells (by omega)
  simp only [Option.some.injEq, Addr.mk.injEq, and_true] at e
  obtain ⟨rfl, rfl⟩ := e
  exact hc i hi
/-- A byte of a number. -/
theorem byte_of (l : List Nat) (h : allLt8 l) (k : Nat) : l.getD k 0 = val 256 l / 256 ^ k % 256 := by
  have e1 := pv_mod 256 (by decide) l h (k + 1)
  rw [pv_succ, pv_mod 256 (by decide) l h k, Nat.pow_succ, Nat.mod_mul] at e1
  have e2 : l.getD k 0 * 256 ^ k = 256 ^ k * (val 256 l / 256 ^ k % 256) := by omega
  rw [Nat.mul_comm] at e2
  exact Nat.eq_of_mul_eq_mul_left (Nat.pow_pos (by decide)) e2
/-- One byte more. -/
theorem mul_byte (X Y m t : Nat) (ht : t = X / 256 ^ m % 256) : (256 * (X / 256 ^ (m + 1) * Y % pN) + t * Y) % pN = X / 256 ^ m * Y % pN := by
  have e : X / 256 ^ m = 256 * (X / 256 ^ (m + 1)) + t := by
    rw [Nat.pow_succ, ← Nat.div_div_eq_div_mul, ht]; omega
  rw [e, Nat.add_mul, Nat.add_mod, Nat.mul_mod_mod, ← Nat.add_mod, Nat.mul_assoc]
theorem byte_fits {R Y t : Nat} (hR : R < pN) (hY : Y < pN) (ht : t < 256) : 256 * R + t * Y < 2 ^ 9 * pN ∧ 256 * R + t * Y < 4294967296 ^ 9 := by
  have h1 : t * Y ≤ 255 * Y := Nat.mul_le_mul_right _ (by omega)
  have h2 : 2 ^ 9 * pN < 4294967296 ^ 9 := by decide
  have h3 : 256 * R + t * Y < 2 ^ 9 * pN := by omega
  exact ⟨h3, Nat.lt_trans h3 h2⟩
/-- One multiple taken away, or not. -/
theorem cut_one {V k : Nat} (h : V < 2 ^ (k + 1) * pN) (hge : 2 ^ k * pN ≤ V) : V - 2 ^ k * pN < 2 ^ k * pN ∧ (V - 2 ^ k * pN) % pN = V % pN := by
  rw [Nat.pow_succ] at h
  refine ⟨?_, ?_⟩
  · have : 2 ^ k * 2 * pN = 2 ^ k * pN + 2 ^ k * pN := by rw [Nat.mul_comm (2 ^ k) 2, Nat.mul_assoc, Nat.two_mul]
    omega
  · obtain ⟨d, hd⟩ : ∃ d, V = d + 2 ^ k * pN := ⟨V - 2 ^ k * pN, by omega⟩
    rw [hd, Nat.add_sub_cancel, Nat.add_mul_mod_self_right]
end Go.Proofs.YtdepkfdceidikaaDoor
/-
  avouchref02.Mul: what the call does.
-/
namespace Go.Proofs.YtdepkfdceidikaaDoor
open Go.RowKit
set_option linter.unusedVariables false

theorem zero9 : val 4294967296 (List.replicate 9 0) = 0 := by unfold val; rw [pv_replicate]
theorem zero9_d : D32 (List.replicate 9 0) := by intro x hx; have := List.eq_of_mem_replicate hx; omega

theorem two_fits (k : Nat) (hk : k < 8) : 256 * 0 + 2 * (2 ^ k * pN) < 4294967296 ^ 9 := by
  have h1 : 2 ^ k ≤ 2 ^ 8 := Nat.pow_le_pow_right (by decide) (by omega)
  have h2 : 2 ^ k * pN ≤ 2 ^ 8 * pN := Nat.mul_le_mul_right _ h1
  have h3 : 2 * (2 ^ 8 * pN) < 4294967296 ^ 9 := by decide
  omega
theorem own_zero (w : World) : OwnW (w.alloc (.cells #[] 24)) w.heap.size (.slice (some ⟨w.heap.size, 0, none⟩) 0 0) [] := by
  have h := own_made w 0 (by omega)
  have e : zeros 0 = #[] := by rw [zeros_eq]; rfl
  rw [e] at h
  exact h
end Go.Proofs.YtdepkfdceidikaaDoor
/-
  avouchref02.Add, Sub, Exp, Inverse: what each call does.
-/
namespace Go.Proofs.YtdepkfdceidikaaDoor
open Go.RowKit
set_option linter.unusedVariables false

theorem add_mod_p {X Y : Nat} (hX : X < pN) (hY : Y < pN) (h : pN ≤ X + Y) : X + Y - pN = (X + Y) % pN := by
  rw [Nat.mod_eq_sub_mod h, Nat.mod_eq_of_lt (by omega)]
theorem sub_mod_p {X Y : Nat} (hX : X < pN) (hY : Y < pN) (h : Y ≤ X) : X - Y = (X + (pN - Y)) % pN := by
  rw [show X + (pN - Y) = (X - Y) + pN by omega, Nat.add_mod_right, Nat.mod_eq_of_lt (by omega)]
theorem sub_mod_p' {X Y : Nat} (hX : X < pN) (hY : Y < pN) (h : ¬ Y ≤ X) : X + pN - Y = (X + (pN - Y)) % pN := by
  rw [Nat.mod_eq_of_lt (by omega)]; omega
def bits1000 : Nat := 1000
theorem p_1000 : pN < 2 ^ bits1000 := Nat.lt_of_lt_of_le (show pN < 2 ^ 254 by decide) (Nat.pow_le_pow_right (by decide) (by decide))
theorem two_p : pN + pN < 4294967296 ^ 20 := by decide

theorem dOne (w : World) (v : Nat) (hv : v < 4294967296) (h0 : v ≠ 0) : Dg (w.alloc (.cells #[.int .u64 (v : Int)] 24)) (.slice (some ⟨w.heap.size, 0, none⟩) 1 1) v := by
  have h := rdw_one w v (Nat.lt_trans hv (by decide))
  have hs : (w.alloc (.cells #[.int .u64 (v : Int)] 24)).heap.size = w.heap.size + 1 := by simp
  rw [← hs] at h
  exact ⟨_, 1, [v], rfl, Nat.le_refl _, by simp, h, by intro x hx; simp at hx; omega, Or.inr (by simpa using h0), by simp [val, pv]⟩

end Go.Proofs.YtdepkfdceidikaaDoor
/-
  Rows of slices that a call makes (stacks of digits).
-/
namespace Go.Proofs.YtdepkfdceidikaaDoor
open Go.RowKit
set_option linter.unusedVariables false

def isSl : Value → Bool
  | .slice _ _ _ => true
  | _ => false
theorem isSl_one {v : Value} (h : isSl v = true) : v.oneCell' = true := by
  cases v <;> simp [isSl] at h
  rfl
/-- The slice v owns the slices ds, among the blocks from base on; nothing but slices lies in its block. -/
structure RowV (w : World) (base : Nat) (v : Value) (ds : List Value) : Prop where
  ex : ∃ g cap cur, v = .slice (some ⟨g, 0, none⟩) ds.length cap ∧ base ≤ g ∧ w.heap[g]? = some (.cells cur 32 (0, 0)) ∧ ds.length ≤ cap ∧ cap ≤ maxLen ∧ cur.size = cap ∧ cur.toList.take ds.length = ds ∧ ∀ c ∈ cur.toList, isSl c = true
theorem RowV.kept {w w' : World} {b : Nat} {v : Value} {ds : List Value} {row : Option Nat} (h : RowV w b v ds) (hg : w.grownBy w' row) (hne : v.ownBlock ≠ row) : RowV w' b v ds := by
  obtain ⟨g, cap, cur, rfl, h1, h2, h3⟩ := h.ex
  exact ⟨g, cap, cur, rfl, h1, (hg.block g (Array.getElem?_eq_some_iff.1 h2).1 hne).trans h2, h3⟩
theorem RowV.below {w w' : World} {b : Nat} {v : Value} {ds : List Value} (h : RowV w b v ds) (hb : Below w.heap.size w w') : RowV w' b v ds := by
  refine h.kept (gb_below hb none) ?_
  obtain ⟨g, cap, cur, rfl, _⟩ := h.ex
  simp [Value.ownBlock]
theorem RowV.alloc {w : World} {b : Nat} {v : Value} {ds : List Value} (h : RowV w b v ds) (o : Obj) : RowV (w.alloc o) b v ds := h.below ((Below.refl _ _).alloc (Nat.le_refl _) _)
theorem RowV.mono {w : World} {b b' : Nat} {v : Value} {ds : List Value} (h : RowV w b v ds) (hb : b' ≤ b) : RowV w b' v ds := by
  obtain ⟨g, cap, cur, h0, h1, h2⟩ := h.ex
  exact ⟨g, cap, cur, h0, Nat.le_trans hb h1, h2⟩
theorem RowV.lt {w : World} {b : Nat} {v : Value} {ds : List Value} (h : RowV w b v ds) : ∀ k, v.ownBlock = some k → b ≤ k ∧ k < w.heap.size := by
  obtain ⟨g, cap, cur, rfl, h1, h2, _⟩ := h.ex
  intro k hk
  simp [Value.ownBlock] at hk
  subst hk
  exact ⟨h1, (Array.getElem?_eq_some_iff.1 h2).1⟩
theorem RowV.sl {w : World} {b : Nat} {v : Value} {ds : List Value} (h : RowV w b v ds) : ∀ d ∈ ds, isSl d = true := by
  obtain ⟨g, cap, cur, rfl, h1, h2, h3, h4, h5, h6, h7⟩ := h.ex
  intro d hd
  rw [← h6] at hd
  exact h7 d (List.mem_of_mem_take hd)
theorem RowV.new (w : World) (base : Nat) (hb : base ≤ w.heap.size) : RowV (w.alloc (.cells #[] 32)) base (.slice (some ⟨w.heap.size, 0, none⟩) 0 0) [] :=
  ⟨w.heap.size, 0, #[], rfl, hb, heap_alloc_new w _, Nat.le_refl _, by decide, rfl, rfl, fun c hc => by simp at hc⟩
/-- The cell of the i-th slice. -/
theorem RowV.cell {w : World} {base g n cap : Nat} {ds : List Value} (h : RowV w base (.slice (some ⟨g, 0, none⟩) n cap) ds) (i : Nat) (hi : i < ds.length) : w.cell? ⟨g, i, none⟩ = some (ds.getD i undef) ∧ ∀ j, w.frozen? ⟨g, j, none⟩ = false := by
  obtain ⟨g', cap', cur, e, h1, h2, h3, h4, h5, h6, h7⟩ := h.ex
  injection e with e1 e2 e3
  injection e1 with e1
  injection e1 with e1
  subst e1
  refine ⟨?_, fun j => frozen_of_row w g j cur _ h2⟩
  rw [cell_of_row w g i cur _ (0, 0) h2, List.getD_eq_getElem?_getD]
  have : ds[i]? = cur.toList[i]? := by
    conv => lhs; rw [← h6]
    rw [List.getElem?_take, if_pos hi]
  rw [show cur[i]? = cur.toList[i]? by simp, ← this, List.getElem?_eq_getElem hi]
  rfl
/-- A store into a place of the row. -/
theorem RowV.set {w : World} {base g n cap : Nat} {ds : List Value} (h : RowV w base (.slice (some ⟨g, 0, none⟩) n cap) ds) (i : Nat) (hi : i < ds.length) (d : Value) (hd : isSl d = true) :
    RowV (w.setCell ⟨g, i, none⟩ d) base (.slice (some ⟨g, 0, none⟩) n cap) (ds.set i d) := by
  obtain ⟨g', cap', cur, e, h1, h2, h3, h4, h5, h6, h7⟩ := h.ex
  injection e with e1 e2 e3
  injection e1 with e1
  injection e1 with e1
  subst e1 e2 e3
  refine ⟨g, cap, cur.setIfInBounds i d, by rw [List.length_set], h1, heap_setCell_same w g i cur _ d h2, by rw [List.length_set]; exact h3, h4, by simpa using h5, ?_, ?_⟩
  · rw [List.length_set, Array.toList_setIfInBounds, List.take_set, h6]
  · intro c hc
    rw [Array.toList_setIfInBounds] at hc
    rcases List.mem_or_eq_of_mem_set hc with h | rfl
    · exact h7 c h
    · exact hd
theorem RowV.cut {w : World} {base g n cap : Nat} {ds : List Value} (h : RowV w base (.slice (some ⟨g, 0, none⟩) n cap) ds) (m : Nat) (hm : m ≤ n) : RowV w base (.slice (some ⟨g, 0, none⟩) m cap) (ds.take m) := by
  obtain ⟨g', cap', cur, e, h1, h2, h3, h4, h5, h6, h7⟩ := h.ex
  injection e with e1 e2 e3
  injection e1 with e1
  injection e1 with e1
  subst e1 e2 e3
  have hl : (ds.take m).length = m := by rw [List.length_take]; omega
  refine ⟨g, cap, cur, by rw [hl], h1, h2, by rw [hl]; omega, h4, h5, ?_, h7⟩
  rw [hl, ← h6, List.take_take, Nat.min_eq_left hm]

theorem sl_info : (Tryd.prog.info? 32).map (fun i => (i.zero, i.size, i.bytes)) = some (some (.slice none 0 0), 1, 24) := by kernel_rfl
theorem zeroCells_sl (n : Nat) : ∀ c ∈ (Builtin.zeroCells (Value.slice none 0 0).cells n).toList, isSl c = true := by
  intro c hc
  simp only [Builtin.zeroCells, Value.cells] at hc
  simp at hc
  obtain ⟨i, _, rfl⟩ := hc
  simp [Nat.mod_one, isSl]

theorem run_append_row (w : World) (base : Nat) (ty : TypeId) (v : Value) (ds ms : List Value) (hR : RowV w base v ds) (hms : ∀ m ∈ ms, isSl m = true) (a : Addr) (c : Nat) (hM : 0 < ms.length)
    (hnews : ∀ j u, ms[j]? = some u → w.cell? (a.add j) = some u) (hlen : ds.length + ms.length ≤ 100000) (hbase : base ≤ w.heap.size) :
    ∃ v' w', (Builtin.append_ #[60, 60] ty #[v, .slice (some a) ms.length c]).run Tryd.prog w = .ok v' w' ∧ RowV w' base v' (ds ++ ms) ∧ w.grownBy w' v.ownBlock ∧
      (v'.ownBlock = v.ownBlock ∨ ∃ k, v'.ownBlock = some k ∧ w.heap.size ≤ k) := by
  obtain ⟨i0, hi, hz, hs1, hb⟩ := info_parts sl_info
  obtain ⟨g, cap, cur, rfl, h1, h2, h3, h4, h5, h6, h7⟩ := hR.ex
  have hone : ∀ u ∈ ms, u.oneCell' = true := fun u hu => isSl_one (hms u hu)
  by_cases hroom : ds.length + ms.length ≤ cap
  · have hr := run_append_room (P := Tryd.prog) w 60 ty 32 i0 Tryd.underlying60 hi g ds.length cap cur h2 a ms.length c ms (by rw [hs1]; omega) hnews hone hroom (by rw [hs1]; omega)
    refine ⟨_, _, hr, ⟨g, cap, _, by rw [List.length_append], h1, setRow_heap w g cur _ _ _ h2, by rw [List.length_append]; exact hroom, h4, ?_, ?_, ?_⟩, ⟨rfl, rfl, rfl, by simp, fun k _ hk => setRow_other w g k _ (fun e => hk (by simp [Value.ownBlock, e]))⟩, Or.inl rfl⟩
    · rw [hs1]
      simp only [List.size_toArray, List.length_append, List.length_take, List.length_drop, Array.length_toList]
      omega
    · rw [hs1, Nat.mul_one, h6]
      rw [List.take_append_of_le_length (by simp), List.take_of_length_le (by simp)]
    · intro x hx
      simp only [List.mem_append] at hx
      rcases hx with (hx | hx) | hx
      · exact h7 x (List.mem_of_mem_take hx)
      · exact hms x hx
      · exact h7 x (List.mem_of_mem_drop hx)
  · have holds : ∀ j u, ds[j]? = some u → w.cell? ((⟨g, 0, none⟩ : Addr).add j) = some u := by
      intro j u hj
      have hjl := (List.getElem?_eq_some_iff.1 hj).1
      have := (hR.cell j hjl).1
      rw [add_flat, Nat.zero_add, this, List.getD_eq_getElem?_getD, hj]
      rfl
    have hr := run_append_grow (P := Tryd.prog) w 60 ty 32 i0 _ Tryd.underlying60 hi hz ⟨g, 0, none⟩ ds.length cap ds (by rw [hs1]; omega) holds a ms.length c ms (by rw [hs1]; omega) hnews (by omega) (by omega)
      (by rw [hb]; have := nextslicecap_le (need := ds.length + ms.length) (old := cap) (by omega); omega)
    have hge := grownCap_ge w (ds.length + ms.length) cap 32
    refine ⟨_, _, hr, ⟨w.heap.size, _, _, by rw [List.length_append], hbase, heap_alloc_new w.drew _, by rw [List.length_append]; exact hge, grownCap_le_maxLen w _ _ _ (by unfold maxLen; omega), ?_, ?_, ?_⟩, gb_below (((Below.refl _ _).drew).alloc (Nat.le_refl _) _) _, Or.inr ⟨_, rfl, Nat.le_refl _⟩⟩
    · simp only [Array.size_append, List.size_toArray, size_zeroCells]
      rw [show (Value.slice none 0 0).cells.size = 1 from rfl]
      omega
    · simp only [Array.toList_append]
      rw [List.take_append_of_le_length (by simp), List.take_of_length_le (by simp)]
    · intro x hx
      simp only [Array.toList_append, List.mem_append] at hx
      rcases hx with (hx | hx) | hx
      · exact hR.sl x hx
      · exact hms x hx
      · exact zeroCells_sl _ x hx
end Go.Proofs.YtdepkfdceidikaaDoor
/-
  avouchref02.Of gives new memory; avouchlaw03.first: what the call does.
-/
namespace Go.Proofs.YtdepkfdceidikaaDoor
open Go.RowKit
set_option linter.unusedVariables false

/-- What came back lies in memory that was not there before. -/
def Fresh (w : World) (e : Ending) : Prop := ∃ A m c, e = .returned (.slice A m c) ∧ ∀ a : Addr, A = some a → w.heap.size ≤ a.block

/-- A stack of digits, as it is handed on. -/
structure Digs (w : World) (v : Value) (Xs : List Nat) : Prop where
  ex : ∃ A c, v = .slice A Xs.length c ∧ Xs.length ≤ c ∧ c ≤ maxLen ∧ (0 < Xs.length → ∃ b, A = some ⟨b, 0, none⟩ ∧ b < w.heap.size ∧ ∀ i, i < Xs.length → ∃ d, isSl d = true ∧ w.cell? ⟨b, i, none⟩ = some d ∧ Dg w d (Xs.getD i 0))
theorem Digs.up {w w' : World} {v : Value} {Xs : List Nat} (h : Digs w v Xs) (hb : Below w.heap.size w w') : Digs w' v Xs := by
  obtain ⟨A, c, h1, h2, h3, h4⟩ := h.ex
  refine ⟨A, c, h1, h2, h3, fun h0 => ?_⟩
  obtain ⟨b, e, hbB, hc⟩ := h4 h0
  refine ⟨b, e, Nat.lt_of_lt_of_le hbB hb.size, fun i hi => ?_⟩
  obtain ⟨d, q1, q2, q3⟩ := hc i hi
  exact ⟨d, q1, (hb.cell (p := ⟨b, i, none⟩) hbB).trans q2, q3.up hb⟩
theorem Dg.sl {w : World} {d : Value} {X : Nat} (h : Dg w d X) : isSl d = true := by
  obtain ⟨A, c, l, rfl, _⟩ := h.ex
  rfl
/-- Digits do not change where a block changes that holds none. -/
theorem Dg.kept {w w' : World} {d : Value} {X : Nat} {row : Option Nat} (h : Dg w d X) (hg : w.grownBy w' row) (hs : ∀ a n c, d = .slice (some a) n c → 0 < n → some a.block ≠ row) : Dg w' d X := by
  obtain ⟨A, c, l, rfl, h1, h2, h3, h4⟩ := h.ex
  refine ⟨A, c, l, rfl, h1, h2, ⟨h3.len, h3.lt, fun h0 => ?_⟩, h4⟩
  obtain ⟨b, off, e, hb, hc⟩ := h3.cells h0
  refine ⟨b, off, e, Nat.lt_of_lt_of_le hb hg.size, fun i hi => ?_⟩
  have hne := hs ⟨b, off, none⟩ l.length c (by rw [e]) h0
  exact (World.cell?_of_block (a := ⟨b, off + i, none⟩) (hg.block b hb hne)).trans (hc i hi)
/-- Digits lie in no block of slices. -/
theorem Dg.off {w : World} {d : Value} {X base : Nat} {v : Value} {ds : List Value} (h : Dg w d X) (hr : RowV w base v ds) : ∀ a n c, d = .slice (some a) n c → 0 < n → some a.block ≠ v.ownBlock := by
  intro a n c e hn
  obtain ⟨A, c', l, rfl, h1, h2, h3, h4⟩ := h.ex
  injection e with e1 e2 e3
  subst e1 e2
  obtain ⟨b, off, e, hb, hc⟩ := h3.cells hn
  injection e with e
  subst e
  obtain ⟨g, cap, cur, rfl, g1, g2, g3, g4, g5, g6, g7⟩ := hr.ex
  intro e
  simp only [Value.ownBlock, Option.some.injEq] at e
  subst e
  have := hc 0 hn
  rw [cell_of_row w b (off + 0) cur _ (0, 0) g2] at this
  have hm : (.int .u64 (at64 l 0) : Value) ∈ cur.toList := by
    rw [Array.mem_toList_iff]
    exact Array.mem_of_getElem? this
  have := g7 _ hm
  simp [isSl] at this

/-- All of a row's slices are digits. -/
def AllD (w : World) (ds : List Value) (Xs : List Nat) : Prop := ds.length = Xs.length ∧ ∀ i, i < Xs.length → Dg w (ds.getD i undef) (Xs.getD i 0)
theorem AllD.up {w w' : World} {ds : List Value} {Xs : List Nat} (h : AllD w ds Xs) (hb : Below w.heap.size w w') : AllD w' ds Xs := ⟨h.1, fun i hi => (h.2 i hi).up hb⟩
theorem AllD.snoc {w : World} {ds : List Value} {Xs : List Nat} (h : AllD w ds Xs) {d : Value} {X : Nat} (hd : Dg w d X) : AllD w (ds ++ [d]) (Xs ++ [X]) := by
  refine ⟨by simp [h.1], fun i hi => ?_⟩
  by_cases hlt : i < Xs.length
  · have e1 : (ds ++ [d]).getD i undef = ds.getD i undef := by simp [List.getD_eq_getElem?_getD, List.getElem?_append_left (show i < ds.length by rw [h.1]; exact hlt)]
    have e2 : (Xs ++ [X]).getD i 0 = Xs.getD i 0 := by simp [List.getD_eq_getElem?_getD, List.getElem?_append_left hlt]
    rw [e1, e2]
    exact h.2 i hlt
  · have : i = Xs.length := by simp at hi; omega
    subst this
    have e1 : (ds ++ [d]).getD Xs.length undef = d := by rw [← h.1]; simp [List.getD_eq_getElem?_getD]
    have e2 : (Xs ++ [X]).getD Xs.length 0 = X := getD_top Xs X
    rw [e1, e2]
    exact hd
theorem AllD.take {w : World} {ds : List Value} {Xs : List Nat} (h : AllD w ds Xs) (m : Nat) : AllD w (ds.take m) (Xs.take m) := by
  refine ⟨by rw [List.length_take, List.length_take, h.1], fun i hi => ?_⟩
  rw [List.length_take] at hi
  have hm : i < m := by omega
  have e1 : (ds.take m).getD i undef = ds.getD i undef := by simp [List.getD_eq_getElem?_getD, hm]
  have e2 : (Xs.take m).getD i 0 = Xs.getD i 0 := by simp [List.getD_eq_getElem?_getD, hm]
  rw [e1, e2]
  exact h.2 i (by omega)
theorem AllD.set {w : World} {ds : List Value} {Xs : List Nat} (h : AllD w ds Xs) (k : Nat) {d : Value} {X : Nat} (hd : Dg w d X) : AllD w (ds.set k d) (Xs.set k X) := by
  refine ⟨by rw [List.length_set, List.length_set, h.1], fun i hi => ?_⟩
  rw [List.length_set] at hi
  have hi2 : i < ds.length := by rw [h.1]; exact hi
  by_cases hk : k = i
  · subst hk
    rw [show (ds.set k d).getD k undef = d by simp [List.getD_eq_getElem?_getD, hi2], show (Xs.set k X).getD k 0 = X by simp [List.getD_eq_getElem?_getD, hi]]
    exact hd
  · rw [show (ds.set k d).getD i undef = ds.getD i undef by simp [List.getD_eq_getElem?_getD, List.getElem?_set_ne hk], show (Xs.set k X).getD i 0 = Xs.getD i 0 by simp [List.getD_eq_getElem?_getD, List.getElem?_set_ne hk]]
    exact h.2 i hi
theorem AllD.kept {w w' : World} {base : Nat} {v : Value} {es ds : List Value} {Xs : List Nat} (h : AllD w ds Xs) (hr : RowV w base v es) (hg : w.grownBy w' v.ownBlock) : AllD w' ds Xs :=
  ⟨h.1, fun i hi => (h.2 i hi).kept hg (fun a n c e hn => (h.2 i hi).off hr a n c e hn)⟩
theorem RowV.digs {w : World} {base : Nat} {v : Value} {ds : List Value} {Xs : List Nat} (h : RowV w base v ds) (hd : AllD w ds Xs) : Digs w v Xs := by
  obtain ⟨g, cap, cur, e, h1, h2, h3, h4, h5⟩ := h.ex
  subst e
  refine ⟨some ⟨g, 0, none⟩, cap, by rw [← hd.1], by rw [← hd.1]; exact h3, h4, fun _ => ⟨g, rfl, (Array.getElem?_eq_some_iff.1 h2).1, fun i hi => ⟨ds.getD i undef, ?_, (h.cell i (by rw [hd.1]; exact hi)).1, hd.2 i hi⟩⟩⟩
  exact (hd.2 i hi).sl
theorem Digs.nil (w : World) : Digs w (.slice none 0 0) [] := ⟨none, 0, rfl, Nat.le_refl _, by decide, fun h => absurd h (by decide)⟩

/-- append of one slice that was just laid out. -/
theorem app_row {ops : Array Oper} {rest : List Oper} {o : Oper} {a : Act} {Q : Exit → Act → World → Prop} {w : World} (hgd : o.guard = none) (s x : Operand)
    (ho : o.op = .call { callee := .builtin .append, args := #[s, x], argTypes := #[60, 60] })
    (v : Value) (base : Nat) (ds : List Value) (d : Value) (hs : a.eval s = v) (hx : a.eval x = .slice (some ⟨w.heap.size, 0, none⟩) 1 1) (hR : RowV w base v ds) (hl : ds.length ≤ 1000) (hbase : base ≤ w.heap.size) (hd : isSl d = true)
    (h : ∀ v' w', RowV w' base v' (ds ++ [d]) → Moved w w' v v' → wpList Tryd.prog ops Q rest (a.put o.dst v') w') :
    wpList Tryd.prog ops Q (o :: rest) a (w.alloc (.cells #[d] 32)) := by
  refine wpList_plain hgd fun K hK => ?_
  have hb1 : Below w.heap.size w (w.alloc (.cells #[d] 32)) := (Below.refl _ _).alloc (Nat.le_refl _) _
  obtain ⟨v', w', hr, g2, g3, g4⟩ := run_append_row (w.alloc (.cells #[d] 32)) base o.type v ds [d] (hR.alloc _) (fun m hm => by rw [List.mem_singleton.1 hm]; exact hd) ⟨w.heap.size, 0, none⟩ 1 (by simp)
    (fun j u hj => by
      rw [add_flat, Nat.zero_add, cell_of_row _ _ j _ _ (0, 0) (heap_alloc_new w _), ← hj]
      simp) (by simp; omega) (by simp; omega)
  unfold Oper.wp execOp
  simp only [List.length_cons, List.length_nil, Nat.zero_add] at hr
  simp only [ho, resolve, invoke, builtin, Sem.run_bind, Sem.run_pure, Result.andThen_ok, List.map_toArray, List.map_cons, List.map_nil, hs, hx, hr]
  exact hK _ _ (h v' w' g2 (Moved.pre ⟨g3, g4⟩ hb1))
end Go.Proofs.YtdepkfdceidikaaDoor
