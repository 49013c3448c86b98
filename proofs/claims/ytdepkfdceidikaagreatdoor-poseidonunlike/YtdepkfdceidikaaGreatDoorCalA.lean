/-
  Piles: rows of field elements that a call owns and changes where they lie (calc's pile).
-/
import Derived.Test.YtdepkfdceidikaaGreatDoorFSumB
namespace Go.Proofs.YtdepkfdceidikaaGreatDoor
open Go.RowKit
set_option linter.unusedVariables false

theorem gb_refl (w : World) (r : Option Nat) : w.grownBy w r := ⟨rfl, rfl, rfl, Nat.le_refl _, fun _ _ _ => rfl⟩
theorem gb_trans {a b c : World} {r : Option Nat} (h : a.grownBy b r) (k : b.grownBy c r) : a.grownBy c r :=
  ⟨k.os.trans h.os, k.tape.trans h.tape, k.output.trans h.output, Nat.le_trans h.size k.size, fun i hi hne => (k.block i (Nat.lt_of_lt_of_le hi h.size) hne).trans (h.block i hi hne)⟩
theorem gb_below {a b : World} (h : Below a.heap.size a b) (r : Option Nat) : a.grownBy b r := ⟨h.os, h.tape, h.output, h.size, fun k hk _ => h.block k hk⟩
theorem gb_drew {a b : World} {r : Option Nat} (h : a.grownBy b r) : a.grownBy b.drew r := ⟨h.os, h.tape, h.output, h.size, h.block⟩
theorem gb_set {a b : World} {g : Nat} (h : a.grownBy b (some g)) (i : Nat) (u : Value) : a.grownBy (b.setCell ⟨g, i, none⟩ u) (some g) :=
  ⟨h.os, h.tape, h.output, by simpa [World.setCell] using h.size, fun k hk hne => by
    rw [Below.heap_setCell _ _ _ _ (fun e => hne (by simp [e]))]
    exact h.block k hk hne⟩
/-- Behind a call that took one elsewhere. -/
theorem gb_then {a b c : World} {r s : Option Nat} (h : a.grownBy b r) (k : b.grownBy c s) (hs : s = r ∨ ∃ j, s = some j ∧ a.heap.size ≤ j) : a.grownBy c r :=
  ⟨k.os.trans h.os, k.tape.trans h.tape, k.output.trans h.output, Nat.le_trans h.size k.size, fun i hi hne =>
    (k.block i (Nat.lt_of_lt_of_le hi h.size) (by
      rcases hs with e | ⟨j, e, hj⟩
      · rw [e]; exact hne
      · rw [e]; intro e2; injection e2 with e2; omega)).trans (h.block i hi hne)⟩

theorem flat_set (L : List Qd) : ∀ (i : Nat) (q : Qd), i < L.length →
    ((((flat L).set (i * 4) (.int .u64 q.1)).set (i * 4 + 1) (.int .u64 q.2.1)).set (i * 4 + 2) (.int .u64 q.2.2.1)).set (i * 4 + 3) (.int .u64 q.2.2.2.1) = flat (L.set i q) := by
  induction L with
  | nil => intro i q h; simp at h
  | cons p L ih =>
    intro i q h
    cases i with
    | zero => simp [flat, qc, List.set]
    | succ i =>
      have := ih i q (by simpa using h)
      simp only [flat, List.set_cons_succ]
      rw [← this]
      have e : ∀ (j : Nat) (u : Value) (l : List Value), (qc p ++ l).set ((i + 1) * 4 + j) u = qc p ++ l.set (i * 4 + j) u := by
        intro j u l
        rw [List.set_append_right _ _ (by simp [qc]; omega)]
        congr 2
        simp [qc]; omega
      have e0 := e 0
      simp only [Nat.add_zero] at e0
      rw [e0, e 1, e 2, e 3]
theorem flat_take (L : List Qd) : ∀ n, (flat L).take (n * 4) = flat (L.take n) := by
  induction L with
  | nil => intro n; simp [flat]
  | cons p L ih =>
    intro n
    cases n with
    | zero => simp [flat]
    | succ n =>
      simp only [flat, List.take_succ_cons]
      rw [List.take_append, List.take_of_length_le (by simp [qc]; omega), ← ih n]
      congr 2
      simp [qc]; omega

/-- The slice v is the pile of the numbers xs, in a block of its owner's, from base on. -/
structure Pile (w : World) (base : Nat) (v : Value) (xs : List Nat) : Prop where
  ex : ∃ L : List Qd, OwnE w base v L ∧ (∀ q ∈ L, El (qv q) (qn q)) ∧ L.map qn = xs
theorem Pile.mono {w : World} {b b' : Nat} {v : Value} {xs : List Nat} (h : Pile w b v xs) (hb : b' ≤ b) : Pile w b' v xs := by
  obtain ⟨L, h1, h2, h3⟩ := h.ex
  exact ⟨L, OwnE.mono h1 hb, h2, h3⟩
theorem Pile.lt {w : World} {b : Nat} {v : Value} {xs : List Nat} (h : Pile w b v xs) : ∀ k, v.ownBlock = some k → b ≤ k ∧ k < w.heap.size := by
  obtain ⟨L, h1, h2, h3⟩ := h.ex
  exact h1.lt
theorem Pile.kept {w w' : World} {b : Nat} {v : Value} {xs : List Nat} {row : Option Nat} (h : Pile w b v xs) (hg : w.grownBy w' row) (hne : v.ownBlock = none ∨ v.ownBlock ≠ row) : Pile w' b v xs := by
  obtain ⟨L, h1, h2, h3⟩ := h.ex
  exact ⟨L, h1.kept hg hne, h2, h3⟩
theorem Pile.below {w w' : World} {b : Nat} {v : Value} {xs : List Nat} (h : Pile w b v xs) (hb : Below w.heap.size w w') : Pile w' b v xs :=
  h.kept (gb_below hb none) (by cases hv : v.ownBlock <;> simp)
theorem Pile.alloc {w : World} {b : Nat} {v : Value} {xs : List Nat} (h : Pile w b v xs) (o : Obj) : Pile (w.alloc o) b v xs := h.below ((Below.refl _ _).alloc (Nat.le_refl _) _)
theorem Pile.drew {w : World} {b : Nat} {v : Value} {xs : List Nat} (h : Pile w b v xs) : Pile w.drew b v xs := h.below (Below.refl _ _).drew
theorem Pile.el {w : World} {b : Nat} {v : Value} {xs : List Nat} (h : Pile w b v xs) : ∀ x ∈ xs, x < pN := by
  obtain ⟨L, h1, h2, h3⟩ := h.ex
  intro x hx
  rw [← h3] at hx
  obtain ⟨q, hq, rfl⟩ := List.mem_map.1 hx
  exact (h2 q hq).lt
theorem Pile.form {w : World} {b : Nat} {v : Value} {xs : List Nat} (h : Pile w b v xs) : ∃ A c, v = .slice A xs.length c ∧ xs.length ≤ c ∧ c ≤ maxLen ∧ RdE w w.heap.size A xs.length xs := by
  obtain ⟨L, h1, h2, h3⟩ := h.ex
  subst h3
  rw [List.length_map]
  exact OwnE.rd h1 h2
/-- A pile that has something lies in a block. -/
theorem Pile.at_ {w : World} {b : Nat} {v : Value} {xs : List Nat} (h : Pile w b v xs) (i : Nat) (hi : i < xs.length) :
    ∃ g cap, v = .slice (some ⟨g, 0, none⟩) xs.length cap ∧ xs.length ≤ cap ∧ cap ≤ maxLen ∧ b ≤ g ∧ g < w.heap.size ∧ (∀ j, w.frozen? ⟨g, j, none⟩ = false) ∧ ∃ r0 r1 r2 r3 : Int, El (w4 r0 r1 r2 r3) (xs.getD i 0) ∧
      w.cell? ⟨g, i * 4, none⟩ = some (.int .u64 r0) ∧ w.cell? ⟨g, i * 4 + 1, none⟩ = some (.int .u64 r1) ∧ w.cell? ⟨g, i * 4 + 2, none⟩ = some (.int .u64 r2) ∧ w.cell? ⟨g, i * 4 + 3, none⟩ = some (.int .u64 r3) := by
  obtain ⟨A, c, hv, hc, hm, hr⟩ := h.form
  obtain ⟨b', off, e, hb', hcell⟩ := hr.cells (by omega)
  obtain ⟨L, h1, h2, h3⟩ := h.ex
  rcases h1.2 with ⟨hn, h0⟩ | ⟨g, cap, cur, hv2, hbg, hg, _⟩
  · rw [← h3] at hi; simp at hi; omega
  · have hfr := h1
    rw [hv2] at hfr
    have hz := fun j => World.ownsRow.frozenAt hfr j
    rw [hv] at hv2
    injection hv2 with e1 e2 e3
    subst e3
    rw [e1] at hv
    rw [e] at e1
    injection e1 with e1
    injection e1 with e4 e5 e6
    subst e4 e5
    obtain ⟨r0, r1, r2, r3, q0, q1, q2, q3, q4⟩ := hcell i hi
    simp only [Nat.zero_add] at q1 q2 q3 q4
    exact ⟨b', c, hv, hc, hm, hbg, hb', hz, r0, r1, r2, r3, q0, q1, q2, q3, q4⟩
/-- A store into a pile's place. -/
theorem Pile.set {w : World} {b g n cap : Nat} {xs : List Nat} (h : Pile w b (.slice (some ⟨g, 0, none⟩) n cap) xs) (i : Nat) (hi : i < xs.length) {r0 r1 r2 r3 : Int} {y : Nat} (hy : El (w4 r0 r1 r2 r3) y) :
    Pile ((((w.setCell ⟨g, i * 4, none⟩ (.int .u64 r0)).setCell ⟨g, i * 4 + 1, none⟩ (.int .u64 r1)).setCell ⟨g, i * 4 + 2, none⟩ (.int .u64 r2)).setCell ⟨g, i * 4 + 3, none⟩ (.int .u64 r3)) b (.slice (some ⟨g, 0, none⟩) n cap) (xs.set i y) := by
  obtain ⟨L, h1, h2, h3⟩ := h.ex
  have hn : n = L.length := by
    rcases h1.2 with ⟨hn, h0⟩ | ⟨g, cap, cur, hv2, _⟩
    · cases hn
    · injection hv2 with _ e _
  subst hn
  have s0 := (World.ownsRow.stored h1 (i * 4) (.int .u64 r0)).1
  have s1 := (World.ownsRow.stored s0 (i * 4 + 1) (.int .u64 r1)).1
  have s2 := (World.ownsRow.stored s1 (i * 4 + 2) (.int .u64 r2)).1
  have s3 := (World.ownsRow.stored s2 (i * 4 + 3) (.int .u64 r3)).1
  have hil : i < L.length := by rw [← h3] at hi; simpa using hi
  have e := flat_set L i (r0, r1, r2, r3, y) hil
  simp only at e
  rw [e] at s3
  refine ⟨L.set i (r0, r1, r2, r3, y), ?_, ?_, ?_⟩
  · show World.ownsRow _ _ _ _ _ (L.set i _).length _
    rw [List.length_set]
    exact s3
  · intro q hq
    rcases List.mem_or_eq_of_mem_set hq with h | rfl
    · exact h2 q h
    · exact hy
  · rw [List.map_set, h3]; rfl
theorem gb_set4 {a w : World} {g : Nat} (h : a.grownBy w (some g)) (i0 i1 i2 i3 : Nat) (u0 u1 u2 u3 : Value) :
    a.grownBy ((((w.setCell ⟨g, i0, none⟩ u0).setCell ⟨g, i1, none⟩ u1).setCell ⟨g, i2, none⟩ u2).setCell ⟨g, i3, none⟩ u3) (some g) := gb_set (gb_set (gb_set (gb_set h _ _) _ _) _ _) _ _
/-- The lower part of a pile. -/
theorem Pile.cut {w : World} {b g n cap : Nat} {xs : List Nat} (h : Pile w b (.slice (some ⟨g, 0, none⟩) n cap) xs) (m : Nat) (hm : m ≤ n) : Pile w b (.slice (some ⟨g, 0, none⟩) m cap) (xs.take m) := by
  obtain ⟨L, h1, h2, h3⟩ := h.ex
  rcases h1.2 with ⟨hn, h0⟩ | ⟨g', cap', cur, hv2, hbg, hg, hc, hcm, hcs, ht⟩
  · cases hn
  · injection hv2 with e1 e2 e3
    injection e1 with e1
    injection e1 with e1
    subst e1 e3 e2
    refine ⟨L.take m, ⟨?_, Or.inr ⟨g, cap, cur, ?_, hbg, hg, ?_, hcm, hcs, ?_⟩⟩, fun q hq => h2 q (List.mem_of_mem_take hq), by rw [List.map_take, h3]⟩
    · rw [flat_length]
    · rw [List.length_take, Nat.min_eq_left hm]
    · rw [List.length_take, Nat.min_eq_left hm]; omega
    · rw [List.length_take, Nat.min_eq_left hm, ← flat_take, ← ht, List.take_take, Nat.min_eq_left (by omega)]

/-- append onto an own row of elements, of whichever type of slices: where the new row lies. -/
theorem run_append_elt (tS : TypeId) (hu : Tryz.prog.underlying tS = some (.slice 37)) (w : World) (base : Nat) (ty : TypeId) (v : Value) (L M : List Qd) (hown : OwnE w base v L) (a : Addr) (c : Nat) (hM : 0 < M.length)
    (hnews : ∀ j u, (flat M)[j]? = some u → w.cell? (a.add j) = some u) (hlen : L.length + M.length ≤ 1000000) (hbase : base ≤ w.heap.size) :
    ∃ v' w', (Builtin.append_ #[tS, tS] ty #[v, .slice (some a) M.length c]).run Tryz.prog w = .ok v' w' ∧ OwnE w' base v' (L ++ M) ∧ w.grownBy w' v.ownBlock ∧
      (v'.ownBlock = v.ownBlock ∨ ∃ k, v'.ownBlock = some k ∧ w.heap.size ≤ k) := by
  obtain ⟨i0, hi, hz, hs1, hb⟩ := info_parts el_info
  have hML : (flat M).length = M.length * 4 := flat_length M
  rcases hown.2 with ⟨rfl, hn⟩ | ⟨g, cap, cur, rfl, hbg, hg, hnc, hcm, hcs, htake⟩
  · have hL : L = [] := List.eq_nil_of_length_eq_zero hn
    subst hL
    obtain ⟨v', w', h1, h2, h3, h4⟩ := run_append_own (P := Tryz.prog) w w.heap.size tS ty 37 i0 _ 4 32 hu hi hz hs1 hb rfl (by decide) (.slice none 0 0) 0 [] (World.ownsRow_nil w _ _ 4) a M.length c (flat M) hML hnews (flat_one M) (by unfold maxLen; omega) (by omega) (Nat.le_refl _)
    rw [Nat.zero_add, List.nil_append] at h2
    refine ⟨v', w', h1, OwnE.mono (L := M) h2 hbase, h3, Or.inr ?_⟩
    rcases h2.2 with ⟨rfl, h0⟩ | ⟨g, cap, cur, rfl, hbg, _⟩
    · omega
    · exact ⟨g, rfl, hbg⟩
  · obtain ⟨v', w', h1, h2, h3, h4⟩ := run_append_own (P := Tryz.prog) w base tS ty 37 i0 _ 4 32 hu hi hz hs1 hb rfl (by decide) _ L.length (flat L) hown a M.length c (flat M) hML hnews (flat_one M) (by unfold maxLen; omega) (by omega) hbase
    refine ⟨v', w', h1, ?_, h3, ?_⟩
    · show World.ownsRow _ _ _ _ _ (L ++ M).length _
      rw [flat_append, List.length_append]
      exact h2
    · by_cases hroom : L.length + M.length ≤ cap
      · obtain ⟨w'', h5, _, _⟩ := run_append_fits (P := Tryz.prog) w base tS ty 37 i0 4 hu hi hs1 g L.length cap (flat L) hown a M.length c (flat M) hML hnews (flat_one M) hroom
        rw [h1] at h5
        simp only [Result.ok.injEq] at h5
        rw [h5.1]
        exact Or.inl rfl
      · have h6 := run_append_grow (P := Tryz.prog) w tS ty 37 i0 _ hu hi hz ⟨g, 0, none⟩ L.length cap (flat L) (by rw [hs1]; exact flat_length L) (hown.cells rfl) a M.length c (flat M) (by rw [hs1]; exact hML) hnews (by omega) (by omega)
          (by rw [hb]; have := nextslicecap_le (need := L.length + M.length) (old := cap) (by omega); omega)
        rw [h1] at h6
        simp only [Result.ok.injEq] at h6
        rw [h6.1]
        exact Or.inr ⟨_, rfl, Nat.le_refl _⟩

/-- What became of a pile v that a call took: it is v' now; nothing else that was there has changed. -/
structure Moved (w w' : World) (v v' : Value) : Prop where
  gb : w.grownBy w' v.ownBlock
  own : v'.ownBlock = v.ownBlock ∨ ∃ k, v'.ownBlock = some k ∧ w.heap.size ≤ k
theorem Moved.pre {w w1 w' : World} {v v' : Value} (h : Moved w1 w' v v') (hb : Below w.heap.size w w1) : Moved w w' v v' :=
  ⟨gb_trans (gb_below hb _) h.gb, by
    rcases h.own with e | ⟨k, e, hk⟩
    · exact Or.inl e
    · exact Or.inr ⟨k, e, Nat.le_trans hb.size hk⟩⟩
theorem Moved.below {w w' : World} {b : Nat} {v v' : Value} {xs : List Nat} (h : Moved w w' v v') (hp : Pile w b v xs) (hb : b ≤ w.heap.size) : Below b w w' :=
  (Below.refl b w).grown h.gb hb (fun k hk => (hp.lt k hk).1)

/-- append of one element that was just laid out. -/
theorem app_pile {ops : Array Oper} {rest : List Oper} {o : Oper} {a : Act} {Q : Exit → Act → World → Prop} {w : World} (hgd : o.guard = none) (s x : Operand) (tS : TypeId) (hu : Tryz.prog.underlying tS = some (.slice 37))
    (ho : o.op = .call { callee := .builtin .append, args := #[s, x], argTypes := #[tS, tS] })
    (v : Value) (base : Nat) (xs : List Nat) (r0 r1 r2 r3 : Int) (y : Nat) (hs : a.eval s = v) (hx : a.eval x = .slice (some ⟨w.heap.size, 0, none⟩) 1 1) (hP : Pile w base v xs) (hl : xs.length ≤ 1000) (hbase : base ≤ w.heap.size)
    (hy : El (w4 r0 r1 r2 r3) y)
    (h : ∀ v' w', Pile w' base v' (xs ++ [y]) → Moved w w' v v' → wpList Tryz.prog ops Q rest (a.put o.dst v') w') :
    wpList Tryz.prog ops Q (o :: rest) a (w.alloc (.cells #[.int .u64 r0, .int .u64 r1, .int .u64 r2, .int .u64 r3] 37)) := by
  refine wpList_plain hgd fun K hK => ?_
  obtain ⟨L, h1, h2, h3⟩ := hP.ex
  have hll : L.length = xs.length := by rw [← h3, List.length_map]
  have hb1 : Below w.heap.size w (w.alloc (.cells #[.int .u64 r0, .int .u64 r1, .int .u64 r2, .int .u64 r3] 37)) := (Below.refl _ _).alloc (Nat.le_refl _) _
  obtain ⟨v', w', hr, g2, g3, g4⟩ := run_append_elt tS hu (w.alloc (.cells #[.int .u64 r0, .int .u64 r1, .int .u64 r2, .int .u64 r3] 37)) base o.type v L [(r0, r1, r2, r3, y)] (h1.alloc _) ⟨w.heap.size, 0, none⟩ 1 (by simp)
    (lit_cells w (r0, r1, r2, r3, y)) (by simp; omega) (by simp; omega)
  have hM : Pile w' base v' (xs ++ [y]) := by
    refine ⟨L ++ [(r0, r1, r2, r3, y)], g2, ?_, ?_⟩
    · intro q hq
      rcases List.mem_append.1 hq with h | h
      · exact h2 q h
      · rw [List.mem_singleton.1 h]; exact hy
    · rw [List.map_append, h3]; rfl
  unfold Oper.wp execOp
  simp only [List.length_cons, List.length_nil, Nat.zero_add] at hr
  simp only [ho, resolve, invoke, builtin, Sem.run_bind, Sem.run_pure, Result.andThen_ok, List.map_toArray, List.map_cons, List.map_nil, hs, hx, hr]
  exact hK _ _ (h v' w' hM (Moved.pre ⟨g3, g4⟩ hb1))

theorem getD_top (xs : List Nat) (x : Nat) : (xs ++ [x]).getD xs.length 0 = x := by simp [List.getD_eq_getElem?_getD]
theorem getD_low (xs : List Nat) (x y : Nat) : (xs ++ [x, y]).getD xs.length 0 = x := by simp [List.getD_eq_getElem?_getD]
theorem getD_top2 (xs : List Nat) (x y : Nat) : (xs ++ [x, y]).getD (xs.length + 1) 0 = y := by simp [List.getD_eq_getElem?_getD]
theorem set_top (xs : List Nat) (x z : Nat) : (xs ++ [x]).set xs.length z = xs ++ [z] := by rw [List.set_append_right _ _ (Nat.le_refl _)]; simp
theorem set_low (xs : List Nat) (x y z : Nat) : (xs ++ [x, y]).set xs.length z = xs ++ [z, y] := by rw [List.set_append_right _ _ (Nat.le_refl _)]; simp
theorem set_top2 (xs : List Nat) (x y z : Nat) : (xs ++ [x, y]).set (xs.length + 1) z = xs ++ [x, z] := by rw [List.set_append_right _ _ (by omega)]; simp
end Go.Proofs.YtdepkfdceidikaaGreatDoor
