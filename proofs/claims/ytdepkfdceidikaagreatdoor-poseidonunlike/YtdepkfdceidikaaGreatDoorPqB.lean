import Derived.Test.YtdepkfdceidikaaGreatDoorCalC
import Derived.Test.YtdepkfdceidikaaGreatDoorMnE
import Derived.Test.YtdepkfdceidikaaGreatDoorHrE
import Derived.Test.YtdepkfdceidikaaGreatDoorHrN
/-
  avouchref10.New: what the call does; rows that begin as nil.
-/
namespace Go.Proofs.YtdepkfdceidikaaGreatDoor
open Go.RowKit
set_option linter.unusedVariables false
set_option linter.unusedSimpArgs false


/-- 80 bits as cells, not laid open. -/
noncomputable def bls (s : Nat) : List Value := Classical.choose (p := fun l : List Value => l = bcell 80 s.testBit) ⟨_, rfl⟩
theorem bls_eq (s : Nat) : bls s = bcell 80 s.testBit := Classical.choose_spec (p := fun l : List Value => l = bcell 80 s.testBit) ⟨_, rfl⟩
theorem bls_len (s : Nat) : (bls s).length = 80 := by rw [bls_eq]; exact bcell_len 80 _
theorem rg_bls (s : Nat) : rg s = .agg (bls s).toArray := by rw [bls_eq]; rfl
theorem bls_all (s : Nat) : (bls s).toArray.all (·.oneCell') = true := by rw [bls_eq]; exact all_oneCell_toArray (bcell_one 80 _)
theorem sizeBA (s : Nat) : (Tryz.prog.info? 77).map (·.size) = some (bls s).toArray.size := by rw [bls_eq]; exact sizeR_s s
theorem sizeB (s : Nat) : (Tryz.prog.info? 77).map (·.size) = some (bls s).length := by rw [bls_eq]; exact sizeR_s s
theorem zeroB (v : World) : (zeroValue 77).run Tryz.prog v = .ok (.agg (bls 0).toArray) v := by rw [bls_eq]; exact zeroR v
abbrev BS (w : World) (b s : Nat) : Prop := BlkV w b 77 (bls s)
theorem BS.there {w : World} {b s : Nat} (h : BS w b s) (y : Nat) : w.there b 0 (bls y).toArray.size := by
  rw [List.size_toArray, bls_len]
  exact BlkV.there h 0 80 (by rw [bls_len]; decide)
theorem BS.lay {w : World} {b s : Nat} (h : BS w b s) (y : Nat) : BS (w.setCells b 0 (bls y)) b y := BlkV.whole (bls y) h (by rw [bls_len, bls_len])
/-- The document's source of Poseidon's numbers. -/
theorem rnewP_c (w : World) : Calls Tryz.prog 27 #[.int .i64 254, .int .i64 3, .int .i64 8, .int .i64 57] w fun e w' => e = .returned (.tuple #[.agg (bls (gS 254 3 8 57)).toArray, .int .i64 0]) ∧ Below w.heap.size w w' := by
  rw [← rg_bls]
  exact rnew_ok 254 3 8 57 w (by unfold gOk; decide)
theorem relemB_c (s : Nat) (w : World) (hs : GS s) : Calls Tryz.prog 29 #[.agg (bls s).toArray] w fun e w' => ∃ r, e = .returned (.tuple #[.agg (bls (gelr s)).toArray, r]) ∧ EnZ w' w.heap.size r (gelv s) ∧ Below w.heap.size w w' := by
  rw [← rg_bls, ← rg_bls]
  exact relem_c s w hs
/-- A row that is nil, or the call's own. -/
def RowN (te : TypeId) (w : World) (base : Nat) (v : Value) (ds : List Value) : Prop := RowT te w base v ds ∨ v = .slice none 0 0 ∧ ds = []
theorem RowN.below {te : TypeId} {w w' : World} {b : Nat} {v : Value} {ds : List Value} (h : RowN te w b v ds) (hb : Below w.heap.size w w') : RowN te w' b v ds := h.imp (fun q => q.below hb) id
theorem RowN.only {te : TypeId} {w w' : World} {base bm : Nat} {v : Value} {ds : List Value} (h : RowN te w base v ds) (ho : Only bm w w') (hb : bm < base) : RowN te w' base v ds := h.imp (fun q => q.only ho hb) id
theorem RowN.lt {te : TypeId} {w : World} {b : Nat} {v : Value} {ds : List Value} (h : RowN te w b v ds) : ∀ k, v.ownBlock = some k → b ≤ k ∧ k < w.heap.size := by
  rcases h with h | ⟨rfl, _⟩
  · exact h.lt
  · intro k hk
    cases hk
theorem RowN.moved {te : TypeId} {w w' : World} {b : Nat} {v v' : Value} {ds : List Value} (h : RowN te w b v ds) (hm : Moved w w' v v') (hb : b ≤ w.heap.size) : Below b w w' :=
  (Below.refl b w).grown hm.gb hb (fun k hk => (h.lt k hk).1)
theorem run_append_rowN (te tS : TypeId) (hu : Tryz.prog.underlying tS = some (.slice te)) (hinfo : (Tryz.prog.info? te).map (fun i => (i.zero, i.size, i.bytes)) = some (some (.slice none 0 0), 1, 24)) (w : World) (base : Nat) (ty : TypeId) (v d : Value) (ds : List Value) (hR : RowN te w base v ds) (hd : isSl d = true) (a : Addr) (c : Nat)
    (hnews : ∀ j u, [d][j]? = some u → w.cell? (a.add j) = some u) (hlen : ds.length ≤ 1000) (hbase : base ≤ w.heap.size) :
    ∃ v' w', (Builtin.append_ #[tS, tS] ty #[v, .slice (some a) 1 c]).run Tryz.prog w = .ok v' w' ∧ RowT te w' base v' (ds ++ [d]) ∧ w.grownBy w' v.ownBlock ∧
      (v'.ownBlock = v.ownBlock ∨ ∃ k, v'.ownBlock = some k ∧ w.heap.size ≤ k) := by
  rcases hR with hR | ⟨rfl, rfl⟩
  · exact run_append_rowT te tS hu hinfo w base ty v ds [d] hR (fun m hm => by rw [List.mem_singleton.1 hm]; exact hd) a c (by simp) hnews (by simp; omega) hbase
  · obtain ⟨i0, hi, hz, hs1, hb⟩ := info_parts hinfo
    have hr := run_append_nil (P := Tryz.prog) w tS ty te i0 _ hu hi hz a 1 c [d] (by rw [hs1]; rfl) hnews (by decide) (by decide) (by rw [hb]; decide)
    have hge := grownCap_ge w 1 0 te
    refine ⟨_, _, hr, ⟨w.heap.size, grownCap w 1 0 te, _, rfl, hbase, heap_alloc_new w.drew _, hge, grownCap_le_maxLen w _ _ _ (by unfold maxLen; omega), ?_, ?_, ?_⟩, gb_below (((Below.refl _ _).drew).alloc (Nat.le_refl _) _) _, Or.inr ⟨_, rfl, Nat.le_refl _⟩⟩
    · simp only [Array.size_append, List.size_toArray, size_zeroCells]
      rw [show (Value.slice none 0 0).cells.size = 1 from rfl]
      simp
      omega
    · simp
    · intro x hx
      simp only [Array.toList_append, List.mem_append] at hx
      rcases hx with hx | hx
      · have hx2 : x = d := by simpa using hx
        rw [hx2]
        exact hd
      · exact zeroCells_sl _ x hx
/-- append of one slice that was just laid out, onto a row that may be nil. -/
theorem app_rowN {ops : Array Oper} {rest : List Oper} {o : Oper} {a : Act} {Q : Exit → Act → World → Prop} {w : World} (te tS : TypeId) (hu : Tryz.prog.underlying tS = some (.slice te)) (hinfo : (Tryz.prog.info? te).map (fun i => (i.zero, i.size, i.bytes)) = some (some (.slice none 0 0), 1, 24)) (hgd : o.guard = none) (s x : Operand)
    (ho : o.op = .call { callee := .builtin .append, args := #[s, x], argTypes := #[tS, tS] })
    (v : Value) (base : Nat) (ds : List Value) (d : Value) (hs : a.eval s = v) (hx : a.eval x = .slice (some ⟨w.heap.size, 0, none⟩) 1 1) (hR : RowN te w base v ds) (hl : ds.length ≤ 1000) (hbase : base ≤ w.heap.size) (hd : isSl d = true)
    (h : ∀ v' w', RowT te w' base v' (ds ++ [d]) → Moved w w' v v' → wpList Tryz.prog ops Q rest (a.put o.dst v') w') :
    wpList Tryz.prog ops Q (o :: rest) a (w.alloc (.cells #[d] te)) := by
  refine wpList_plain hgd fun K hK => ?_
  have hb1 : Below w.heap.size w (w.alloc (.cells #[d] te)) := (Below.refl _ _).alloc (Nat.le_refl _) _
  obtain ⟨v', w', hr, g2, g3, g4⟩ := run_append_rowN te tS hu hinfo (w.alloc (.cells #[d] te)) base o.type v d ds (hR.below hb1) hd ⟨w.heap.size, 0, none⟩ 1
    (fun j u hj => by
      rw [add_flat, Nat.zero_add, cell_of_row _ _ j _ _ (0, 0) (heap_alloc_new w _), ← hj]
      simp) hl (by simp; omega)
  unfold Oper.wp execOp
  simp only [ho, resolve, invoke, builtin, Sem.run_bind, Sem.run_pure, Result.andThen_ok, List.map_toArray, List.map_cons, List.map_nil, hs, hx, hr]
  exact hK _ _ (h v' w' g2 (Moved.pre ⟨g3, g4⟩ hb1))
theorem AllZF.up {B : Nat} {w w' : World} {ds : List Value} {Y : Nat → Int} (h : AllZF B w ds Y) (hb : Below w.heap.size w w') : AllZF B w' ds Y := fun i hi => (h i hi).up hb
theorem AllZF.only {B bm : Nat} {w w' : World} {ds : List Value} {Y : Nat → Int} (h : AllZF B w ds Y) (ho : Only bm w w') (hb : bm < B) : AllZF B w' ds Y := fun i hi => (h i hi).only ho hb
theorem AllZF.snocN {B : Nat} {w w' : World} {ds : List Value} {d v v' : Value} {base : Nat} {Y : Nat → Int} (h : AllZF B w ds Y) (hd : DzF B w d (Y ds.length)) (hr : RowN 50 w base v ds) (hm : Moved w w' v v') : AllZF B w' (ds ++ [d]) Y := by
  rcases hr with hr | ⟨rfl, rfl⟩
  · exact h.snoc hd hr hm
  · have hb : Below w.heap.size w w' := (Below.refl _ w).grown hm.gb (Nat.le_refl _) (fun k hk => by cases hk)
    intro i hi
    have : i = 0 := by simp at hi; omega
    subst this
    exact hd.up hb
theorem DzF.z {B : Nat} {w : World} {v : Value} {X : Int} (h : DzF B w v X) : Dz w v X := h.dz
theorem EnZ.dzF {w : World} {B B' : Nat} {r : Value} {X : Nat} (h : EnZ w B r X) (hX : X < pN) (hB : B' ≤ B) : DzF B' w r ((X : Nat) : Int) := by
  have hdg := h.dg
  obtain ⟨q, x, m, e, hq, _⟩ := h.ex
  refine ⟨⟨⟨X, hdg, hX, z_nat hX⟩⟩, fun A n c eA a ha => ?_⟩
  rw [e] at eA
  injection eA with e1
  rw [ha] at e1
  injection e1 with e1
  rw [← e1]
  exact Nat.le_trans hB hq
/-- A block in which neither digits nor rows of them lie. -/
structure Far (w : World) (p : Nat) : Prop where
  ex : ∃ t vs, BlkV w p t vs ∧ (∀ u ∈ vs, ∀ k z, u = .int k z → z = 0) ∧ t ≠ 50 ∧ t ≠ 28
theorem Dz.far {w w' : World} {d : Value} {X : Int} {p : Nat} (h : Dz w d X) (hp : Far w p) (ho : Only p w w') : Dz w' d X := by
  obtain ⟨x, hx, hl, e⟩ := h.ex
  refine ⟨⟨x, ?_, hl, e⟩⟩
  obtain ⟨A, c, l, rfl, h1, h2, h3, h4⟩ := hx.ex
  refine ⟨A, c, l, rfl, h1, h2, ⟨h3.len, h3.lt, fun h0 => ?_⟩, h4⟩
  obtain ⟨b, off, eA, hbl, hc⟩ := h3.cells h0
  have hne : b ≠ p := by
    intro e
    subst e
    obtain ⟨t, vs, hb, hn, _⟩ := hp.ex
    rcases h4.2.1 with q | q
    · rw [q] at h0
      exact absurd h0 (by simp)
    · have h5 := hc (l.length - 1) (by omega)
      rw [cell_of_row w b (off + (l.length - 1)) _ _ (0, 0) hb.heap] at h5
      have h6 := Array.mem_of_getElem? h5
      have h7 := hn _ (by simpa using h6) _ _ rfl
      unfold at64 at h7
      exact q (by omega)
  exact ⟨b, off, eA, Nat.lt_of_lt_of_le hbl ho.size, fun i hi => (World.cell?_of_block (a := ⟨b, off + i, none⟩) (ho.block b hbl hne)).trans (hc i hi)⟩
theorem far_ne {w : World} {b p : Nat} {cur : Array Value} {te : TypeId} (h : w.heap[b]? = some (.cells cur te (0, 0))) (hp : ∃ t vs, BlkV w p t vs ∧ t ≠ te) : b ≠ p := by
  intro e
  subst e
  obtain ⟨t, vs, hb, hn⟩ := hp
  have := hb.heap
  rw [h] at this
  simp only [Option.some.injEq, Obj.cells.injEq] at this
  exact hn this.2.1.symm
theorem DV.far {w w' : World} {v : Value} {n : Nat} {Y : Nat → Int} {p : Nat} (h : DV w v n Y) (hp : Far w p) (ho : Only p w w') : DV w' v n Y := by
  obtain ⟨b, cap, cur, e, h1, h2⟩ := h.ex
  have hlt := (Array.getElem?_eq_some_iff.1 h1).1
  have hbl := ho.block b hlt (far_ne h1 (by obtain ⟨t, vs, hb, _, q, _⟩ := hp.ex; exact ⟨t, vs, hb, q⟩))
  refine ⟨b, cap, cur, e, hbl.trans h1, fun j hj => ?_⟩
  obtain ⟨d, q1, q2⟩ := h2 j hj
  exact ⟨d, (World.cell?_of_block (a := ⟨b, j, none⟩) hbl).trans q1, q2.far hp ho⟩
theorem DM.far {w w' : World} {v : Value} {n : Nat} {Y : MZ} {p : Nat} (h : DM w v n Y) (hp : Far w p) (ho : Only p w w') : DM w' v n Y := by
  obtain ⟨b, cap, cur, e, h1, h2⟩ := h.ex
  have hlt := (Array.getElem?_eq_some_iff.1 h1).1
  have hbl := ho.block b hlt (far_ne h1 (by obtain ⟨t, vs, hb, _, _, q⟩ := hp.ex; exact ⟨t, vs, hb, q⟩))
  refine ⟨b, cap, cur, e, hbl.trans h1, fun j hj => ?_⟩
  obtain ⟨d, q1, q2⟩ := h2 j hj
  exact ⟨d, (World.cell?_of_block (a := ⟨b, j, none⟩) hbl).trans q1, q2.far hp ho⟩
theorem BS.far {w : World} {p s : Nat} (h : BS w p s) : Far w p := by
  refine ⟨⟨_, _, h, ?_, by decide, by decide⟩⟩
  intro u hu k z e
  exfalso
  subst e
  rw [bls_eq] at hu
  unfold bcell at hu
  obtain ⟨_, _, h7⟩ := List.mem_map.1 hu
  cases h7
/-- The constants' digits, and the matrix. -/
structure TabZ (w : World) (v vM : Value) : Prop where
  c : DV w v 195 (fun i => ((gelK i (gS 254 3 8 57) : Nat) : Int))
  m : DM w vM 3 mzCauchy
theorem TabZ.up {w w' : World} {v vM : Value} (h : TabZ w v vM) (hb : Below w.heap.size w w') : TabZ w' v vM := ⟨h.c.up hb, h.m.up hb⟩
theorem only_below {p B : Nat} {u v v' : World} (h : Only p u v) (k : Below B v v') (hB : u.heap.size ≤ B) : Only p u v' :=
  ⟨k.os.trans h.os, k.tape.trans h.tape, k.output.trans h.output, Nat.le_trans h.size k.size, fun j hj hne => (k.block j (Nat.lt_of_lt_of_le hj hB)).trans (h.block j hj hne)⟩
/-- What New's loop keeps. -/
structure NqR (w wM : World) (p1 p3 : Nat) (vM v : Value) (ds : List Value) (k : Nat) (wr : World) : Prop where
  s : BS wr p1 (gelR k (gS 254 3 8 57))
  tb : BlkV wr p3 32 [v, vM]
  z : BlkV wr w.heap.size 32 [.slice none 0 0, .slice none 0 0]
  c : RowN 50 wr (p3 + 1) v ds
  a : AllZF (p3 + 1) wr ds (fun i => ((gelK i (gS 254 3 8 57) : Nat) : Int))
  o : Only p1 wM wr
  b : Below w.heap.size w wr
theorem NqR.up {w wM : World} {p1 p3 : Nat} {vM v : Value} {ds : List Value} {k : Nat} {wr w' : World} (h : NqR w wM p1 p3 vM v ds k wr) (hb : Below wr.heap.size wr w') : NqR w wM p1 p3 vM v ds k w' :=
  ⟨BlkV.up h.s hb, h.tb.up hb, h.z.up hb, h.c.below hb, h.a.up hb, h.o.trans (Only.of hb), bchain h.b hb⟩
/-- The source moved on. -/
structure NqS (w wM : World) (p1 p3 : Nat) (vM v : Value) (ds : List Value) (k : Nat) (wr : World) : Prop where
  s : BS wr p1 (gelR (k + 1) (gS 254 3 8 57))
  tb : BlkV wr p3 32 [v, vM]
  z : BlkV wr w.heap.size 32 [.slice none 0 0, .slice none 0 0]
  c : RowN 50 wr (p3 + 1) v ds
  a : AllZF (p3 + 1) wr ds (fun i => ((gelK i (gS 254 3 8 57) : Nat) : Int))
  o : Only p1 wM wr
  b : Below w.heap.size w wr
theorem NqR.src {w wM : World} {p1 p3 : Nat} {vM v : Value} {ds : List Value} {k : Nat} {wr : World} (h : NqR w wM p1 p3 vM v ds k wr) (h1 : w.heap.size < p1) (h3 : p1 < p3) :
    NqS w wM p1 p3 vM v ds k (wr.setCells p1 0 (bls (gelr (gelR k (gS 254 3 8 57))))) := by
  have ho : Only p1 wr (wr.setCells p1 0 (bls (gelr (gelR k (gS 254 3 8 57))))) := (Only.refl _ _).sets _ _
  refine ⟨?_, BlkV.put (by omega) _ _ _ h.tb, BlkV.put (by omega) _ _ _ h.z, h.c.only ho (by omega), h.a.only ho (by omega), h.o.trans ho, below_cells (by omega) _ _ _ h.b⟩
  rw [gelR_add k 1]
  exact BS.lay h.s _
/-- Behind the append. -/
structure NqA (w wM : World) (p1 p3 : Nat) (vM v v' : Value) (ds : List Value) (k : Nat) (wr : World) : Prop where
  s : BS wr p1 (gelR (k + 1) (gS 254 3 8 57))
  tb : BlkV wr p3 32 [v, vM]
  z : BlkV wr w.heap.size 32 [.slice none 0 0, .slice none 0 0]
  c : RowT 50 wr (p3 + 1) v' ds
  a : AllZF (p3 + 1) wr ds (fun i => ((gelK i (gS 254 3 8 57) : Nat) : Int))
  o : Only p1 wM wr
  b : Below w.heap.size w wr
theorem NqS.app {w wM : World} {p1 p3 : Nat} {vM v v' d : Value} {ds : List Value} {k : Nat} {wr w' : World} (h : NqS w wM p1 p3 vM v ds k wr) (h1 : w.heap.size < p1) (h3 : p1 < p3) (hM : wM.heap.size = p3) (hw : w.heap.size ≤ wM.heap.size) (hr : RowT 50 w' (p3 + 1) v' (ds ++ [d])) (hm : Moved wr w' v v')
    (hd : DzF (p3 + 1) wr d ((gelK ds.length (gS 254 3 8 57) : Nat) : Int)) : NqA w wM p1 p3 vM v v' (ds ++ [d]) k w' := by
  have hs : p3 + 1 ≤ wr.heap.size := h.tb.size
  have hb := h.c.moved hm hs
  refine ⟨h.s.below hb (by omega), h.tb.below hb (by omega), h.z.below hb (by omega), hr, h.a.snocN hd h.c hm, only_below h.o hb (by omega), h.b.trans (hb.mono (by omega))⟩
theorem NqA.set {w wM : World} {p1 p3 : Nat} {vM v v' : Value} {ds : List Value} {k : Nat} {wr : World} (h : NqA w wM p1 p3 vM v v' ds k wr) (h1 : w.heap.size < p1) (h3 : p1 < p3) (hM : wM.heap.size = p3) :
    NqR w wM p1 p3 vM v' ds (k + 1) (wr.setCell ⟨p3, 0, none⟩ v') := by
  have ho : Only p3 wr (wr.setCell ⟨p3, 0, none⟩ v') := (Only.refl _ _).set 0 _
  exact ⟨BlkV.other h.s (by omega), h.tb.set 0 v', BlkV.other h.z (by omega), Or.inl (h.c.only ho (by omega)), h.a.only ho (by omega), h.o.setUp (by omega) _ _, h.b.setCell (p := ⟨p3, 0, none⟩) (show w.heap.size ≤ p3 by omega) _⟩
end Go.Proofs.YtdepkfdceidikaaGreatDoor
/-
  avouchref10.New: the walk.
-/
namespace Go.Proofs.YtdepkfdceidikaaGreatDoor
open Go.RowKit
set_option linter.unusedVariables false
set_option linter.unusedSimpArgs false


theorem sizeT : (Tryz.prog.info? 32).map (·.size) = some 2 := by kernel_rfl
theorem zeroT (v : World) : (zeroValue 32).run Tryz.prog v = .ok (.agg #[.slice none 0 0, .slice none 0 0]) v := by kernel_rfl
set_option maxRecDepth 20000 in
set_option maxHeartbeats 4000000 in
theorem r10New_c (w : World) : Calls Tryz.prog 10 #[] w fun e w' => ∃ v vM, e = .returned (.agg #[v, vM]) ∧ TabZ w' v vM ∧ Below w.heap.size w w' := by
  have hzt := zeroT
  have hzs := zeroB
  have hlz := bls_len 0
  have Z0 := hid (BlkV.new w 32 [.slice none 0 0, .slice none 0 0])
  have B0 := hid ((Below.refl w.heap.size w).alloc (Nat.le_refl _) (.cells #[.slice none 0 0, .slice none 0 0] 32))
  have hs0 : (w.alloc (.cells #[.slice none 0 0, .slice none 0 0] 32)).heap.size = w.heap.size + 1 := by simp
  go_enter Tryz.func10, Tryz.ntmps10
  go_wp2_with fail
  generalize (w.alloc _) = w0 at *
  refine (rnewP_c w0).mono ?_
  rintro e w1 ⟨rfl, b1⟩
  have HGS := hid (gS_gs 254 3 8 57)
  have hlS := bls_len (gS 254 3 8 57)
  have HSZ := hid (sizeB (gS 254 3 8 57))
  have HSA := hid (sizeBA (gS 254 3 8 57))
  have HAL := hid (bls_all (gS 254 3 8 57))
  have n1 : BS (w1.alloc (.cells (bls 0).toArray 77)) w1.heap.size 0 := BlkV.new w1 77 (bls 0)
  have HT := hid (n1.there (gS 254 3 8 57))
  have HS1 := hid (n1.lay (gS 254 3 8 57))
  have hb1 : Below w1.heap.size w1 ((w1.alloc (.cells (bls 0).toArray 77)).setCells w1.heap.size 0 (bls (gS 254 3 8 57))) := below_cells (Nat.le_refl _) _ _ _ ((Below.refl _ _).alloc (Nat.le_refl _) _)
  have HZ1 := hid (((Z0.out).up b1).up hb1)
  have HB1 := hid (bchain B0.out (bchain b1 hb1))
  have hp1 : w.heap.size < w1.heap.size := by have := b1.size; omega
  obtain ⟨S0, hS0⟩ : ∃ l, l = bls (gS 254 3 8 57) := ⟨_, rfl⟩
  rw [← hS0] at hlS HSZ HSA HAL HT HS1 HZ1 HB1 ⊢
  clear n1 hb1 b1 Z0 B0 hs0 hS0
  go_wp2_with (first
    | with_reducible refine wpList_store_mid rfl 77 (.tmp 1) (.tmp 9) rfl (w1.heap.size) 0 (S0).toArray rfl rfl (by with_reducible exact HT.out) HSA.out HAL.out ?_
    | fail)
  obtain ⟨w2, hw2⟩ : ∃ x, x = (w1.alloc (.cells (bls 0).toArray 77)).setCells w1.heap.size 0 S0 := ⟨_, rfl⟩
  rw [← hw2] at HS1 HZ1 HB1 ⊢
  obtain ⟨p1, hpp⟩ : ∃ x, x = w1.heap.size := ⟨_, rfl⟩
  rw [← hpp] at HS1 hp1 ⊢
  clear hw2 HT hpp
  refine (refCauchy_c w2).mono ?_
  rintro e wM ⟨vM, rfl, hm, bM⟩
  have HM := hid hm
  obtain ⟨gM, cM, rfl, -, -⟩ := hm.at_
  have HSM := hid (BlkV.up HS1.out bM)
  have HZM := hid (HZ1.out.up bM)
  have HBM := hid (bchain HB1.out bM)
  have hp3 : p1 < wM.heap.size := BlkV.size HSM.out
  clear bM HS1 HZ1 HB1
  have NT := hid (BlkV.new wM 32 [.slice none 0 0, .slice (some ⟨gM, 0, none⟩) 3 cM])
  have NB := hid ((Below.refl wM.heap.size wM).alloc (Nat.le_refl _) (.cells #[.slice none 0 0, .slice (some ⟨gM, 0, none⟩) 3 cM] 32))
  go_wp2_with fail
  obtain ⟨w3, hw3⟩ : ∃ x, x = wM.alloc (.cells #[.slice none 0 0, (.slice (some ⟨gM, 0, none⟩) 3 cM)] 32) := ⟨_, rfl⟩
  rw [← hw3] at NT NB ⊢
  obtain ⟨p3, hp3e⟩ : ∃ x, x = wM.heap.size := ⟨_, rfl⟩
  have HP3 := hid hp3e.symm
  rw [← hp3e] at NT hp3 ⊢
  have R0 : Hid (NqR w wM p1 p3 (.slice (some ⟨gM, 0, none⟩) 3 cM) (.slice none 0 0) [] 0 w3) := hid ⟨HSM.out.up (NB.out), NT.out, HZM.out.up NB.out, Or.inr ⟨rfl, rfl⟩, fun i hi => absurd hi (Nat.not_lt_zero i), Only.of NB.out, bchain HBM.out NB.out⟩
  have hwM : Hid (w.heap.size ≤ wM.heap.size) := hid HBM.out.size
  clear hw3 hp3e NT NB HZM HBM hm HSZ HSA HAL hlS
  go_loopw [4] (fun i wr => ∃ k : Nat, ∃ v : Value, ∃ ds : List Value, k ≤ 195 ∧ i = .int .i64 k ∧ Hid (ds.length = k) ∧ NqR w wM p1 p3 (.slice (some ⟨gM, 0, none⟩) 3 cM) v ds k wr) (fun i _ => 195 - (intOf i).toNat)
  case atStart => exact ⟨0, _, [], by omega, rfl, hid rfl, R0.out⟩
  case round =>
    clear R0
    obtain ⟨k, v, ds, hk, rfl, HL, hrel⟩ := hrel
    by_cases hlt : k < 195
    · have i0 : (0 : Int) ≤ (k : Int) := by omega
      have i2 : (k : Int) < 195 := by omega
      have R1 := hid hrel
      have HR := hid (BlkV.range hrel.s)
      have HX := hid (HGS.out.elR k)
      obtain ⟨x, hx⟩ : ∃ x, x = gelR k (gS 254 3 8 57) := ⟨_, rfl⟩
      rw [← hx] at HR HX
      have HXE := hid hx
      have hlx := bls_len x
      clear hx hrel
      go_wp2_with (first
    | with_reducible refine wpList_load_mid rfl 77 (.tmp 1) rfl (p1) 0 rfl (bls (x)) _ (by with_reducible exact HR.out) Tryz.underlying77 rfl (sizeB _) ?_
    | fail)
      refine (relemB_c x wr HX.out).mono ?_
      rintro e w4 ⟨d, rfl, hE, b4⟩
      have hd0 : DzF (p3 + 1) w4 d ((gelv x : Nat) : Int) := hE.dzF (gelv_lt HX.out) R1.out.tb.size
      obtain ⟨dA, dn, dc, rfl⟩ := hd0.dz.form
      have R4 := R1.out.up b4
      have n5 : BS (w4.alloc (.cells (bls 0).toArray 77)) w4.heap.size 0 := BlkV.new w4 77 (bls 0)
      have HT5 := hid (n5.there (gelr x))
      have HL5 := hid (BlkV.range (n5.lay (gelr x)))
      have hb5 : Below w4.heap.size w4 ((w4.alloc (.cells (bls 0).toArray 77)).setCells w4.heap.size 0 (bls (gelr x))) := below_cells (Nat.le_refl _) _ _ _ ((Below.refl _ _).alloc (Nat.le_refl _) _)
      have R5 := R4.up hb5
      have HT1 := hid (R5.s.there (gelr x))
      have d5 := hd0.up hb5
      have hw5 := HP3.out
      have R6 := hid (R5.src (by omega) (by omega))
      rw [← HXE.out] at R6
      have HD := hid (d5.only ((Only.refl p1 _).sets (bls (gelr x)) 0) (show p1 < p3 + 1 by omega))
      have hly := bls_len (gelr x)
      obtain ⟨y, hy⟩ : ∃ y, y = gelr x := ⟨_, rfl⟩
      rw [← hy] at HT5 HL5 HT1 R6 HD hly ⊢
      have HYE := hid hy
      clear hy hw5 hE hd0 R4 n5 hb5 R5 d5 b4 R1 HR
      have C0 := R6.out.tb.cell (i := 0) (by simp)
      simp only [List.getElem_cons_zero] at C0
      have hds := HD.out.dz.sl
      have hl : ds.length ≤ 1000 := by rw [HL.out]; omega
      have hbase := hid R6.out.tb.size
      have HC := hid R6.out.c
      go_wp2_with (first
    | with_reducible refine wpList_store_mid rfl 77 (.tmp 5) (.tmp 20) rfl (w4.heap.size) 0 (bls (y)).toArray rfl rfl (by with_reducible exact HT5.out) (sizeBA _) (bls_all _) ?_
    | with_reducible refine wpList_load_mid rfl 77 (.tmp 5) rfl (w4.heap.size) 0 rfl (bls (y)) _ (by with_reducible exact HL5.out) Tryz.underlying77 rfl (sizeB _) ?_
    | with_reducible refine wpList_store_mid rfl 77 (.tmp 1) (.tmp 22) rfl (p1) 0 (bls (y)).toArray rfl rfl (by with_reducible exact HT1.out) (sizeBA _) (bls_all _) ?_
    | (at_builtin; refine app_rowN 50 28 Tryz.underlying28 sl_info rfl (.tmp 24) (.tmp 26) rfl v (p3 + 1) ds (.slice dA dn dc) rfl rfl HC.out hl hbase.out hds ?_)
    | fail)
      intro v5 w7 hR7 hM7
      have A7 := R6.out.app hp1 hp3 HP3.out hwM.out hR7 hM7 (by
        have q := HD.out
        rw [HXE.out] at q
        rw [HL.out]
        exact q)
      have HLN : Hid ((ds ++ [Value.slice dA dn dc]).length = k + 1) := by show _ = _; rw [List.length_append, HL.out]; rfl
      obtain ⟨g5, c5, q5, hv5, -⟩ := hR7.ex
      obtain ⟨n5', hn5⟩ : ∃ n, n = (ds ++ [Value.slice dA dn dc]).length := ⟨_, rfl⟩
      rw [← hn5] at hv5
      subst hv5
      clear hR7 hM7 hn5
      have C7 := A7.tb.cell (i := 0) (by simp)
      simp only [List.getElem_cons_zero] at C7
      have F7 := A7.tb.frozen 0
      have HN := hid (A7.set hp1 hp3 HP3.out)
      clear A7 R6 HD C0 HT5 HL5 HT1 HC hbase HXE HYE HX
      go_wp2_with fail
      go_roundw
      case rel => exact ⟨k + 1, _, _, by omega, by go_num, HLN, HN.out⟩
      case measure => simp [intOf]; omega
    · obtain rfl : k = 195 := by omega
      obtain ⟨g, hgc⟩ : ∃ q : Unit, True := ⟨(), trivial⟩
      rcases hrel.c with hc | ⟨rfl, rfl⟩
      · have hDV := (hc.dvF hrel.a (Nat.le_refl _)).dv
        rw [HL.out] at hDV
        have hDM := HM.out.far (BS.far HSM.out) hrel.o
        obtain ⟨g5, c5, q5, hv5, -⟩ := hc.ex
        rw [HL.out] at hv5
        subst hv5
        have C0 := hrel.tb.cell (i := 0) (by simp)
        have C1 := hrel.tb.cell (i := 1) (by simp)
        simp only [List.getElem_cons_zero, List.getElem_cons_succ] at C0 C1
        have Z0 := hrel.z.cell (i := 0) (by simp)
        have Z1 := hrel.z.cell (i := 1) (by simp)
        simp only [List.getElem_cons_zero, List.getElem_cons_succ] at Z0 Z1
        have F0 := hrel.z.frozen 0
        have F1 := hrel.z.frozen 1
        have HRES := hid (((hrel.z.set 0 (.slice (some ⟨g5, 0, none⟩) 195 c5)).set 1 (.slice (some ⟨gM, 0, none⟩) 3 cM)).range)
        have FR : Far wr w.heap.size := ⟨⟨_, _, hrel.z, by intro u hu k z e; subst e; simp at hu, by decide, by decide⟩⟩
        have HO := ((Only.refl w.heap.size wr).set 0 (.slice (some ⟨g5, 0, none⟩) 195 c5)).set 1 (.slice (some ⟨gM, 0, none⟩) 3 cM)
        have FIN := hid (TabZ.mk (hDV.far FR HO) (hDM.far FR HO))
        have HBF := hid ((hrel.b.setCell (p := ⟨w.heap.size, 0, none⟩) (Nat.le_refl _) (.slice (some ⟨g5, 0, none⟩) 195 c5)).setCell (p := ⟨w.heap.size, 1, none⟩) (Nat.le_refl _) (.slice (some ⟨gM, 0, none⟩) 3 cM))
        clear hDV hDM FR HO hc hrel HGS HM HSM hwM
        go_wp2_with fail
        refine bodyPost_ret (results_cell1 Tryz.results10 ⟨w.heap.size, 0, none⟩ _ rfl (run_loadVar_mid _ w.heap.size 0 32 [.slice (some ⟨g5, 0, none⟩) 195 c5, (.slice (some ⟨gM, 0, none⟩) 3 cM)] _ HRES.out Tryz.underlying32 rfl sizeT)) rfl ?_
        exact ⟨_, _, rfl, FIN.out, HBF.out⟩
      · have := HL.out
        simp at this
end Go.Proofs.YtdepkfdceidikaaGreatDoor
