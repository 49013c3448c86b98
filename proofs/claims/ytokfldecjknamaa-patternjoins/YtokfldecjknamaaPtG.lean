/-
  append of slices of items; pattern.Parse: what the call does.
-/
import Derived.Test.YtokfldecjknamaaPtF
namespace Go.Proofs.Ytokfldecjknamaa
open Go.RowKit
set_option linter.unusedVariables false
set_option linter.unusedSimpArgs false

theorem OwnV.cat {e : TypeId} {w : World} {base : Nat} {v : Value} {l m : List IV} (h : w.ownsRow base e 4 v (l.length + m.length) (ivs l ++ ivs m)) : OwnV e w base v (l ++ m) := by
  refine ⟨?_⟩
  rw [ivs_append, List.length_append]
  exact h
theorem RdV.src {w : World} {B n : Nat} {A : Option Addr} {l : List IV} (h : RdV w B A n l) (hn : 0 < n) : ∃ ad, A = some ad ∧ ∀ j u, (ivs l)[j]? = some u → w.cell? (ad.add j) = some u := by
  obtain ⟨b, off, e, _, hc⟩ := h.cells hn
  refine ⟨_, e, fun j u hj => ?_⟩
  rw [Addr.add_mid]
  exact hc j u hj
/-- append of a slice of items that is read onto an own one. -/
theorem run_append_items {t e : TypeId} (hT : ItT t e) {w : World} (ty : TypeId) (base : Nat) (v : Value) (l : List IV) (hown : OwnV e w base v l) (A : Option Addr) (n c B : Nat) (news : List IV) (hr : RdV w B A n news)
    (hlen : l.length + n ≤ 100000) (hbase : base ≤ w.heap.size) :
    ∃ v' w', (Builtin.append_ #[t, t] ty #[v, .slice A n c]).run Try.prog w = .ok v' w' ∧ OwnV e w' base v' (l ++ news) ∧ w.grownBy w' v.ownBlock := by
  obtain ⟨i0, hi, hz, hs1, hb⟩ := info_parts hT.info
  have hnl := hr.len
  rcases Nat.eq_zero_or_pos n with h0 | h0
  · subst h0
    obtain rfl : news = [] := List.eq_nil_of_length_eq_zero hnl
    have hrun : (Builtin.append_ #[t, t] ty #[v, .slice A 0 c]).run Try.prog w = .ok v w := by
      rcases A with _ | A
      · rcases hown.own.2 with ⟨rfl, hl0⟩ | ⟨g, cap, cur, rfl, _, _, hnc, _⟩
        · simp [Builtin.append_, run_underlying hT.sl, sizeOf, typeInfo, hi, Builtin.lenOf, Builtin.firstCells]
        · simp [Builtin.append_, run_underlying hT.sl, sizeOf, typeInfo, hi, Builtin.lenOf, Builtin.firstCells, hnc, storeCells]
      · rcases hown.own.2 with ⟨rfl, hl0⟩ | ⟨g, cap, cur, rfl, _, _, hnc, _⟩
        · simp [Builtin.append_, run_underlying hT.sl, sizeOf, typeInfo, hi, Builtin.lenOf, Builtin.firstCells, loadCells, loadCellsFrom]
        · simp [Builtin.append_, run_underlying hT.sl, sizeOf, typeInfo, hi, Builtin.lenOf, Builtin.firstCells, hnc, storeCells, loadCells, loadCellsFrom]
    exact ⟨v, w, hrun, by rw [List.append_nil]; exact hown, ⟨rfl, rfl, rfl, Nat.le_refl _, fun _ _ _ => rfl⟩⟩
  · obtain ⟨ad, rfl, hsrc⟩ := hr.src h0
    obtain ⟨v', w', h1, h2, h3, _⟩ := run_append_own (P := Try.prog) w base t ty e i0 _ 4 40 hT.sl hi hz hs1 hb rfl (by decide) v l.length (ivs l) hown.own ad n c (ivs news)
      (by rw [ivs_len, hnl]) hsrc (ivs_all news) (by unfold maxLen; omega) (by omega) hbase
    exact ⟨v', w', h1, OwnV.cat (by rw [hnl]; exact h2), h3⟩
theorem wp_append_items {t e : TypeId} (hT : ItT t e) {o : Oper} {a : Act} {K : Act → World → Prop} {Q : Exit → Act → World → Prop} {w : World} (s x : Operand)
    (ho : o.op = .call { callee := .builtin .append, args := #[s, x], argTypes := #[t, t] })
    (base : Nat) (v : Value) (l : List IV) (hs : a.eval s = v) (hown : OwnV e w base v l) (A : Option Addr) (n c B : Nat) (news : List IV) (hr : RdV w B A n news) (hx : a.eval x = .slice A n c)
    (hlen : l.length + n ≤ 100000) (hbase : base ≤ w.heap.size)
    (h : ∀ v' w', OwnV e w' base v' (l ++ news) → w.grownBy w' v.ownBlock → K (a.put o.dst v') w') : o.wp Try.prog a w K Q := by
  obtain ⟨v', w', h1, h2, h3⟩ := run_append_items hT o.type base v l hown A n c B news hr hlen hbase
  unfold Oper.wp execOp
  simp only [ho, resolve, invoke, builtin, Sem.run_bind, Sem.run_pure, Result.andThen_ok, List.map_toArray, List.map_cons, List.map_nil, hs, hx, h1]
  exact h v' w' h2 h3
theorem OwnV.below {e : TypeId} {w w' : World} {lo B : Nat} {v : Value} {l : List IV} (h : OwnV e w lo v l) (hg : w.grownBy w' v.ownBlock) (hB : B ≤ lo) (hs : B ≤ w.heap.size) : Below B w w' :=
  (Below.refl _ _).grown hg hs fun k hk => Nat.le_trans hB (h.own.lt k hk).1
theorem append_items {t e : TypeId} (hT : ItT t e) {ops : Array Oper} {rest : List Oper} {o : Oper} {a : Act} {Q : Exit → Act → World → Prop} {w : World} (hgd : o.guard = none) (s x : Operand)
    (ho : o.op = .call { callee := .builtin .append, args := #[s, x], argTypes := #[t, t] })
    (base : Nat) (v : Value) (l : List IV) (hs : a.eval s = v) (hown : OwnV e w base v l) (A : Option Addr) (n c B : Nat) (news : List IV) (hr : RdV w B A n news) (hx : a.eval x = .slice A n c)
    (hlen : l.length + n ≤ 100000) (hbase : base ≤ w.heap.size)
    (h : ∀ v' w', OwnV e w' base v' (l ++ news) → Below base w w' → wpList Try.prog ops Q rest (a.put o.dst v') w') : wpList Try.prog ops Q (o :: rest) a w := by
  refine wpList_plain hgd fun K hK => ?_
  exact wp_append_items hT s x ho base v l hs hown A n c B news hr hx hlen hbase fun v' w' h1 h2 => hK _ _ (h v' w' h1 (hown.below h2 (Nat.le_refl _) hbase))
/-- The one-item slice that is laid out. -/
theorem rdV_new (w : World) (e : TypeId) (y : IV) : RdV (w.alloc (.cells #[.int .i64 y.k, .int .i64 y.t, .int .i64 y.c, .string y.s] e)) (w.heap.size + 1) (some ⟨w.heap.size, 0, none⟩) 1 [y] :=
  ⟨rfl, fun _ => ⟨w.heap.size, 0, rfl, Nat.lt_succ_self _, fun j v hv => (BlkV.new w e (ivc y)).range j v (by rw [← ivs_one]; exact hv)⟩⟩

/-- What Parse answers where reading ends. -/
structure PEnd (b : List Nat) (j : Nat) : Prop where
  lo : ∀ i, i < j → goes b i
  hi : ¬ goes b j
theorem PEnd.uniq {b : List Nat} {i j : Nat} (h : PEnd b i) (k : PEnd b j) : i = j := goes_end h.lo h.hi k.lo k.hi
def pE (b : List Nat) (j : Nat) : Nat := if rsN b j = [] then 0 else nE j (rsN b j)
def pAt (b : List Nat) (j : Nat) : Int := if rsN b j = [] then -1 else (j : Int)
def pX (b : List Nat) (j : Nat) : List IV := if rsN b j = [] then xsN b j else []
theorem goes_1024 {b : List Nat} {j : Nat} (lo : ∀ i, i < j → goes b i) : j ≤ 1024 := by
  rcases Nat.lt_or_ge 1024 j with h | h
  · exact absurd rfl (lo 1024 h).2.1
  · exact h
theorem goes_nE {b : List Nat} {j : Nat} (lo : ∀ i, i < j → goes b i) (h : rsN b j ≠ []) : goes b j ↔ nE j (rsN b j) = 0 := by
  have h1 := goes_1024 lo
  unfold nE goes
  constructor
  · rintro ⟨_, q, r⟩
    rw [if_neg (by omega)]; exact r
  · intro e
    by_cases hh : 1024 ≤ j
    · rw [if_pos hh] at e; cases e
    · rw [if_neg hh] at e; exact ⟨h, by omega, e⟩
theorem pE_ne {b : List Nat} {j : Nat} (h : rsN b j ≠ []) : pE b j = nE j (rsN b j) ∧ pAt b j = (j : Int) ∧ pX b j = [] := by
  unfold pE pAt pX
  rw [if_neg h, if_neg h, if_neg h]
  exact ⟨rfl, rfl, rfl⟩
theorem pE_eq {b : List Nat} {j : Nat} (h : rsN b j = []) : pE b j = 0 ∧ pAt b j = -1 ∧ pX b j = xsN b j := by
  unfold pE pAt pX
  rw [if_pos h, if_pos h, if_pos h]
  exact ⟨rfl, rfl, rfl⟩
def slLen : Value → Nat
  | .slice _ n _ => n
  | _ => 0
/-- What goes on from one item to the next one. -/
theorem goes_next {b : List Nat} {j : Nat} (hb : allLt8 b) (h : goes b j) : rsN b (j + 1) = (rsN b j).drop (8 + hdl (rsN b j)) ∧ xsN b (j + 1) = xsN b j ++ [ivOf (rsN b j)] ∧ 8 + hdl (rsN b j) ≤ (rsN b j).length :=
  ⟨(dec_yes h.2.2).2.2.2.2, rfl, (dec_len h.2.2).1⟩
set_option maxRecDepth 20000 in
set_option maxHeartbeats 2000000 in
theorem parse_c {B : Nat} (A : Option Addr) (n c : Nat) (bs : List Nat) (w : World) (ha : Rd8 w B A n bs) (hB : B ≤ w.heap.size) (hcap : n ≤ c) (hn6 : n ≤ 1000000) :
    Calls Try.prog 16 #[.slice A n c] w fun e w' => ∃ j A2 m c2, PEnd bs j ∧ e = .returned (.tuple #[.slice A2 m c2, .int .i64 (pAt bs j), .int .i64 (pE bs j : Nat)]) ∧ RdV w' w'.heap.size A2 m (pX bs j) ∧ m ≤ c2 ∧ Below w.heap.size w w' := by
  have hlt8 := ha.lt
  have HA := hid ha
  have hln := ha.len
  clear ha
  go_enter Try.func16, Try.ntmps16
  go_wp2
  go_loopw [0, 5] (fun bv lv wr => ∃ (j : Nat) (A1 : Option Addr) (m c1 : Nat), bv = .slice A1 m c1 ∧ m ≤ c1 ∧ m ≤ n ∧ Rd8 wr B A1 m (rsN bs j) ∧ OwnV 52 wr w.heap.size lv (xsN bs j) ∧ Hid (∀ i, i < j → goes bs i) ∧ Below w.heap.size w wr) (fun bv _ _ => slLen bv)
  case atStart => exact ⟨0, A, n, c, rfl, hcap, Nat.le_refl _, HA.out, ownV_nil _ _ _, hid (fun i hi => absurd hi (by omega)), Below.refl _ _⟩
  case round =>
    obtain ⟨j, A1, m, c1, rfl, hm1, hmn, hr, hown, HG, hb⟩ := hrel
    clear HA
    have hrl := hr.len
    by_cases h0 : 0 < m
    · have hne : rsN bs j ≠ [] := fun e => by rw [e] at hrl; have : ([] : List Nat).length = 0 := rfl; omega
      have HE := hid (goes_nE HG.out hne)
      have HP := hid (pE_ne hne)
      have hj := goes_1024 HG.out
      obtain ⟨AL, cL, hv, hcL, rL, pL⟩ := hown.rd
      rw [xsN_len] at hv hcL
      subst hv
      have HO := hid hown
      have HB := hid hb
      have HR := hid hr
      have HC := hid (next_c j A1 m c1 (rsN bs j) wr (hr.more (Nat.le_trans hB hb.size)) hm1 (by omega) (by omega))
      have m0 : (0 : Int) < (m : Int) := by omega
      clear rL pL hown hb hr
      go_wp2_with fail
      refine HC.out.mono ?_
      rintro e w1 ⟨y, sz, rfl, hok, b1⟩
      have HO1 := hid (HO.out.up b1)
      have HB1 := hid (HB.out.trans (b1.mono HB.out.size))
      have HR1 := hid (HR.out.below b1 (Nat.le_trans hB HB.out.size))
      clear HO HB HR b1 HC
      by_cases hg : nE j (rsN bs j) = 0
      · obtain ⟨rfl0, rfl1⟩ := hok hg
        have hgo : goes bs j := HE.out.2 hg
        obtain ⟨q1, q2, q3⟩ := goes_next hlt8 hgo
        have HG1 : Hid (∀ i, i < j + 1 → goes bs i) := fun i hi => by
          rcases Nat.lt_or_ge i j with h | h
          · exact HG.out i h
          · obtain rfl : i = j := by omega
            exact hgo
        rw [← rfl0] at q2
        obtain ⟨s, hs⟩ : ∃ s, s = 8 + hdl (rsN bs j) := ⟨_, rfl⟩
        rw [← hs] at q1 q3 rfl1
        have hsm : s ≤ m := by omega
        have hs8 : 8 ≤ s := by omega
        have r2 := HR1.out.sub (A2 := if c1 = s then A1 else A1.map fun x => x.add s) s (m - s) (by omega) (fun hm => by rw [if_neg (by omega)])
        rw [List.take_of_length_le (by rw [List.length_drop]; omega), ← q1] at r2
        have hsl : (s : Int) ≤ (m : Int) := by omega
        subst rfl1
        have HX := hid q2
        rw [hg]
        have hw1 : w.heap.size ≤ w1.heap.size := HB1.out.size
        have hkl : (xsN bs j).length + 1 ≤ 100000 := by rw [xsN_len]; omega
        clear hg hok rfl0 q1 q2 q3 hs HG hgo HE HP
        go_wp2
        obtain ⟨w2, hw2⟩ : ∃ x, x = (w1.alloc (.cells #[.int .i64 y.k, .int .i64 y.t, .int .i64 y.c, .string y.s] 52)).drew := ⟨_, rfl⟩
        have b2 : Below w1.heap.size w1 w2 := hw2 ▸ ((Below.refl _ _).alloc (Nat.le_refl _) _).drew
        have X2 : BlkV w2 w1.heap.size 52 [.int .i64 y.k, .int .i64 y.t, .int .i64 y.c, .string y.s] := hw2 ▸ (BlkV.new w1 52 [.int .i64 y.k, .int .i64 y.t, .int .i64 y.c, .string y.s]).drew
        have HO2 := hid (HO1.out.up b2)
        have HB2 := hid (HB1.out.trans (b2.mono HB1.out.size))
        have HS2 := hid (r2.below b2 (Nat.le_trans hB hw1))
        have hX2 := X2.size
        have b3 : Below w2.heap.size w2 (w2.alloc (.cells #[.int .i64 y.k, .int .i64 y.t, .int .i64 y.c, .string y.s] 52)) := (Below.refl _ _).alloc (Nat.le_refl _) _
        have X3 := hid (X2.up b3)
        have HO3 := hid (HO2.out.up b3)
        have HB3 := hid (HB2.out.trans (b3.mono HB2.out.size))
        have HS3 := hid (HS2.out.below b3 (Nat.le_trans hB HB2.out.size))
        have HN3 := hid (rdV_new w2 52 y)
        have hsz3 : w.heap.size ≤ (w2.alloc (.cells #[.int .i64 y.k, .int .i64 y.t, .int .i64 y.c, .string y.s] 52)).heap.size := HB3.out.size
        have hlt3 : ∀ k, (Value.slice AL j cL).ownBlock = some k → k < w1.heap.size := HO1.out.blk_lt
        refine wp_region_held_drew (S := fun v => BlkV v w1.heap.size 52 [.int .i64 y.k, .int .i64 y.t, .int .i64 y.c, .string y.s]) (by kernel_rfl) (by rw [← hw2]; exact X2) (fun hHeld => ?_)
        rw [← hw2] at *
        refine wpAnyH_take (i := 0) (v := ?_) rfl (by kernel_rfl) (by kernel_rfl) (by kernel_rfl) (fun _ _ _ h => h) (Or.inl ⟨by rfl, fun v hv => ?_⟩) (by with_reducible assumption) ?_
        rotate_left
        · go_simp
          try with_reducible rfl
        simp only [Act.put, List.setIfInBounds_toArray, List.set_cons_zero, List.set_cons_succ, List.getElem_toArray, List.getElem_cons_zero, List.getElem_cons_succ]
        refine wpAnyH_take (i := 1) (v := .agg ([.int .i64 y.k, .int .i64 y.t, .int .i64 y.c, .string y.s]).toArray) rfl (by kernel_rfl) (by kernel_rfl) (by kernel_rfl) (fun _ _ _ h => h) (yieldsIf_load_mid (by rfl) 52 (.tmp 6) rfl (w1.heap.size) 0 rfl ([.int .i64 y.k, .int .i64 y.t, .int .i64 y.c, .string y.s]) _ (fun v hv => hv.range) Try.underlying52 rfl sizeIt) (by with_reducible assumption) ?_
        simp only [Act.put, List.setIfInBounds_toArray, List.set_cons_zero, List.set_cons_succ, List.getElem_toArray, List.getElem_cons_zero, List.getElem_cons_succ]
        refine wpAnyH_take (i := 4) (v := ?_) rfl (by kernel_rfl) (by kernel_rfl) (by kernel_rfl) (fun _ _ _ h => h) (Or.inl ⟨by rfl, fun v hv => ?_⟩) (by with_reducible assumption) ?_
        rotate_left
        · go_simp
          try with_reducible rfl
        simp only [Act.put, List.setIfInBounds_toArray, List.set_cons_zero, List.set_cons_succ, List.getElem_toArray, List.getElem_cons_zero, List.getElem_cons_succ]
        refine wpAnyH_take (i := 5) (v := ?_) rfl (by kernel_rfl) (by kernel_rfl) (by kernel_rfl) (fun _ _ _ h => h) (Or.inl ⟨by rfl, fun v hv => ?_⟩) (by with_reducible assumption) ?_
        rotate_left
        · go_simp
          try with_reducible rfl
        simp only [Act.put, List.setIfInBounds_toArray, List.set_cons_zero, List.set_cons_succ, List.getElem_toArray, List.getElem_cons_zero, List.getElem_cons_succ]
        refine wpAnyH_take (i := 6) (v := ?_) rfl (by kernel_rfl) (by kernel_rfl) (by kernel_rfl) (fun _ _ _ h => h) (Or.inl ⟨by rfl, fun v hv => ?_⟩) (by with_reducible assumption) ?_
        rotate_left
        · go_simp
          try with_reducible rfl
        simp only [Act.put, List.setIfInBounds_toArray, List.set_cons_zero, List.set_cons_succ, List.getElem_toArray, List.getElem_cons_zero, List.getElem_cons_succ]
        refine wpAnyH_ready (rs := [2]) (by kernel_rfl) (by simp) ?_
        refine AllReadyH.cons rfl (fun K hK => ?_) AllReadyH.nil
        go_simp
        refine hK.out _ _ X3.out (fun hHeld => ?_)
        clear hK K
        try simp only [Act.put, List.setIfInBounds_toArray, List.set_cons_zero, List.set_cons_succ, List.getElem_toArray, List.getElem_cons_zero, List.getElem_cons_succ]
        refine wpAnyH_ready (rs := [3]) (by kernel_rfl) (by simp) ?_
        refine AllReadyH.cons rfl (fun K hK => ?_) AllReadyH.nil
        refine ready_go (by rfl) ?_
        refine wp_append_items itI (.tmp 25) (.tmp 27) rfl w.heap.size _ (xsN bs j) rfl HO3.out (some ⟨w2.heap.size, 0, none⟩) 1 1 _ [y] HN3.out rfl hkl hsz3 ?_
        intro v' w4 O4 g4
        have b4 := HO3.out.below g4 (Nat.le_refl _) hsz3
        have X4 : BlkV w4 w1.heap.size 52 [.int .i64 y.k, .int .i64 y.t, .int .i64 y.c, .string y.s] := ⟨(g4.block _ X3.out.size (by intro e; have := hlt3 _ e.symm; omega)).trans X3.out.heap⟩
        have HO4 := hid O4
        have HB4 := hid (HB3.out.trans b4)
        refine hK.out _ _ X4 (fun hHeld => ?_)
        clear hK K
        try simp only [Act.put, List.setIfInBounds_toArray, List.set_cons_zero, List.set_cons_succ, List.getElem_toArray, List.getElem_cons_zero, List.getElem_cons_succ]
        refine wpAnyH_take (i := 7) (v := ?_) rfl (by kernel_rfl) (by kernel_rfl) (by kernel_rfl) (fun _ _ _ h => h) (Or.inl ⟨by rfl, fun v hv => ?_⟩) (by with_reducible assumption) ?_
        rotate_left
        · go_simp
          try with_reducible rfl
        simp only [Act.put, List.setIfInBounds_toArray, List.set_cons_zero, List.set_cons_succ, List.getElem_toArray, List.getElem_cons_zero, List.getElem_cons_succ]
        refine wpAnyH_take (i := 8) (v := ?_) rfl (by kernel_rfl) (by kernel_rfl) (by kernel_rfl) (fun _ _ _ h => h) (Or.inl ⟨by rfl, fun v hv => ?_⟩) (by with_reducible assumption) ?_
        rotate_left
        · go_simp
          try with_reducible rfl
        simp only [Act.put, List.setIfInBounds_toArray, List.set_cons_zero, List.set_cons_succ, List.getElem_toArray, List.getElem_cons_zero, List.getElem_cons_succ]
        refine wpAnyH_done (by kernel_rfl) ?_ _
        clear hHeld
        have HS4 := hid (HS3.out.below b4 hB)
        clear g4 b4 O4 X4 X3 HO3 HB3 HS3 HN3 HO2 HB2 HS2 X2 b3 b2 hw2
        go_wp2
        go_roundw
        case rel => exact ⟨j + 1, _, m - s, c1 - s, rfl, by omega, by omega, HS4.out, by rw [HX.out]; exact HO4.out, HG1, HB4.out⟩
        case measure => show m - s < m; omega
      · have HN : Hid (PEnd bs j) := ⟨HG.out, fun h => hg (HE.out.1 h)⟩
        have hgi : (((nE j (rsN bs j) : Nat) : Int) != 0) = true := by simp; omega
        have b2 : Below w1.heap.size w1 (w1.alloc (.cells #[.int .i64 y.k, .int .i64 y.t, .int .i64 y.c, .string y.s] 52)) := (Below.refl _ _).alloc (Nat.le_refl _) _
        have HB2 := hid (HB1.out.trans (b2.mono HB1.out.size))
        clear b2 hok HE hg HG
        generalize nE j (rsN bs j) = r at *
        obtain ⟨p1, p2, p3⟩ := HP.out
        clear HP
        have HP1 := hid p1
        have HP2 := hid p2
        have HP3 := hid p3
        clear p1 p2 p3
        go_wp2
        go_ret3
        exact ⟨j, none, 0, 0, HN.out, by rw [HP1.out, HP2.out]; rfl, by rw [HP3.out]; exact RdV.nil _ _ _, Nat.le_refl _, HB2.out⟩
    · obtain rfl : m = 0 := by omega
      have hne : rsN bs j = [] := List.eq_nil_of_length_eq_zero hrl
      obtain ⟨p1, p2, p3⟩ := pE_eq hne
      have HP1 := hid p1
      have HP2 := hid p2
      have HP3 := hid p3
      have HN : Hid (PEnd bs j) := ⟨HG.out, fun h => h.1 hne⟩
      obtain ⟨AL, cL, rfl, hcL, rL, pL⟩ := hown.rd
      have HC := hid (clipV_c AL _ cL _ wr rL hcL)
      have HB := hid hb
      clear p1 p2 p3 pL rL hown hb hr HG hne
      go_wp2_with fail
      refine HC.out.mono ?_
      rintro e w1 ⟨A2, rfl, r2, p2, rfl⟩
      have HR := hid r2
      clear r2 p2 HC
      go_wp2
      go_ret3
      exact ⟨j, A2, _, _, HN.out, by rw [HP1.out, HP2.out]; rfl, by rw [HP3.out]; exact HR.out, Nat.le_refl _, HB.out⟩
end Go.Proofs.Ytokfldecjknamaa
