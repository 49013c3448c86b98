/-
  pattern.Total (its sums lie in a map of two keys), avouchref13.Total: what each call does.
-/
import Derived.Test.YtokfldecjknamaaPtH
import Derived.Maps.OwnSet
import Derived.Maps.OwnOps
import Derived.Maps.Views
namespace Go.Proofs.Ytokfldecjknamaa
open Go.RowKit Go.Maps
set_option linter.unusedVariables false
set_option linter.unusedSimpArgs false

theorem lawI : Keyed Try.prog 3 := int_keyed Try.underlying3
theorem zeroI (w : World) : (zeroValue 3).run Try.prog w = .ok (.int .i64 0) w := by kernel_rfl
def wfk (k : Int) : Prop := (Lit.int .i64 k).wf = true
theorem wfk_small {k : Int} (h0 : -1000 ≤ k) (h1 : k ≤ 9223372036854775807) : wfk k := WalkArith.wf_i64 (by omega)
/-- The map at block b has two keys, 1 and 2, whose values are x and y. -/
structure TwoI (w : World) (b : Nat) (x y : Int) (r : Nat) : Prop where
  ex : ∃ (n : Nat) (D : DataW Unit), n ≤ r ∧ w.ownsMap Try.prog 3 (plainElem Try.prog 3) b n D ∧ IsMap D ∧ (∀ z, D.atKey (.int .i64 1) z = .lit (.int .i64 x)) ∧ (∀ z, D.atKey (.int .i64 2) z = .lit (.int .i64 y)) ∧ ∀ k : Int, k ≠ 1 → k ≠ 2 → Maps.has D (.int .i64 k) = false
theorem TwoI.lt {w : World} {b r : Nat} {x y : Int} (h : TwoI w b x y r) : b < w.heap.size := by
  obtain ⟨n, D, _, h1, _⟩ := h.ex
  exact h1.lt
theorem TwoI.kept {w w' : World} {b r : Nat} {x y : Int} {row : Option Nat} (h : TwoI w b x y r) (hg : w.grownBy w' row) (hne : some b ≠ row) : TwoI w' b x y r := by
  obtain ⟨n, D, h0, h1, h2⟩ := h.ex
  exact ⟨n, D, h0, h1.kept hg hne, h2⟩
theorem TwoI.up {w w' : World} {b r : Nat} {x y : Int} (h : TwoI w b x y r) (hb : Below w.heap.size w w') : TwoI w' b x y r :=
  h.kept (row := none) ⟨hb.os, hb.tape, hb.output, hb.size, fun k hk _ => hb.block k hk⟩ (by simp)
theorem litI_ne {j k : Int} (h : j ≠ k) : (Lit.int .i64 j) ≠ Lit.int .i64 k := fun e => h (by injection e)
theorem isKeyI (k : Int) : WideAt.IsKeyLit (Lit.int .i64 k) := trivial
/-- m[k] of a key that is there. -/
theorem TwoI.look {w : World} {b r : Nat} {x y : Int} (h : TwoI w b x y r) (k : Int) (hk : k = 1 ∨ k = 2) :
    (Instr.lookup 60 (.map (some b)) (.int .i64 k) false).run Try.prog w = .ok (.int .i64 (if k = 1 then x else y)) w := by
  obtain ⟨n, D, _, h1, _, g1, g2, _⟩ := h.ex
  obtain ⟨c, hrun, hat, _⟩ := h1.lookup_int lawI Try.underlying60 Try.underlying3 (zeroI _) (key := .int .i64 k) (kl := .int .i64 k) (keyOf_int_mk Try.underlying3 (wfk_small (by omega) (by omega)))
  rw [hrun]
  rcases hk with rfl | rfl
  · rw [g1] at hat
    injection hat with hat
    injection hat with _ hat
    rw [if_pos rfl, hat]
  · rw [g2] at hat
    injection hat with hat
    injection hat with _ hat
    rw [if_neg (by decide), hat]
/-- v, ok := m[k] -/
theorem TwoI.look_ok {w : World} {b r : Nat} {x y : Int} (h : TwoI w b x y r) (k : Int) (hk : wfk k) :
    ∃ v, (Instr.lookup 60 (.map (some b)) (.int .i64 k) true).run Try.prog w = .ok (.tuple #[v, .bool (decide (k = 1 ∨ k = 2))]) w := by
  obtain ⟨n, D, _, h1, _, g1, g2, g3⟩ := h.ex
  obtain ⟨v, ps, hrun, _⟩ := h1.look_ok lawI Try.underlying60 (zeroI _) (plainElem_int Try.underlying3 (wfk_small (by omega) (by omega))) (key := .int .i64 k) (kl := .int .i64 k) (keyOf_int_mk Try.underlying3 hk)
  refine ⟨v, ?_⟩
  rw [hrun]
  have e : Maps.has D (.int .i64 k) = decide (k = 1 ∨ k = 2) := by
    by_cases k1 : k = 1
    · subst k1; rw [has_true_of_atKey g1]; rfl
    · by_cases k2 : k = 2
      · subst k2; rw [has_true_of_atKey g2]; rfl
      · rw [g3 k k1 k2, decide_eq_false (by omega)]
  rw [e]
/-- m[k] = v -/
theorem TwoI.put {w : World} {b r : Nat} {x y : Int} (h : TwoI w b x y r) (hr : r ≤ 1000000) (k u : Int) (hk : k = 1 ∨ k = 2) (hu : wfk u) :
    ∃ w', (Instr.mapUpdate 60 (.map (some b)) (.int .i64 k) (.int .i64 u)).run Try.prog w = .ok () w' ∧ TwoI w' b (if k = 1 then u else x) (if k = 1 then y else u) (r + 1) ∧ w.grownBy w' (some b) := by
  obtain ⟨n, D, h0, h1, h2, g1, g2, g3⟩ := h.ex
  obtain ⟨w', hrun, r1, r2⟩ := h1.update lawI Try.underlying60 (by unfold maxLen; omega) (key := .int .i64 k) (kl := .int .i64 k) (val := .int .i64 u) (keyOf_int_mk Try.underlying3 (wfk_small (by omega) (by omega))) (plainElem_int Try.underlying3 hu)
  refine ⟨w', hrun, ⟨n + 1, _, by omega, r1, h2.put _ _, ?_, ?_, ?_⟩, r2⟩
  · intro z
    rcases hk with rfl | rfl
    · rw [if_pos rfl]; exact atKey_put_same h2 (isKeyI _) _ _
    · rw [if_neg (by decide), atKey_put_other (litI_ne (by decide)), g1]
  · intro z
    rcases hk with rfl | rfl
    · rw [if_pos rfl, atKey_put_other (litI_ne (by decide)), g2]
    · rw [if_neg (by decide)]; exact atKey_put_same h2 (isKeyI _) _ _
  · intro j j1 j2
    rw [has_put_other (litI_ne (by rcases hk with rfl | rfl <;> assumption))]
    exact g3 j j1 j2
theorem TwoI.made (w : World) : ∃ w1 w2, (Instr.mapUpdate 60 (.map (some w.heap.size)) (.int .i64 1) (.int .i64 0)).run Try.prog (w.alloc (.map #[] 0)) = .ok () w1 ∧ (Instr.mapUpdate 60 (.map (some w.heap.size)) (.int .i64 2) (.int .i64 0)).run Try.prog w1 = .ok () w2 ∧ TwoI w2 w.heap.size 0 0 2 ∧ Below w.heap.size w w2 := by
  have h1 := World.ownsMap_made w Try.prog 3 (plainElem (H := Unit) Try.prog 3)
  obtain ⟨w1, hr1, r1, g1⟩ := h1.update lawI Try.underlying60 (by decide) (key := .int .i64 1) (kl := .int .i64 1) (val := .int .i64 0) (keyOf_int_mk Try.underlying3 (wfk_small (by omega) (by omega))) (plainElem_int Try.underlying3 (wfk_small (by omega) (by omega)))
  obtain ⟨w2, hr2, r2, g2⟩ := r1.update lawI Try.underlying60 (by decide) (key := .int .i64 2) (kl := .int .i64 2) (val := .int .i64 0) (keyOf_int_mk Try.underlying3 (wfk_small (by omega) (by omega))) (plainElem_int Try.underlying3 (wfk_small (by omega) (by omega)))
  have m0 : IsMap (.map [] : DataW Unit) := isMap_empty
  have m1 : IsMap ((.map [] : DataW Unit).put (.int .i64 1) (.lit (.int .i64 0))) := m0.put _ _
  refine ⟨w1, w2, hr1, hr2, ⟨2, _, Nat.le_refl _, r2, m1.put _ _, ?_, ?_, ?_⟩, ?_⟩
  · intro z
    rw [atKey_put_other (litI_ne (by decide))]
    exact atKey_put_same m0 (isKeyI _) _ _
  · intro z
    exact atKey_put_same m1 (isKeyI _) _ _
  · intro j j1 j2
    rw [has_put_other (litI_ne j2), has_put_other (litI_ne j1)]
    rfl
  · have b0 : Below w.heap.size w (w.alloc (.map #[] 0)) := (Below.refl _ _).alloc (Nat.le_refl _) _
    exact (b0.grown g1 b0.size (fun k hk => by injection hk with hk; omega)).grown g2 (Nat.le_trans b0.size g1.size) (fun k hk => by injection hk with hk; omega)
theorem wp_updI {o : Oper} {a : Act} {K : Act → World → Prop} {Q : Exit → Act → World → Prop} {w : World} (m x v : Operand) (ho : o.op = .mapUpdate 60 m x v) (b r : Nat) (X Y : Int) (h : TwoI w b X Y r) (hr : r ≤ 1000000) (k u : Int) (hk : k = 1 ∨ k = 2) (hu : wfk u)
    (hm : a.eval m = .map (some b)) (hx : a.eval x = .int .i64 k) (hv : a.eval v = .int .i64 u) (hK : ∀ w', TwoI w' b (if k = 1 then u else X) (if k = 1 then Y else u) (r + 1) → w.grownBy w' (some b) → K (a.put o.dst undef) w') : o.wp Try.prog a w K Q := by
  obtain ⟨w', hrun, h1, h2⟩ := h.put hr k u hk hu
  unfold Oper.wp
  simp [execOp, ho, hm, hx, hv, hrun, Result.andThen]
  exact hK w' h1 h2
theorem TwoI.eq2 {w : World} {b r r' : Nat} {x y x' y' : Int} (h : TwoI w b x y r) (e1 : x = x') (e2 : y = y') (e3 : r = r') : TwoI w b x' y' r' := by
  subst e1 e2 e3; exact h
theorem cnt_eq {q : Int} {x : IV} (h : x.k = q) : ((cnt q x : Nat) : Int) = if 0 < x.c ∧ x.c ≤ 1048576 then x.c else 0 := by
  unfold cnt
  by_cases h1 : 0 < x.c ∧ x.c ≤ 1048576
  · rw [if_pos ⟨h, h1⟩, if_pos h1]; omega
  · rw [if_neg (fun hh => h1 hh.2), if_neg h1]; rfl
theorem cnt_ne {q : Int} {x : IV} (h : x.k ≠ q) : cnt q x = 0 := by
  unfold cnt
  rw [if_neg (fun hh => h hh.1)]
set_option maxRecDepth 20000 in
set_option maxHeartbeats 2000000 in
theorem total_c {B : Nat} (A : Option Addr) (n c : Nat) (l : List IV) (w : World) (ha : RdV w B A n l) (hB : B ≤ w.heap.size) (hn : n ≤ 2000) (hwf : ∀ y ∈ l, wfk y.k) :
    Calls Try.prog 12 #[.slice A n c] w fun e w' => e = .returned (.tuple #[.int .i64 (tot 1 l : Nat), .int .i64 (tot 2 l : Nat)]) ∧ Below w.heap.size w w' := by
  have HA := hid ha
  have HW := hid hwf
  have hln := ha.len
  obtain ⟨w1, w2, i1, i2, hm, hb0⟩ := TwoI.made w
  have hmm := @run_makeMap Try.prog
  clear ha hwf
  go_enter Try.func12, Try.ntmps12
  go_wp2
  clear i1 i2 w1 hmm
  have HM0 := hid hm
  have HB0 := hid hb0
  clear hm hb0
  go_loopw [13] (fun i wr => ∃ k : Nat, k ≤ n ∧ i = .int .i64 k ∧ TwoI wr w.heap.size (tot 1 (l.take k) : Nat) (tot 2 (l.take k) : Nat) (k + 2) ∧ Below w.heap.size w wr) (fun i _ => n - (intOf i).toNat)
  case atStart => exact ⟨0, by omega, rfl, HM0.out, HB0.out⟩
  case round =>
    clear HM0 HB0
    obtain ⟨k, hk, rfl, hm, hb⟩ := hrel
    by_cases hlt : k < n
    · have hkl : k < l.length := by omega
      obtain ⟨b, off, rfl, hbB, hc⟩ := (HA.out.below hb hB).at_ hlt
      obtain ⟨x, hx⟩ : ∃ x, x = l[k]'hkl := ⟨_, rfl⟩
      rw [← hx] at hc
      have hxw : wfk x.k := HW.out x (by rw [hx]; exact List.getElem_mem _)
      have HX := hid hx
      clear hx
      have HR : Hid (wr.rangeAt b (off + k * 4) [.int .i64 x.k, .int .i64 x.t, .int .i64 x.c, .string x.s]) := hc
      have HB := hid hb
      have hmlt := hm.lt
      have HM := hid hm
      have k0 : (0 : Int) ≤ (k : Int) := by omega
      have k1 : (k : Int) < (n : Int) := by omega
      clear hc hb hm
      by_cases hk1 : x.k = 1
      · skip
        rw [hk1] at HR
        have bX : Below wr.heap.size wr (wr.alloc (.cells #[.int .i64 1, .int .i64 x.t, .int .i64 x.c, .string x.s] 52)) := (Below.refl _ _).alloc (Nat.le_refl _) _
        obtain ⟨v0, hv0⟩ := (HM.out.up bX).look_ok 1 (wfk_small (by omega) (by omega))
        rw [show decide ((1 : Int) = 1 ∨ (1 : Int) = 2) = true by decide] at hv0
        have HV0 := hv0
        clear hv0
        go_wp2_with (first
          | fail
          | refine wpList_load_mid rfl 52 (.tmp 15) rfl b (off + k * 4) rfl [.int .i64 1, .int .i64 x.t, .int .i64 x.c, .string x.s] _ (by with_reducible exact HR.out) Try.underlying52 rfl sizeI4 ?_)
        obtain ⟨w2, hw2⟩ : ∃ z, z = (wr.alloc (.cells #[.int .i64 1, .int .i64 x.t, .int .i64 x.c, .string x.s] 52)).drew := ⟨_, rfl⟩
        have b2 : Below wr.heap.size wr w2 := hw2 ▸ bX.drew
        have X2 : BlkV w2 wr.heap.size 52 [.int .i64 1, .int .i64 x.t, .int .i64 x.c, .string x.s] := hw2 ▸ (BlkV.new wr 52 [.int .i64 1, .int .i64 x.t, .int .i64 x.c, .string x.s]).drew
        have M2 : TwoI w2 w.heap.size (tot 1 (l.take k) : Nat) (tot 2 (l.take k) : Nat) (k + 2) := HM.out.up b2
        have HB2 := hid (HB.out.trans (b2.mono HB.out.size))
        have HC := hid (cnt_eq hk1)
        have HT := hid (tot_take 1 l hkl)
        have HT2 := hid (tot_take 2 l hkl)
        rw [← HX.out, cnt_ne (q := 2) (x := x) (by omega), Nat.add_zero] at HT2
        rw [← HX.out] at HT
        have htl := tot_le 1 (l.take (k + 1))
        have hll : (l.take (k + 1)).length = k + 1 := by rw [List.length_take]; omega
        rw [hll, HT.out] at htl
        obtain ⟨u, hu⟩ : ∃ u : Nat, u = cnt 1 x := ⟨_, rfl⟩
        rw [← hu] at HC HT htl
        have CC := hid (fun v => counted_c x.c v)
        rw [← HC.out] at CC
        have hadd : IntKind.i64.wrap (((tot 1 (l.take k) : Nat) : Int) + (u : Int)) = ((tot 1 (l.take k) + u : Nat) : Int) := by
          rw [IntKind.wrap_i64]; omega
        have HU : wfk (IntKind.i64.wrap (((tot 1 (l.take k) : Nat) : Int) + (u : Int))) := by
          rw [hadd]; exact wfk_small (by omega) (by omega)
        have HAD := hid hadd
        clear hadd hu hll bX b2 HV0 HR HB HM
        refine wp_region_held_drew (S := fun v => BlkV v wr.heap.size 52 [.int .i64 1, .int .i64 x.t, .int .i64 x.c, .string x.s]) (by kernel_rfl) (by rw [← hw2]; exact X2) (fun hHeld => ?_)
        rw [← hw2] at *
        refine wpAnyH_take (i := 0) (v := ?_) rfl (by kernel_rfl) (by kernel_rfl) (by kernel_rfl) (fun _ _ _ h => h) (Or.inl ⟨by rfl, fun v hv => ?_⟩) (by with_reducible assumption) ?_
        rotate_left
        · go_simp
          try with_reducible rfl
        simp only [Act.put, List.setIfInBounds_toArray, List.set_cons_zero, List.set_cons_succ, List.getElem_toArray, List.getElem_cons_zero, List.getElem_cons_succ]
        refine wpAnyH_take (i := 1) (v := ?_) rfl (by kernel_rfl) (by kernel_rfl) (by kernel_rfl) (fun _ _ _ h => h) (Or.inl ⟨by rfl, fun v hv => ?_⟩) (by with_reducible assumption) ?_
        rotate_left
        · go_simp
          try with_reducible rfl
        simp only [Act.put, List.setIfInBounds_toArray, List.set_cons_zero, List.set_cons_succ, List.getElem_toArray, List.getElem_cons_zero, List.getElem_cons_succ]
        refine wpAnyH_take (i := 2) (v := ?_) rfl (by kernel_rfl) (by kernel_rfl) (by kernel_rfl) (fun _ _ _ h => h) (Or.inl ⟨by rfl, fun v hv => ?_⟩) (by with_reducible assumption) ?_
        rotate_left
        · have hcc := (hv.four).1
          go_simp
          try with_reducible rfl
        simp only [Act.put, List.setIfInBounds_toArray, List.set_cons_zero, List.set_cons_succ, List.getElem_toArray, List.getElem_cons_zero, List.getElem_cons_succ]
        refine wpAnyH_take (i := 4) (v := ?_) rfl (by kernel_rfl) (by kernel_rfl) (by kernel_rfl) (fun _ _ _ h => h) (Or.inl ⟨by rfl, fun v hv => ?_⟩) (by with_reducible assumption) ?_
        rotate_left
        · go_simp
          try with_reducible rfl
        simp only [Act.put, List.setIfInBounds_toArray, List.set_cons_zero, List.set_cons_succ, List.getElem_toArray, List.getElem_cons_zero, List.getElem_cons_succ]
        refine wpAnyH_take (i := 5) (v := ?_) rfl (by kernel_rfl) (by kernel_rfl) (by kernel_rfl) (fun _ _ _ h => h) (Or.inl ⟨by rfl, fun v hv => ?_⟩) (by with_reducible assumption) ?_
        rotate_left
        · have hcc := (hv.four).2.2.1
          go_simp
          try with_reducible rfl
        simp only [Act.put, List.setIfInBounds_toArray, List.set_cons_zero, List.set_cons_succ, List.getElem_toArray, List.getElem_cons_zero, List.getElem_cons_succ]
        refine wpAnyH_ready (rs := [3, 6]) (by kernel_rfl) (by simp) ?_
        refine (AllReadyH.cons rfl (fun KK hK => ?_) (AllReadyH.cons rfl (fun KK hK => ?_) AllReadyH.nil))
        · have hlook := M2.look 1 (by decide)
          rw [if_pos rfl] at hlook
          go_simp
          refine hK.out _ _ X2 (fun hHeld => ?_)
          clear hK KK hlook
          try simp only [Act.put, List.setIfInBounds_toArray, List.set_cons_zero, List.set_cons_succ, List.getElem_toArray, List.getElem_cons_zero, List.getElem_cons_succ]
          refine wpAnyH_ready (rs := [6]) (by kernel_rfl) (by simp) ?_
          refine AllReadyH.cons rfl (fun KK hK => ?_) AllReadyH.nil
          go_simp
          go_at_call 27
          with_reducible refine (CC.out w2).mono ?_
          rintro e w3 ⟨rfl, hw3⟩
          subst hw3
          dsimp only
          refine hK.out _ _ X2 (fun hHeld => ?_)
          clear hK KK
          try simp only [Act.put, List.setIfInBounds_toArray, List.set_cons_zero, List.set_cons_succ, List.getElem_toArray, List.getElem_cons_zero, List.getElem_cons_succ]
          refine wpAnyH_take (i := 7) (v := ?_) rfl (by kernel_rfl) (by kernel_rfl) (by kernel_rfl) (fun _ _ _ h => h) (Or.inl ⟨by rfl, fun v hv => ?_⟩) (by with_reducible assumption) ?_
          rotate_left
          · go_simp
            try with_reducible rfl
          simp only [Act.put, List.setIfInBounds_toArray, List.set_cons_zero, List.set_cons_succ, List.getElem_toArray, List.getElem_cons_zero, List.getElem_cons_succ]
          refine wpAnyH_ready (rs := [8]) (by kernel_rfl) (by simp) ?_
          refine AllReadyH.cons rfl (fun KK hK => ?_) AllReadyH.nil
          refine ready_go (by rfl) ?_
          refine wp_updI (.tmp 25) (.tmp 27) (.tmp 32) rfl w.heap.size (k + 2) _ _ M2 (by omega) 1 _ (by decide) HU rfl rfl rfl ?_
          intro w4 M4 g4
          have X4 : BlkV w4 wr.heap.size 52 [.int .i64 1, .int .i64 x.t, .int .i64 x.c, .string x.s] := ⟨(g4.block _ X2.size (by intro e; injection e with e; omega)).trans X2.heap⟩
          have HB4 := hid (HB2.out.grown g4 HB2.out.size (fun k hk => by injection hk with hk; omega))
          have HM4 := hid M4
          refine hK.out _ _ X4 (fun hHeld => ?_)
          clear hK KK
          try simp only [Act.put, List.setIfInBounds_toArray, List.set_cons_zero, List.set_cons_succ, List.getElem_toArray, List.getElem_cons_zero, List.getElem_cons_succ]
          refine wpAnyH_done (by kernel_rfl) ?_ _
          clear hHeld X4 g4 M4 M2 X2 CC HC
          go_wp2
          go_roundw
          case rel => exact ⟨k + 1, by omega, by go_num, by rw [HT.out, HT2.out]; exact (HM4.out).eq2 HAD.out rfl rfl, HB4.out⟩
          case measure => simp [intOf]; omega
        · go_simp
          go_at_call 27
          with_reducible refine (CC.out w2).mono ?_
          rintro e w3 ⟨rfl, hw3⟩
          subst hw3
          dsimp only
          refine hK.out _ _ X2 (fun hHeld => ?_)
          clear hK KK
          try simp only [Act.put, List.setIfInBounds_toArray, List.set_cons_zero, List.set_cons_succ, List.getElem_toArray, List.getElem_cons_zero, List.getElem_cons_succ]
          refine wpAnyH_ready (rs := [3]) (by kernel_rfl) (by simp) ?_
          refine AllReadyH.cons rfl (fun KK hK => ?_) AllReadyH.nil
          have hlook := M2.look 1 (by decide)
          rw [if_pos rfl] at hlook
          go_simp
          refine hK.out _ _ X2 (fun hHeld => ?_)
          clear hK KK hlook
          try simp only [Act.put, List.setIfInBounds_toArray, List.set_cons_zero, List.set_cons_succ, List.getElem_toArray, List.getElem_cons_zero, List.getElem_cons_succ]
          refine wpAnyH_take (i := 7) (v := ?_) rfl (by kernel_rfl) (by kernel_rfl) (by kernel_rfl) (fun _ _ _ h => h) (Or.inl ⟨by rfl, fun v hv => ?_⟩) (by with_reducible assumption) ?_
          rotate_left
          · go_simp
            try with_reducible rfl
          simp only [Act.put, List.setIfInBounds_toArray, List.set_cons_zero, List.set_cons_succ, List.getElem_toArray, List.getElem_cons_zero, List.getElem_cons_succ]
          refine wpAnyH_ready (rs := [8]) (by kernel_rfl) (by simp) ?_
          refine AllReadyH.cons rfl (fun KK hK => ?_) AllReadyH.nil
          refine ready_go (by rfl) ?_
          refine wp_updI (.tmp 25) (.tmp 27) (.tmp 32) rfl w.heap.size (k + 2) _ _ M2 (by omega) 1 _ (by decide) HU rfl rfl rfl ?_
          intro w4 M4 g4
          have X4 : BlkV w4 wr.heap.size 52 [.int .i64 1, .int .i64 x.t, .int .i64 x.c, .string x.s] := ⟨(g4.block _ X2.size (by intro e; injection e with e; omega)).trans X2.heap⟩
          have HB4 := hid (HB2.out.grown g4 HB2.out.size (fun k hk => by injection hk with hk; omega))
          have HM4 := hid M4
          refine hK.out _ _ X4 (fun hHeld => ?_)
          clear hK KK
          try simp only [Act.put, List.setIfInBounds_toArray, List.set_cons_zero, List.set_cons_succ, List.getElem_toArray, List.getElem_cons_zero, List.getElem_cons_succ]
          refine wpAnyH_done (by kernel_rfl) ?_ _
          clear hHeld X4 g4 M4 M2 X2 CC HC
          go_wp2
          go_roundw
          case rel => exact ⟨k + 1, by omega, by go_num, by rw [HT.out, HT2.out]; exact (HM4.out).eq2 HAD.out rfl rfl, HB4.out⟩
          case measure => simp [intOf]; omega
      by_cases hk2 : x.k = 2
      · skip
        rw [hk2] at HR
        have bX : Below wr.heap.size wr (wr.alloc (.cells #[.int .i64 2, .int .i64 x.t, .int .i64 x.c, .string x.s] 52)) := (Below.refl _ _).alloc (Nat.le_refl _) _
        obtain ⟨v0, hv0⟩ := (HM.out.up bX).look_ok 2 (wfk_small (by omega) (by omega))
        rw [show decide ((2 : Int) = 1 ∨ (2 : Int) = 2) = true by decide] at hv0
        have HV0 := hv0
        clear hv0
        go_wp2_with (first
          | fail
          | refine wpList_load_mid rfl 52 (.tmp 15) rfl b (off + k * 4) rfl [.int .i64 2, .int .i64 x.t, .int .i64 x.c, .string x.s] _ (by with_reducible exact HR.out) Try.underlying52 rfl sizeI4 ?_)
        obtain ⟨w2, hw2⟩ : ∃ z, z = (wr.alloc (.cells #[.int .i64 2, .int .i64 x.t, .int .i64 x.c, .string x.s] 52)).drew := ⟨_, rfl⟩
        have b2 : Below wr.heap.size wr w2 := hw2 ▸ bX.drew
        have X2 : BlkV w2 wr.heap.size 52 [.int .i64 2, .int .i64 x.t, .int .i64 x.c, .string x.s] := hw2 ▸ (BlkV.new wr 52 [.int .i64 2, .int .i64 x.t, .int .i64 x.c, .string x.s]).drew
        have M2 : TwoI w2 w.heap.size (tot 1 (l.take k) : Nat) (tot 2 (l.take k) : Nat) (k + 2) := HM.out.up b2
        have HB2 := hid (HB.out.trans (b2.mono HB.out.size))
        have HC := hid (cnt_eq hk2)
        have HT := hid (tot_take 2 l hkl)
        have HT2 := hid (tot_take 1 l hkl)
        rw [← HX.out, cnt_ne (q := 1) (x := x) (by omega), Nat.add_zero] at HT2
        rw [← HX.out] at HT
        have htl := tot_le 2 (l.take (k + 1))
        have hll : (l.take (k + 1)).length = k + 1 := by rw [List.length_take]; omega
        rw [hll, HT.out] at htl
        obtain ⟨u, hu⟩ : ∃ u : Nat, u = cnt 2 x := ⟨_, rfl⟩
        rw [← hu] at HC HT htl
        have CC := hid (fun v => counted_c x.c v)
        rw [← HC.out] at CC
        have hadd : IntKind.i64.wrap (((tot 2 (l.take k) : Nat) : Int) + (u : Int)) = ((tot 2 (l.take k) + u : Nat) : Int) := by
          rw [IntKind.wrap_i64]; omega
        have HU : wfk (IntKind.i64.wrap (((tot 2 (l.take k) : Nat) : Int) + (u : Int))) := by
          rw [hadd]; exact wfk_small (by omega) (by omega)
        have HAD := hid hadd
        clear hadd hu hll bX b2 HV0 HR HB HM
        refine wp_region_held_drew (S := fun v => BlkV v wr.heap.size 52 [.int .i64 2, .int .i64 x.t, .int .i64 x.c, .string x.s]) (by kernel_rfl) (by rw [← hw2]; exact X2) (fun hHeld => ?_)
        rw [← hw2] at *
        refine wpAnyH_take (i := 0) (v := ?_) rfl (by kernel_rfl) (by kernel_rfl) (by kernel_rfl) (fun _ _ _ h => h) (Or.inl ⟨by rfl, fun v hv => ?_⟩) (by with_reducible assumption) ?_
        rotate_left
        · go_simp
          try with_reducible rfl
        simp only [Act.put, List.setIfInBounds_toArray, List.set_cons_zero, List.set_cons_succ, List.getElem_toArray, List.getElem_cons_zero, List.getElem_cons_succ]
        refine wpAnyH_take (i := 1) (v := ?_) rfl (by kernel_rfl) (by kernel_rfl) (by kernel_rfl) (fun _ _ _ h => h) (Or.inl ⟨by rfl, fun v hv => ?_⟩) (by with_reducible assumption) ?_
        rotate_left
        · go_simp
          try with_reducible rfl
        simp only [Act.put, List.setIfInBounds_toArray, List.set_cons_zero, List.set_cons_succ, List.getElem_toArray, List.getElem_cons_zero, List.getElem_cons_succ]
        refine wpAnyH_take (i := 2) (v := ?_) rfl (by kernel_rfl) (by kernel_rfl) (by kernel_rfl) (fun _ _ _ h => h) (Or.inl ⟨by rfl, fun v hv => ?_⟩) (by with_reducible assumption) ?_
        rotate_left
        · have hcc := (hv.four).1
          go_simp
          try with_reducible rfl
        simp only [Act.put, List.setIfInBounds_toArray, List.set_cons_zero, List.set_cons_succ, List.getElem_toArray, List.getElem_cons_zero, List.getElem_cons_succ]
        refine wpAnyH_take (i := 4) (v := ?_) rfl (by kernel_rfl) (by kernel_rfl) (by kernel_rfl) (fun _ _ _ h => h) (Or.inl ⟨by rfl, fun v hv => ?_⟩) (by with_reducible assumption) ?_
        rotate_left
        · go_simp
          try with_reducible rfl
        simp only [Act.put, List.setIfInBounds_toArray, List.set_cons_zero, List.set_cons_succ, List.getElem_toArray, List.getElem_cons_zero, List.getElem_cons_succ]
        refine wpAnyH_take (i := 5) (v := ?_) rfl (by kernel_rfl) (by kernel_rfl) (by kernel_rfl) (fun _ _ _ h => h) (Or.inl ⟨by rfl, fun v hv => ?_⟩) (by with_reducible assumption) ?_
        rotate_left
        · have hcc := (hv.four).2.2.1
          go_simp
          try with_reducible rfl
        simp only [Act.put, List.setIfInBounds_toArray, List.set_cons_zero, List.set_cons_succ, List.getElem_toArray, List.getElem_cons_zero, List.getElem_cons_succ]
        refine wpAnyH_ready (rs := [3, 6]) (by kernel_rfl) (by simp) ?_
        refine (AllReadyH.cons rfl (fun KK hK => ?_) (AllReadyH.cons rfl (fun KK hK => ?_) AllReadyH.nil))
        · have hlook := M2.look 2 (by decide)
          rw [if_neg (by decide)] at hlook
          go_simp
          refine hK.out _ _ X2 (fun hHeld => ?_)
          clear hK KK hlook
          try simp only [Act.put, List.setIfInBounds_toArray, List.set_cons_zero, List.set_cons_succ, List.getElem_toArray, List.getElem_cons_zero, List.getElem_cons_succ]
          refine wpAnyH_ready (rs := [6]) (by kernel_rfl) (by simp) ?_
          refine AllReadyH.cons rfl (fun KK hK => ?_) AllReadyH.nil
          go_simp
          go_at_call 27
          with_reducible refine (CC.out w2).mono ?_
          rintro e w3 ⟨rfl, hw3⟩
          subst hw3
          dsimp only
          refine hK.out _ _ X2 (fun hHeld => ?_)
          clear hK KK
          try simp only [Act.put, List.setIfInBounds_toArray, List.set_cons_zero, List.set_cons_succ, List.getElem_toArray, List.getElem_cons_zero, List.getElem_cons_succ]
          refine wpAnyH_take (i := 7) (v := ?_) rfl (by kernel_rfl) (by kernel_rfl) (by kernel_rfl) (fun _ _ _ h => h) (Or.inl ⟨by rfl, fun v hv => ?_⟩) (by with_reducible assumption) ?_
          rotate_left
          · go_simp
            try with_reducible rfl
          simp only [Act.put, List.setIfInBounds_toArray, List.set_cons_zero, List.set_cons_succ, List.getElem_toArray, List.getElem_cons_zero, List.getElem_cons_succ]
          refine wpAnyH_ready (rs := [8]) (by kernel_rfl) (by simp) ?_
          refine AllReadyH.cons rfl (fun KK hK => ?_) AllReadyH.nil
          refine ready_go (by rfl) ?_
          refine wp_updI (.tmp 25) (.tmp 27) (.tmp 32) rfl w.heap.size (k + 2) _ _ M2 (by omega) 2 _ (by decide) HU rfl rfl rfl ?_
          intro w4 M4 g4
          have X4 : BlkV w4 wr.heap.size 52 [.int .i64 2, .int .i64 x.t, .int .i64 x.c, .string x.s] := ⟨(g4.block _ X2.size (by intro e; injection e with e; omega)).trans X2.heap⟩
          have HB4 := hid (HB2.out.grown g4 HB2.out.size (fun k hk => by injection hk with hk; omega))
          have HM4 := hid M4
          refine hK.out _ _ X4 (fun hHeld => ?_)
          clear hK KK
          try simp only [Act.put, List.setIfInBounds_toArray, List.set_cons_zero, List.set_cons_succ, List.getElem_toArray, List.getElem_cons_zero, List.getElem_cons_succ]
          refine wpAnyH_done (by kernel_rfl) ?_ _
          clear hHeld X4 g4 M4 M2 X2 CC HC
          go_wp2
          go_roundw
          case rel => exact ⟨k + 1, by omega, by go_num, by rw [HT.out, HT2.out]; exact (HM4.out).eq2 rfl HAD.out rfl, HB4.out⟩
          case measure => simp [intOf]; omega
        · go_simp
          go_at_call 27
          with_reducible refine (CC.out w2).mono ?_
          rintro e w3 ⟨rfl, hw3⟩
          subst hw3
          dsimp only
          refine hK.out _ _ X2 (fun hHeld => ?_)
          clear hK KK
          try simp only [Act.put, List.setIfInBounds_toArray, List.set_cons_zero, List.set_cons_succ, List.getElem_toArray, List.getElem_cons_zero, List.getElem_cons_succ]
          refine wpAnyH_ready (rs := [3]) (by kernel_rfl) (by simp) ?_
          refine AllReadyH.cons rfl (fun KK hK => ?_) AllReadyH.nil
          have hlook := M2.look 2 (by decide)
          rw [if_neg (by decide)] at hlook
          go_simp
          refine hK.out _ _ X2 (fun hHeld => ?_)
          clear hK KK hlook
          try simp only [Act.put, List.setIfInBounds_toArray, List.set_cons_zero, List.set_cons_succ, List.getElem_toArray, List.getElem_cons_zero, List.getElem_cons_succ]
          refine wpAnyH_take (i := 7) (v := ?_) rfl (by kernel_rfl) (by kernel_rfl) (by kernel_rfl) (fun _ _ _ h => h) (Or.inl ⟨by rfl, fun v hv => ?_⟩) (by with_reducible assumption) ?_
          rotate_left
          · go_simp
            try with_reducible rfl
          simp only [Act.put, List.setIfInBounds_toArray, List.set_cons_zero, List.set_cons_succ, List.getElem_toArray, List.getElem_cons_zero, List.getElem_cons_succ]
          refine wpAnyH_ready (rs := [8]) (by kernel_rfl) (by simp) ?_
          refine AllReadyH.cons rfl (fun KK hK => ?_) AllReadyH.nil
          refine ready_go (by rfl) ?_
          refine wp_updI (.tmp 25) (.tmp 27) (.tmp 32) rfl w.heap.size (k + 2) _ _ M2 (by omega) 2 _ (by decide) HU rfl rfl rfl ?_
          intro w4 M4 g4
          have X4 : BlkV w4 wr.heap.size 52 [.int .i64 2, .int .i64 x.t, .int .i64 x.c, .string x.s] := ⟨(g4.block _ X2.size (by intro e; injection e with e; omega)).trans X2.heap⟩
          have HB4 := hid (HB2.out.grown g4 HB2.out.size (fun k hk => by injection hk with hk; omega))
          have HM4 := hid M4
          refine hK.out _ _ X4 (fun hHeld => ?_)
          clear hK KK
          try simp only [Act.put, List.setIfInBounds_toArray, List.set_cons_zero, List.set_cons_succ, List.getElem_toArray, List.getElem_cons_zero, List.getElem_cons_succ]
          refine wpAnyH_done (by kernel_rfl) ?_ _
          clear hHeld X4 g4 M4 M2 X2 CC HC
          go_wp2
          go_roundw
          case rel => exact ⟨k + 1, by omega, by go_num, by rw [HT.out, HT2.out]; exact (HM4.out).eq2 rfl HAD.out rfl, HB4.out⟩
          case measure => simp [intOf]; omega
      · have bX : Below wr.heap.size wr (wr.alloc (.cells #[.int .i64 x.k, .int .i64 x.t, .int .i64 x.c, .string x.s] 52)) := (Below.refl _ _).alloc (Nat.le_refl _) _
        obtain ⟨v0, hv0⟩ := (HM.out.up bX).look_ok x.k hxw
        rw [show decide (x.k = 1 ∨ x.k = 2) = false from decide_eq_false (by omega)] at hv0
        have HM1 := hid (HM.out.up bX)
        have HB1 := hid (HB.out.trans (bX.mono HB.out.size))
        have HT := hid (tot_take 1 l hkl)
        have HT2 := hid (tot_take 2 l hkl)
        rw [← HX.out, cnt_ne (q := 1) (x := x) hk1, Nat.add_zero] at HT
        rw [← HX.out, cnt_ne (q := 2) (x := x) hk2, Nat.add_zero] at HT2
        clear bX HM HB
        go_wp2_with (first
          | fail
          | refine wpList_load_mid rfl 52 (.tmp 15) rfl b (off + k * 4) rfl [.int .i64 x.k, .int .i64 x.t, .int .i64 x.c, .string x.s] _ (by with_reducible exact HR.out) Try.underlying52 rfl sizeI4 ?_)
        go_roundw
        case rel => exact ⟨k + 1, by omega, by go_num, by rw [HT.out, HT2.out]; obtain ⟨m, D, q0, q⟩ := HM1.out.ex; exact ⟨m, D, by omega, q⟩, HB1.out⟩
        case measure => simp [intOf]; omega
    · obtain rfl : k = n := by omega
      rw [List.take_of_length_le (by omega)] at hm
      have L1 := fun z => (hm.up (w' := wr.drewN z) ⟨rfl, rfl, rfl, Nat.le_refl _, fun _ _ => rfl⟩).look 1 (by decide)
      have L2 := fun z => (hm.up (w' := wr.drewN z) ⟨rfl, rfl, rfl, Nat.le_refl _, fun _ _ => rfl⟩).look 2 (by decide)
      rw [if_pos rfl] at L1
      rw [if_neg (by decide)] at L2
      clear hm
      go_wp2
      go_quiet (fail)
      go_wp2
      go_ret2
      exact ⟨rfl, below_drewN hb _⟩
set_option maxRecDepth 20000 in
set_option maxHeartbeats 2000000 in
theorem rtotal_c {B : Nat} (A : Option Addr) (n c : Nat) (l : List IV) (q : Int) (w : World) (ha : RdV w B A n l) (hn : n ≤ 2000) :
    Calls Try.prog 15 #[.slice A n c, .int .i64 q] w fun e w' => e = .returned (.int .i64 (tot q l : Nat)) ∧ w' = w := by
  have HA := hid ha
  have hln := ha.len
  clear ha
  go_enter Try.func15, Try.ntmps15
  go_wp2
  go_loop [5, 6] (fun s i => ∃ k : Nat, k ≤ n ∧ i = .int .i64 k ∧ s = .int .i64 (tot q (l.take k) : Nat)) (fun _ i => n - (intOf i).toNat)
  case atStart => exact ⟨0, by omega, rfl, rfl⟩
  case round =>
    obtain ⟨k, hk, rfl, rfl⟩ := hrel
    by_cases hlt : k < n
    · have hkl : k < l.length := by omega
      obtain ⟨b, off, rfl, hbB, hc⟩ := HA.out.at_ hlt
      obtain ⟨x, hx⟩ : ∃ x, x = l[k]'hkl := ⟨_, rfl⟩
      rw [← hx] at hc
      have hT := tot_take q l hkl
      have htl := tot_le q (l.take (k + 1))
      have hll : (l.take (k + 1)).length = k + 1 := by rw [List.length_take]; omega
      rw [hll, hT] at htl
      rw [← hx] at hT htl
      have HT := hid hT
      obtain ⟨x0, x1, x2, x3⟩ := ivc_cells hc
      have k0 : (0 : Int) ≤ (k : Int) := by omega
      have k1 : (k : Int) < (n : Int) := by omega
      clear hc hx hll hT x1 x3
      by_cases g1 : x.k = q
      · by_cases g2 : 0 < x.c
        · by_cases g3 : x.c ≤ 1048576
          · have hcn : ((cnt q x : Nat) : Int) = x.c := by rw [cnt_eq g1, if_pos ⟨g2, g3⟩]
            have HAD : Hid (((tot q (l.take k) : Nat) : Int) + x.c = ((tot q (l.take k) + cnt q x : Nat) : Int)) := by show _ = _; omega
            have hlo : (0 : Int) ≤ ((tot q (l.take k) : Nat) : Int) + x.c := by omega
            have hhi : ((tot q (l.take k) : Nat) : Int) + x.c ≤ 9000000000 := by omega
            have gq : (x.k == q) = true := by simpa using g1
            clear hcn htl g1
            go_wp2
            go_round
            case rel => exact ⟨k + 1, by omega, by go_num, by rw [HT.out, ← HAD.out]⟩
            case measure => simp [intOf]; omega
          · have hcn : cnt q x = 0 := by unfold cnt; rw [if_neg (fun h => g3 h.2.2)]
            rw [hcn, Nat.add_zero] at HT
            have gq : (x.k == q) = true := by simpa using g1
            clear hcn htl g1
            go_wp2
            go_round
            case rel => exact ⟨k + 1, by omega, by go_num, by rw [HT.out]; rfl⟩
            case measure => simp [intOf]; omega
        · have hcn : cnt q x = 0 := by unfold cnt; rw [if_neg (fun h => g2 h.2.1)]
          rw [hcn, Nat.add_zero] at HT
          have gq : (x.k == q) = true := by simpa using g1
          clear hcn htl g1
          go_wp2
          go_round
          case rel => exact ⟨k + 1, by omega, by go_num, by rw [HT.out]; rfl⟩
          case measure => simp [intOf]; omega
      · have hcn : cnt q x = 0 := cnt_ne g1
        rw [hcn, Nat.add_zero] at HT
        have gq : (x.k == q) = false := by simpa using g1
        clear hcn htl g1
        go_wp2
        go_round
        case rel => exact ⟨k + 1, by omega, by go_num, by rw [HT.out]; rfl⟩
        case measure => simp [intOf]; omega
    · obtain rfl : k = n := by omega
      have HE : Hid (l.take k = l) := List.take_of_length_le (by omega)
      go_wp2
      go_ret
      exact ⟨by rw [HE.out]; rfl, rfl⟩
end Go.Proofs.Ytokfldecjknamaa
