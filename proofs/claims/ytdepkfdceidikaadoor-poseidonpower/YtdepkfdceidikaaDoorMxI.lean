/-
  matrix.Matrix.Apply: what the call does; own rows of elements, as integers (PZ); matrix.everywhere.
-/
import Derived.Test.YtdepkfdceidikaaDoorMxH
import Derived.Test.YtdepkfdceidikaaDoorCalA
namespace Go.Proofs.YtdepkfdceidikaaDoor
open Go.RowKit
set_option linter.unusedVariables false
set_option linter.unusedSimpArgs false

set_option maxRecDepth 20000 in
set_option maxHeartbeats 1000000 in
theorem apply_c (f g : Nat → Int) (M : MZ) (X : Nat → Int) (w : World) (hM : MatZ f M) (hX : VecZ g X) (hG : Glob w) :
    Calls Tryd.prog 14 #[.agg (wds 36 f).toArray, .agg (wds 12 g).toArray] w fun e w' => ∃ r, e = .returned (.agg (wds 12 r).toArray) ∧ VecZ r (mzApply M X) ∧ Below w.heap.size w w' := by
  have hz := zeroV
  have hlz := wds_len 12 z0
  have hlm := wds_len 36 f
  have hlg := wds_len 12 g
  have e1 : (w.alloc (oF 40 36 f)).heap.size = w.heap.size + 1 := by simp
  have e2 : ((w.alloc (oF 40 36 f)).alloc (oF 38 12 g)).heap.size = w.heap.size + 1 + 1 := by simp
  have e3 : (((w.alloc (oF 40 36 f)).alloc (oF 38 12 g)).alloc (oF 38 12 z0)).heap.size = w.heap.size + 1 + 1 + 1 := by simp
  have h1 := (((oF_new w 40 36 f).alloc (oF 38 12 g)).alloc (oF 38 12 z0)).alloc (oF 38 12 z0)
  have h2 := ((oF_new (w.alloc (oF 40 36 f)) 38 12 g).alloc (oF 38 12 z0)).alloc (oF 38 12 z0)
  have h3 := (oF_new ((w.alloc (oF 40 36 f)).alloc (oF 38 12 g)) 38 12 z0).alloc (oF 38 12 z0)
  have h4 := oF_new (((w.alloc (oF 40 36 f)).alloc (oF 38 12 g)).alloc (oF 38 12 z0)) 38 12 z0
  rw [e1] at h2
  rw [e2] at h3
  rw [e3] at h4
  have hb := ((((Below.refl w.heap.size w).alloc (Nat.le_refl _) (oF 40 36 f)).alloc (by omega) (oF 38 12 g)).alloc (by omega) (oF 38 12 z0)).alloc (by omega) (oF 38 12 z0)
  have HO := hid h1.range
  have R0 := hid (show FRel w (w.heap.size + 1 + 1 + 1) 38 12 (VP (mzApply M X) 0) (w.heap.size + 1 + 1) 38 12 (w.heap.size + 1) 38 (wds 12 g) _ from ⟨⟨z0, h4, VP.zero _ _⟩, h3, h2, hb⟩)
  have HM := hid hM
  have HX := hid hX
  have HG := hid hG
  clear h1 h2 h3 h4 hM hX hG e1 e2 e3 hb
  unfold oF at HO R0
  go_enter Tryd.func14, Tryd.ntmps14
  go_wp2_with (first
    | with_reducible refine wpList_load_mid rfl 40 (.tmp 2) rfl (w.heap.size) (0) rfl (wds 36 f) _ (by with_reducible exact HO.out) Tryd.underlying40 rfl (sizeM _) ?_)
  clear HO
  generalize ((((w.alloc _).alloc _).alloc _).alloc _) = w0 at *
  go_loopw [9] (fun i wr => ∃ k : Nat, k ≤ 3 ∧ i = .int .i64 k ∧ FRel w (w.heap.size + 1 + 1 + 1) 38 12 (VP (mzApply M X) k) (w.heap.size + 1 + 1) 38 12 (w.heap.size + 1) 38 (wds 12 g) wr) (fun i _ => 3 - (intOf i).toNat)
  case atStart => exact ⟨0, by omega, rfl, R0.out⟩
  case round =>
    clear R0
    obtain ⟨k, hk, rfl, hrel⟩ := hrel
    by_cases hlt : k < 3
    · have i0 : (0 : Int) ≤ (k : Int) := by omega
      have i2 : (k : Int) < 3 := by omega
      have hix := index_m wr f hlt
      have HA := hid (HM.out.row hlt)
      obtain ⟨a, ha⟩ : ∃ a : Nat → Int, a = fun m => f (k * 12 + m) := ⟨_, rfl⟩
      rw [← ha] at hix HA
      obtain ⟨n1, n2, n3⟩ := newRow wr 38 12 a
      have hr1 := hrel.up n3
      have hlt1 := hrel.b.size
      have N1 := hid n1
      have HO1 := hid n2.range
      have HO2 := hid hr1.x.range
      have HR1 := hid hr1
      have hla := wds_len 12 a
      clear n1 n2 n3 hrel hr1 ha
      unfold oF at N1 HO1 HO2 HR1
      go_wp2_with (first
    | with_reducible refine wpList_store_mid rfl 38 (.tmp 7) (.tmp 12) rfl (wr.heap.size) (0) (wds 12 a).toArray rfl rfl (by with_reducible exact N1.out) (sizeVA _) (wds_all _ _) ?_
    | with_reducible refine wpList_load_mid rfl 38 (.tmp 7) rfl (wr.heap.size) (0) rfl (wds 12 a) _ (by with_reducible exact HO1.out) Tryd.underlying38 rfl (sizeV _) ?_
    | with_reducible refine wpList_load_mid rfl 38 (.tmp 3) rfl (w.heap.size + 1) (0) rfl (wds 12 g) _ (by with_reducible exact HO2.out) Tryd.underlying38 rfl (sizeV _) ?_
    | fail)
      obtain ⟨w1, hw1⟩ : ∃ v, v = (wr.alloc (.cells (wds 12 z0).toArray 38)).setCells wr.heap.size 0 (wds 12 a) := ⟨_, rfl⟩
      rw [← hw1] at HR1
      try rw [← hw1]
      try change Calls _ _ _ w1 _
      have HD : Hid (dotZ (M k) X 3 = mzApply M X k) := by
        show 0 + M k 0 * X 0 + M k 1 * X 1 + M k 2 * X 2 = M k 0 * X 0 + M k 1 * X 1 + M k 2 * X 2
        rw [Int.zero_add]
      refine (times_c a g (M k) X _ HA.out HX.out (HG.out.up HR1.out.b)).mono ?_
      rintro e w2 ⟨r, rfl, he, b2⟩
      rw [HD.out] at he
      obtain ⟨gr, rfl⟩ := he.fn
      have hr2 := FRel.up HR1.out b2
      have HT := hid (hr2.there (k * 4) 4 gr (by omega))
      have HST := hid (hr2.set (P' := VP (mzApply M X) (k + 1)) (k * 4) 4 gr (by omega) (by omega) (by omega) (by omega) (fun s hs => VP.put hs he))
      clear hw1 hr2 HR1 b2 he HO1 HO2 N1
      go_wp2_with (first
    | with_reducible refine wpList_store_mid rfl 27 (.tmp 17) (.tmp 16) rfl (w.heap.size + 1 + 1 + 1) (k * 4) (wds 4 gr).toArray rfl rfl (by with_reducible exact HT.out) (sizeEA _) (wds_all _ _) ?_)
      go_roundw
      case rel => exact ⟨k + 1, by omega, by go_num, HST.out⟩
      case measure => simp [intOf]; omega
    · obtain rfl : k = 3 := by omega
      obtain ⟨⟨r, h1, h2⟩, h3, h4, h5⟩ := hrel
      have HO := hid h1.range
      have HV : Hid (VecZ r (mzApply M X)) := ⟨fun i hi => h2 i hi⟩
      have HT := hid (h3.thereW 0 12 r (by decide))
      have HR := hid (h3.lay0 r).range
      have HB := hid (below_cells (show w.heap.size ≤ w.heap.size + 1 + 1 by omega) (wds 12 r) 0 _ h5)
      clear h1 h2 h3 h4 h5
      go_wp2_with (first
    | with_reducible refine wpList_load_mid rfl 38 (.tmp 5) rfl (w.heap.size + 1 + 1 + 1) (0) rfl (wds 12 r) _ (by with_reducible exact HO.out) Tryd.underlying38 rfl (sizeV _) ?_
    | with_reducible refine wpList_store_mid rfl 38 (.tmp 4) (.tmp 19) rfl (w.heap.size + 1 + 1) (0) (wds 12 r).toArray rfl rfl (by with_reducible exact HT.out) (sizeVA _) (wds_all _ _) ?_)
      refine bodyPost_ret (results_cell1 Tryd.results14 ⟨w.heap.size + 1 + 1, 0, none⟩ _ rfl (run_loadVar_mid _ (w.heap.size + 1 + 1) 0 38 (wds 12 r) _ HR.out Tryd.underlying38 rfl (sizeV _))) rfl ?_
      exact ⟨_, rfl, HV.out, HB.out⟩

/-- An element that is none. -/
def q0 : Qd := (0, 0, 0, 0, 0)
/-- The slice v owns the elements of the integers Xs, among the blocks from base on. -/
structure PZ (w : World) (base : Nat) (v : Value) (Xs : List Int) : Prop where
  ex : ∃ L : List Qd, OwnE w base v L ∧ L.length = Xs.length ∧ ∀ i, i < Xs.length → Ez (qv (L.getD i q0)) (Xs.getD i 0)
theorem PZ.below {w w' : World} {b B : Nat} {v : Value} {Xs : List Int} (h : PZ w b v Xs) (hb : Below B w w') (hB : w.heap.size ≤ B) : PZ w' b v Xs := by
  obtain ⟨L, h1, h2⟩ := h.ex
  exact ⟨L, h1.below hb hB, h2⟩
theorem PZ.up {w w' : World} {b : Nat} {v : Value} {Xs : List Int} (h : PZ w b v Xs) (hb : Below w.heap.size w w') : PZ w' b v Xs := h.below hb (Nat.le_refl _)
theorem PZ.mono {w : World} {b b' : Nat} {v : Value} {Xs : List Int} (h : PZ w b v Xs) (hb : b' ≤ b) : PZ w b' v Xs := by
  obtain ⟨L, h1, h2⟩ := h.ex
  exact ⟨L, OwnE.mono h1 hb, h2⟩
theorem PZ.lt {w : World} {b : Nat} {v : Value} {Xs : List Int} (h : PZ w b v Xs) : ∀ k, v.ownBlock = some k → b ≤ k ∧ k < w.heap.size := by
  obtain ⟨L, h1, _⟩ := h.ex
  exact h1.lt
theorem PZ.nil (w : World) (b : Nat) : PZ w b (.slice none 0 0) [] := ⟨[], World.ownsRow_nil w _ _ 4, rfl, fun i hi => absurd hi (Nat.not_lt_zero i)⟩
theorem PZ.moved {w w' : World} {b : Nat} {v v' : Value} {Xs : List Int} (h : PZ w b v Xs) (hm : Moved w w' v v') (hb : b ≤ w.heap.size) : Below b w w' :=
  (Below.refl b w).grown hm.gb hb (fun k hk => (h.lt k hk).1)
theorem ez_append {L M : List Qd} {Xs Ys : List Int} (h1 : L.length = Xs.length) (h2 : M.length = Ys.length) (e1 : ∀ i, i < Xs.length → Ez (qv (L.getD i q0)) (Xs.getD i 0)) (e2 : ∀ i, i < Ys.length → Ez (qv (M.getD i q0)) (Ys.getD i 0)) :
    ∀ i, i < (Xs ++ Ys).length → Ez (qv ((L ++ M).getD i q0)) ((Xs ++ Ys).getD i 0) := by
  intro i hi
  rw [List.length_append] at hi
  rcases Nat.lt_or_ge i Xs.length with h | h
  · rw [List.getD_eq_getElem?_getD, List.getD_eq_getElem?_getD, List.getElem?_append_left (by omega), List.getElem?_append_left h]
    have := e1 i h
    rwa [List.getD_eq_getElem?_getD, List.getD_eq_getElem?_getD] at this
  · rw [List.getD_eq_getElem?_getD, List.getD_eq_getElem?_getD, List.getElem?_append_right (by omega), List.getElem?_append_right h, h1]
    have := e2 (i - Xs.length) (by omega)
    rwa [List.getD_eq_getElem?_getD, List.getD_eq_getElem?_getD] at this
/-- append onto an own row of elements. -/
theorem run_app_pz (w : World) (base : Nat) (ty : TypeId) (v : Value) (Xs Ys : List Int) (hP : PZ w base v Xs) (a : Addr) (c : Nat) (M : List Qd) (hM : 0 < M.length) (hMY : M.length = Ys.length)
    (hEz : ∀ i, i < Ys.length → Ez (qv (M.getD i q0)) (Ys.getD i 0)) (hnews : ∀ j u, (flat M)[j]? = some u → w.cell? (a.add j) = some u) (hlen : Xs.length + Ys.length ≤ 1000000) (hbase : base ≤ w.heap.size) :
    ∃ v' w', (Builtin.append_ #[89, 89] ty #[v, .slice (some a) M.length c]).run Tryd.prog w = .ok v' w' ∧ PZ w' base v' (Xs ++ Ys) ∧ Moved w w' v v' := by
  obtain ⟨L, h1, h2, h3⟩ := hP.ex
  obtain ⟨v', w', hr, g2, g3, g4⟩ := run_append_els w base ty v L M h1 a c hM hnews (by omega) hbase
  exact ⟨v', w', hr, ⟨L ++ M, g2, by rw [List.length_append, List.length_append, h2, hMY], ez_append h2 hMY h3 hEz⟩, g3, g4⟩
/-- The operation. -/
theorem wp_app_pz {o : Oper} {a : Act} {w : World} {K : Act → World → Prop} {Q : Exit → Act → World → Prop} (s x : Operand)
    (ho : o.op = .call { callee := .builtin .append, args := #[s, x], argTypes := #[89, 89] })
    (v : Value) (base : Nat) (Xs Ys : List Int) (ad : Addr) (n c : Nat) (M : List Qd) (hs : a.eval s = v) (hx : a.eval x = .slice (some ad) n c) (hn : n = M.length) (hP : PZ w base v Xs) (hM : 0 < M.length) (hMY : M.length = Ys.length)
    (hEz : ∀ i, i < Ys.length → Ez (qv (M.getD i q0)) (Ys.getD i 0)) (hnews : ∀ j u, (flat M)[j]? = some u → w.cell? (ad.add j) = some u) (hlen : Xs.length + Ys.length ≤ 1000000) (hbase : base ≤ w.heap.size)
    (h : ∀ v' w', PZ w' base v' (Xs ++ Ys) → Moved w w' v v' → K (a.put o.dst v') w') : o.wp Tryd.prog a w K Q := by
  subst hn
  obtain ⟨v', w', hr, g2, g3⟩ := run_app_pz w base o.type v Xs Ys hP ad c M hM hMY hEz hnews hlen hbase
  unfold Oper.wp execOp
  simp only [ho, resolve, invoke, builtin, Sem.run_bind, Sem.run_pure, Result.andThen_ok, List.map_toArray, List.map_cons, List.map_nil, hs, hx, hr]
  exact h v' w' g2 g3
theorem wpList_app_pz {ops : Array Oper} {rest : List Oper} {o : Oper} {a : Act} {Q : Exit → Act → World → Prop} {w : World} (hgd : o.guard = none) (s x : Operand)
    (ho : o.op = .call { callee := .builtin .append, args := #[s, x], argTypes := #[89, 89] })
    (v : Value) (base : Nat) (Xs Ys : List Int) (ad : Addr) (n c : Nat) (M : List Qd) (hs : a.eval s = v) (hx : a.eval x = .slice (some ad) n c) (hn : n = M.length) (hP : PZ w base v Xs) (hM : 0 < M.length) (hMY : M.length = Ys.length)
    (hEz : ∀ i, i < Ys.length → Ez (qv (M.getD i q0)) (Ys.getD i 0)) (hnews : ∀ j u, (flat M)[j]? = some u → w.cell? (ad.add j) = some u) (hlen : Xs.length + Ys.length ≤ 1000000) (hbase : base ≤ w.heap.size)
    (h : ∀ v' w', PZ w' base v' (Xs ++ Ys) → Moved w w' v v' → wpList Tryd.prog ops Q rest (a.put o.dst v') w') : wpList Tryd.prog ops Q (o :: rest) a w :=
  wpList_plain hgd fun K hK => wp_app_pz s x ho v base Xs Ys ad n c M hs hx hn hP hM hMY hEz hnews hlen hbase fun v' w' g1 g2 => hK _ _ (h v' w' g1 g2)
/-- A vector's words as elements. -/
def vq (f : Nat → Int) : List Qd := [(f 0, f 1, f 2, f 3, 0), (f 4, f 5, f 6, f 7, 0), (f 8, f 9, f 10, f 11, 0)]
theorem vq_flat (f : Nat → Int) : flat (vq f) = wds 12 f := by rw [wds_eq]; rfl
theorem vq_ez {f X : Nat → Int} (h : VecZ f X) : ∀ i, i < [X 0, X 1, X 2].length → Ez (qv ((vq f).getD i q0)) ([X 0, X 1, X 2].getD i 0) := by
  intro i hi
  have h0 := h.el (i := 0) (by decide)
  have h1 := h.el (i := 1) (by decide)
  have h2 := h.el (i := 2) (by decide)
  rw [wds_4] at h0 h1 h2
  match i, hi with
  | 0, _ => exact h0
  | 1, _ => exact h1
  | 2, _ => exact h2
/-- The elements of the first k rows. -/
def rowsL (X : MZ) : Nat → List Int
  | 0 => []
  | k + 1 => rowsL X k ++ [X k 0, X k 1, X k 2]
theorem rowsL_len (X : MZ) : ∀ k, (rowsL X k).length = 3 * k
  | 0 => rfl
  | k + 1 => by
    show (rowsL X k ++ _).length = _
    rw [List.length_append, rowsL_len X k]
    rfl
set_option maxRecDepth 20000 in
set_option maxHeartbeats 1000000 in
theorem everywhere_c (n : Nat) (first cap : Array Value) (X : MZ) (w : World) (hf : ∀ A v, (callFunc n A).run Tryd.prog v = .ok (.enter n A) v)
    (HC : ∀ v i j, i < 3 → j < 3 → Below w.heap.size w v → Calls Tryd.prog n (first ++ #[.int .i64 ((i : Nat) : Int), .int .i64 ((j : Nat) : Int)] ++ cap) v fun e v' => ∃ r, e = .returned r ∧ Ez r (X i j) ∧ Below v.heap.size v v') :
    Calls Tryd.prog 71 #[.func (.func n) first cap] w fun e w' => ∃ v, e = .returned v ∧ PZ w' w.heap.size v (rowsL X 3) ∧ Below w.heap.size w w' := by
  have CF := filled_c n first cap X w hf HC
  have hz := zeroV
  have hlz := wds_len 12 z0
  clear hf HC
  go_enter Tryd.func71, Tryd.ntmps71
  go_wp2_with fail
  refine CF.mono ?_
  rintro e w1 ⟨f, rfl, hf, b1⟩
  have HF := hid hf
  have B1 := hid b1
  clear CF hf b1
  go_wp2_with fail
  go_loopw [3, 8] (fun s i wr => ∃ k : Nat, k ≤ 3 ∧ i = .int .i64 k ∧ PZ wr w.heap.size s (rowsL X k) ∧ Below w.heap.size w wr) (fun _ i _ => 3 - (intOf i).toNat)
  case atStart => exact ⟨0, by omega, rfl, PZ.nil _ _, B1.out⟩
  case round =>
    clear B1
    obtain ⟨k, hk, rfl, hP, hb⟩ := hrel
    by_cases hlt : k < 3
    · have i0 : (0 : Int) ≤ (k : Int) := by omega
      have i2 : (k : Int) < 3 := by omega
      have hix := index_m wr f hlt
      have HA := hid (HF.out.row hlt)
      obtain ⟨a, ha⟩ : ∃ a : Nat → Int, a = fun m => f (k * 12 + m) := ⟨_, rfl⟩
      rw [← ha] at hix HA
      obtain ⟨n1, n2, n3⟩ := newRow wr 38 12 a
      have hP1 := hP.up n3
      have N1 := hid n1
      have HCl : Hid (∀ j u, (flat (vq a))[j]? = some u → World.cell? _ ((⟨wr.heap.size, 0, none⟩ : Addr).add j) = some u) := fun j u hj => by rw [vq_flat] at hj; rw [Addr.add_mid]; exact n2.range j u hj
      have HSz := hid n3.size
      have HE3 := hid (vq_ez HA.out)
      have HP := hid hP1
      have HB := hid (bchain hb n3)
      have hla := wds_len 12 a
      have hl := rowsL_len X k
      have HL : Hid ((rowsL X k).length + [X k 0, X k 1, X k 2].length ≤ 1000000) := by show _ ≤ _; rw [hl]; show 3 * k + 3 ≤ _; omega
      have HS := hid hb.size
      clear n1 n2 n3 hP hP1 ha hb hl
      unfold oF at N1 HCl HP HB HSz
      go_wp2_with (first
    | with_reducible refine wpList_store_mid rfl 38 (.tmp 5) (.tmp 10) rfl (wr.heap.size) (0) (wds 12 a).toArray rfl rfl (by with_reducible exact N1.out) (sizeVA _) (wds_all _ _) ?_
    | (at_builtin; (refine wpList_app_pz rfl (.tmp 11) (.tmp 12) rfl u3 w.heap.size (rowsL X k) [X k 0, X k 1, X k 2] ⟨wr.heap.size, 0, none⟩ 3 3 (vq a) rfl rfl rfl (by with_reducible exact HP.out) (Nat.succ_pos _) rfl HE3.out (by with_reducible exact HCl.out) HL.out (Nat.le_trans HS.out HSz.out) ?_)))
      intro v1 w2 g1 g2
      have g3 := HB.out.trans (HP.out.moved g2 (Nat.le_trans HS.out HSz.out))
      have G1 : Hid (PZ w2 w.heap.size v1 (rowsL X (k + 1))) := g1
      clear HP HB N1 HCl HE3 HSz g1 g2
      try go_wp2_with fail
      go_roundw
      case rel => exact ⟨k + 1, by omega, by go_num, G1.out, g3⟩
      case measure => simp [intOf]; omega
    · obtain rfl : k = 3 := by omega
      have HP := hid hP
      have HB := hid hb
      clear hP hb
      go_wp2
      go_ret
      exact ⟨_, rfl, HP.out, HB.out⟩
end Go.Proofs.YtdepkfdceidikaaDoor
