import Derived.Test.YtdepkfdceidikaaGreatDoorFSumB
import Derived.Test.YtdepkfdceidikaaGreatDoorCalA
/-
  matrix.Matrix.Apply: what the call does; own rows of elements, as integers (PZ); matrix.everywhere.
-/
namespace Go.Proofs.YtdepkfdceidikaaGreatDoor
open Go.RowKit
set_option linter.unusedVariables false
set_option linter.unusedSimpArgs false

set_option maxRecDepth 20000 in
set_option maxHeartbeats 1000000 in
theorem apply_c (f g : Nat → Int) (M : MZ) (X : Nat → Int) (w : World) (hM : MatZ f M) (hX : VecZ g X) (hG : Glob w) :
    Calls Tryz.prog 24 #[.agg (wds 36 f).toArray, .agg (wds 12 g).toArray] w fun e w' => ∃ r, e = .returned (.agg (wds 12 r).toArray) ∧ VecZ r (mzApply M X) ∧ Below w.heap.size w w' := by
  have hz := zeroV
  have hlz := wds_len 12 z0
  have hlm := wds_len 36 f
  have hlg := wds_len 12 g
  have e1 : (w.alloc (oF 57 36 f)).heap.size = w.heap.size + 1 := by simp
  have e2 : ((w.alloc (oF 57 36 f)).alloc (oF 39 12 g)).heap.size = w.heap.size + 1 + 1 := by simp
  have e3 : (((w.alloc (oF 57 36 f)).alloc (oF 39 12 g)).alloc (oF 39 12 z0)).heap.size = w.heap.size + 1 + 1 + 1 := by simp
  have h1 := (((oF_new w 57 36 f).alloc (oF 39 12 g)).alloc (oF 39 12 z0)).alloc (oF 39 12 z0)
  have h2 := ((oF_new (w.alloc (oF 57 36 f)) 39 12 g).alloc (oF 39 12 z0)).alloc (oF 39 12 z0)
  have h3 := (oF_new ((w.alloc (oF 57 36 f)).alloc (oF 39 12 g)) 39 12 z0).alloc (oF 39 12 z0)
  have h4 := oF_new (((w.alloc (oF 57 36 f)).alloc (oF 39 12 g)).alloc (oF 39 12 z0)) 39 12 z0
  rw [e1] at h2
  rw [e2] at h3
  rw [e3] at h4
  have hb := ((((Below.refl w.heap.size w).alloc (Nat.le_refl _) (oF 57 36 f)).alloc (by omega) (oF 39 12 g)).alloc (by omega) (oF 39 12 z0)).alloc (by omega) (oF 39 12 z0)
  have HO := hid h1.range
  have R0 := hid (show FRel w (w.heap.size + 1 + 1 + 1) 39 12 (VP (mzApply M X) 0) (w.heap.size + 1 + 1) 39 12 (w.heap.size + 1) 39 (wds 12 g) _ from ⟨⟨z0, h4, VP.zero _ _⟩, h3, h2, hb⟩)
  have HM := hid hM
  have HX := hid hX
  have HG := hid hG
  clear h1 h2 h3 h4 hM hX hG e1 e2 e3 hb
  unfold oF at HO R0
  go_enter Tryz.func24, Tryz.ntmps24
  go_wp2_with (first
    | with_reducible refine wpList_load_mid rfl 57 (.tmp 2) rfl (w.heap.size) (0) rfl (wds 36 f) _ (by with_reducible exact HO.out) Tryz.underlying57 rfl (sizeM _) ?_)
  clear HO
  generalize ((((w.alloc _).alloc _).alloc _).alloc _) = w0 at *
  go_loopw [9] (fun i wr => ∃ k : Nat, k ≤ 3 ∧ i = .int .i64 k ∧ FRel w (w.heap.size + 1 + 1 + 1) 39 12 (VP (mzApply M X) k) (w.heap.size + 1 + 1) 39 12 (w.heap.size + 1) 39 (wds 12 g) wr) (fun i _ => 3 - (intOf i).toNat)
  case atStart => exact ⟨0, by omega, rfl, R0.out⟩
  case round =>
    clear R0
    obtain ⟨k, hk, rfl, hrel⟩ := hrel
    by_cases hlt : k < 3
    · have i0 : (0 : Int) ≤ (k : Int) := by omega
      have i2 : (k : Int) < 3 := by omega
      have hix := index_m wr f hlt
      have HA := hid (HM.out.row hlt)
      obtain ⟨a, ha⟩ : ∃ a : Nat → Int, a = fun m => f (k * 12 + m) := ⟨_, rfl⟩
      rw [← ha] at hix HA
      obtain ⟨n1, n2, n3⟩ := newRow wr 39 12 a
      have hr1 := hrel.up n3
      have hlt1 := hrel.b.size
      have N1 := hid n1
      have HO1 := hid n2.range
      have HO2 := hid hr1.x.range
      have HR1 := hid hr1
      have hla := wds_len 12 a
      clear n1 n2 n3 hrel hr1 ha
      unfold oF at N1 HO1 HO2 HR1
      go_wp2_with (first
    | with_reducible refine wpList_store_mid rfl 39 (.tmp 7) (.tmp 12) rfl (wr.heap.size) (0) (wds 12 a).toArray rfl rfl (by with_reducible exact N1.out) (sizeVA _) (wds_all _ _) ?_
    | with_reducible refine wpList_load_mid rfl 39 (.tmp 7) rfl (wr.heap.size) (0) rfl (wds 12 a) _ (by with_reducible exact HO1.out) Tryz.underlying39 rfl (sizeV _) ?_
    | with_reducible refine wpList_load_mid rfl 39 (.tmp 3) rfl (w.heap.size + 1) (0) rfl (wds 12 g) _ (by with_reducible exact HO2.out) Tryz.underlying39 rfl (sizeV _) ?_
    | fail)
      obtain ⟨w1, hw1⟩ : ∃ v, v = (wr.alloc (.cells (wds 12 z0).toArray 39)).setCells wr.heap.size 0 (wds 12 a) := ⟨_, rfl⟩
      rw [← hw1] at HR1
      try rw [← hw1]
      try change Calls _ _ _ w1 _
      have HD : Hid (dotZ (M k) X 3 = mzApply M X k) := by
        show 0 + M k 0 * X 0 + M k 1 * X 1 + M k 2 * X 2 = M k 0 * X 0 + M k 1 * X 1 + M k 2 * X 2
        rw [Int.zero_add]
      refine (times_c a g (M k) X _ HA.out HX.out (HG.out.up HR1.out.b)).mono ?_
      rintro e w2 ⟨r, rfl, he, b2⟩
      rw [HD.out] at he
      obtain ⟨gr, rfl⟩ := he.fn
      have hr2 := FRel.up HR1.out b2
      have HT := hid (hr2.there (k * 4) 4 gr (by omega))
      have HST := hid (hr2.set (P' := VP (mzApply M X) (k + 1)) (k * 4) 4 gr (by omega) (by omega) (by omega) (by omega) (fun s hs => VP.put hs he))
      clear hw1 hr2 HR1 b2 he HO1 HO2 N1
      go_wp2_with (first
    | with_reducible refine wpList_store_mid rfl 37 (.tmp 17) (.tmp 16) rfl (w.heap.size + 1 + 1 + 1) (k * 4) (wds 4 gr).toArray rfl rfl (by with_reducible exact HT.out) (sizeEA _) (wds_all _ _) ?_)
      go_roundw
      case rel => exact ⟨k + 1, by omega, by go_num, HST.out⟩
      case measure => simp [intOf]; omega
    · obtain rfl : k = 3 := by omega
      obtain ⟨⟨r, h1, h2⟩, h3, h4, h5⟩ := hrel
      have HO := hid h1.range
      have HV : Hid (VecZ r (mzApply M X)) := ⟨fun i hi => h2 i hi⟩
      have HT := hid (h3.thereW 0 12 r (by decide))
      have HR := hid (h3.lay0 r).range
      have HB := hid (below_cells (show w.heap.size ≤ w.heap.size + 1 + 1 by omega) (wds 12 r) 0 _ h5)
      clear h1 h2 h3 h4 h5
      go_wp2_with (first
    | with_reducible refine wpList_load_mid rfl 39 (.tmp 5) rfl (w.heap.size + 1 + 1 + 1) (0) rfl (wds 12 r) _ (by with_reducible exact HO.out) Tryz.underlying39 rfl (sizeV _) ?_
    | with_reducible refine wpList_store_mid rfl 39 (.tmp 4) (.tmp 19) rfl (w.heap.size + 1 + 1) (0) (wds 12 r).toArray rfl rfl (by with_reducible exact HT.out) (sizeVA _) (wds_all _ _) ?_)
      refine bodyPost_ret (results_cell1 Tryz.results24 ⟨w.heap.size + 1 + 1, 0, none⟩ _ rfl (run_loadVar_mid _ (w.heap.size + 1 + 1) 0 39 (wds 12 r) _ HR.out Tryz.underlying39 rfl (sizeV _))) rfl ?_
      exact ⟨_, rfl, HV.out, HB.out⟩

/-- An element that is none. -/
def q0 : Qd := (0, 0, 0, 0, 0)
/-- The slice v owns the elements of the integers Xs, among the blocks from base on. -/
structure PZ (w : World) (base : Nat) (v : Value) (Xs : List Int) : Prop where
  ex : ∃ L : List Qd, OwnE w base v L ∧ L.length = Xs.length ∧ ∀ i, i < Xs.length → Ez (qv (L.getD i q0)) (Xs.getD i 0)
theorem PZ.below {w w' : World} {b B : Nat} {v : Value} {Xs : List Int} (h : PZ w b v Xs) (hb : Below B w w') (hB : w.heap.size ≤ B) : PZ w' b v Xs := by
  obtain ⟨L, h1, h2⟩ := h.ex
  exact ⟨L, h1.below hb hB, h2⟩
theorem PZ.up {w w' : World} {b : Nat} {v : Value} {Xs : List Int} (h : PZ w b v Xs) (hb : Below w.heap.size w w') : PZ w' b v Xs := h.below hb (Nat.le_refl _)
theorem PZ.mono {w : World} {b b' : Nat} {v : Value} {Xs : List Int} (h : PZ w b v Xs) (hb : b' ≤ b) : PZ w b' v Xs := by
  obtain ⟨L, h1, h2⟩ := h.ex
  exact ⟨L, OwnE.mono h1 hb, h2⟩
theorem PZ.lt {w : World} {b : Nat} {v : Value} {Xs : List Int} (h : PZ w b v Xs) : ∀ k, v.ownBlock = some k → b ≤ k ∧ k < w.heap.size := by
  obtain ⟨L, h1, _⟩ := h.ex
  exact h1.lt
theorem PZ.nil (w : World) (b : Nat) : PZ w b (.slice none 0 0) [] := ⟨[], World.ownsRow_nil w _ _ 4, rfl, fun i hi => absurd hi (Nat.not_lt_zero i)⟩
theorem PZ.moved {w w' : World} {b : Nat} {v v' : Value} {Xs : List Int} (h : PZ w b v Xs) (hm : Moved w w' v v') (hb : b ≤ w.heap.size) : Below b w w' :=
  (Below.refl b w).grown hm.gb hb (fun k hk => (h.lt k hk).1)
theorem ez_append {L M : List Qd} {Xs Ys : List Int} (h1 : L.length = Xs.length) (h2 : M.length = Ys.length) (e1 : ∀ i, i < Xs.length → Ez (qv (L.getD i q0)) (Xs.getD i 0)) (e2 : ∀ i, i < Ys.length → Ez (qv (M.getD i q0)) (Ys.getD i 0)) :
    ∀ i, i < (Xs ++ Ys).length → Ez (qv ((L ++ M).getD i q0)) ((Xs ++ Ys).getD i 0) := by
  intro i hi
  rw [List.length_append] at hi
  rcases Nat.lt_or_ge i Xs.length with h | h
  · rw [List.getD_eq_getElem?_getD, List.getD_eq_getElem?_getD, List.getElem?_append_left (by omega), List.getElem?_append_left h]
    have := e1 i h
    rwa [List.getD_eq_getElem?_getD, List.getD_eq_getElem?_getD] at this
  · rw [List.getD_eq_getElem?_getD, List.getD_eq_getElem?_getD, List.getElem?_append_right (by omega), List.getElem?_append_right h, h1]
    have := e2 (i - Xs.length) (by omega)
    rwa [List.getD_eq_getElem?_getD, List.getD_eq_getElem?_getD] at this
/-- A vector's words as elements. -/
def vq (f : Nat → Int) : List Qd := [(f 0, f 1, f 2, f 3, 0), (f 4, f 5, f 6, f 7, 0), (f 8, f 9, f 10, f 11, 0)]
theorem vq_flat (f : Nat → Int) : flat (vq f) = wds 12 f := by rw [wds_eq]; rfl
theorem vq_ez {f X : Nat → Int} (h : VecZ f X) : ∀ i, i < [X 0, X 1, X 2].length → Ez (qv ((vq f).getD i q0)) ([X 0, X 1, X 2].getD i 0) := by
  intro i hi
  have h0 := h.el (i := 0) (by decide)
  have h1 := h.el (i := 1) (by decide)
  have h2 := h.el (i := 2) (by decide)
  rw [wds_4] at h0 h1 h2
  match i, hi with
  | 0, _ => exact h0
  | 1, _ => exact h1
  | 2, _ => exact h2
/-- The elements of the first k rows. -/
def rowsL (X : MZ) : Nat → List Int
  | 0 => []
  | k + 1 => rowsL X k ++ [X k 0, X k 1, X k 2]
theorem rowsL_len (X : MZ) : ∀ k, (rowsL X k).length = 3 * k
  | 0 => rfl
  | k + 1 => by
    show (rowsL X k ++ _).length = _
    rw [List.length_append, rowsL_len X k]
    rfl
end Go.Proofs.YtdepkfdceidikaaGreatDoor
/-
  matrix.Matrix.Minors: what the call does.
-/
namespace Go.Proofs.YtdepkfdceidikaaGreatDoor
open Go.RowKit
set_option linter.unusedVariables false
set_option linter.unusedSimpArgs false


/-- All nineteen determinants. -/
def minorsL (M : MZ) : List Int := rowsL M 3 ++ rowsL (mzWo M) 3 ++ [mzDet M]
theorem BlkV.moved {w w' : World} {b base : Nat} {t : TypeId} {vs : List Value} {v v' : Value} {Xs : List Int} (h : BlkV w b t vs) (hP : PZ w base v Xs) (hm : Moved w w' v v') (hb : b < base) (hB : base ≤ w.heap.size) : BlkV w' b t vs :=
  h.below (hP.moved hm hB) hb
theorem PZ.cells_of {w : World} {b : Nat} {v : Value} {Xs : List Int} (h : PZ w b v Xs) (hn : 0 < Xs.length) : ∃ g cap, v = .slice (some ⟨g, 0, none⟩) Xs.length cap ∧ b ≤ g ∧ ∃ L : List Qd, L.length = Xs.length ∧ (∀ i, i < Xs.length → Ez (qv (L.getD i q0)) (Xs.getD i 0)) ∧ ∀ j u, (flat L)[j]? = some u → w.cell? ((⟨g, 0, none⟩ : Addr).add j) = some u := by
  obtain ⟨L, h1, h2, h3⟩ := h.ex
  rcases id h1.2 with ⟨rfl, h0⟩ | ⟨g, cap, cur, rfl, hbg, hg, _⟩
  · omega
  · exact ⟨g, cap, by rw [h2], hbg, L, h2, h3, h1.cells rfl⟩
end Go.Proofs.YtdepkfdceidikaaGreatDoor
/-
  slices.IndexFunc and ContainsFunc over elements, matrix.Matrix.Good: what each call does.
-/
namespace Go.Proofs.YtdepkfdceidikaaGreatDoor
open Go.RowKit
set_option linter.unusedVariables false
set_option linter.unusedSimpArgs false


/-- The slice of n elements at A reads as the integers Xs, and lies below block B. -/
structure RdZ (w : World) (B : Nat) (A : Option Addr) (n : Nat) (Xs : List Int) : Prop where
  len : Xs.length = n
  cells : 0 < n → ∃ b off, A = some ⟨b, off, none⟩ ∧ b < B ∧ ∀ i, i < n → ∃ g, Ez (.agg (wds 4 g).toArray) (Xs.getD i 0) ∧ w.rangeAt b (off + i * 4) (wds 4 g)
theorem RdZ.below {w w' : World} {B B' n : Nat} {A : Option Addr} {l : List Int} (h : RdZ w B A n l) (hb : Below B' w w') (hB : B ≤ B') : RdZ w' B A n l :=
  ⟨h.len, fun hn => by
    obtain ⟨b, off, e, hbB, hc⟩ := h.cells hn
    refine ⟨b, off, e, hbB, fun i hi => ?_⟩
    obtain ⟨g, h0, h1⟩ := hc i hi
    exact ⟨g, h0, fun j v hj => (hb.cell (p := ⟨b, off + i * 4 + j, none⟩) (Nat.lt_of_lt_of_le hbB hB)).trans (h1 j v hj)⟩⟩
theorem PZ.rd {w : World} {b : Nat} {v : Value} {Xs : List Int} (h : PZ w b v Xs) (hn : 0 < Xs.length) : ∃ A c, v = .slice A Xs.length c ∧ RdZ w w.heap.size A Xs.length Xs := by
  obtain ⟨g, cap, e, hg, L, hL, hE, hC⟩ := h.cells_of hn
  have hlt := (h.lt g (by rw [e]; rfl)).2
  refine ⟨_, cap, e, rfl, fun _ => ⟨g, 0, rfl, hlt, fun i hi => ?_⟩⟩
  have hi2 : i < L.length := by omega
  have hq : L[i]? = some L[i] := List.getElem?_eq_getElem hi2
  have hd : L.getD i q0 = L[i] := by simp [List.getD_eq_getElem?_getD, hq]
  have he := hE i hi
  rw [hd] at he
  refine ⟨g4 L[i].1 L[i].2.1 L[i].2.2.1 L[i].2.2.2.1, by rw [← w4_g]; exact he, fun j u hj => ?_⟩
  have hj4 : j < 4 := by
    have := (List.getElem?_eq_some_iff.1 hj).1
    rwa [wds_len] at this
  have h1 := hC (i * 4 + j) u (by rw [flat_get L i _ hq j hj4, ← hj, wds_4]; rfl)
  rw [Addr.add_mid] at h1
  rw [Nat.zero_add]
  rw [Nat.zero_add] at h1
  exact h1
/-- Is one of the first k 0? -/
def anyZ (Xs : List Int) : Nat → Bool
  | 0 => false
  | k + 1 => anyZ Xs k || decide (Xs.getD k 0 % pZ = 0)
theorem anyZ_more (Xs : List Int) {k n : Nat} (h : k ≤ n) (hk : anyZ Xs k = true) : anyZ Xs n = true := by
  induction n with
  | zero => obtain rfl : k = 0 := by omega
            exact hk
  | succ n ih =>
    rcases Nat.lt_or_ge n k with h1 | h1
    · obtain rfl : k = n + 1 := by omega
      exact hk
    · show (anyZ Xs n || _) = true
      rw [ih h1]
      rfl
end Go.Proofs.YtdepkfdceidikaaGreatDoor
/-
  avouchlaw09.speaks: what the call does.
-/
namespace Go.Proofs.YtdepkfdceidikaaGreatDoor
open Go.RowKit
set_option linter.unusedVariables false
set_option linter.unusedSimpArgs false


theorem anyZ_congr {Xs Ys : List Int} (h : ∀ i, Xs.getD i 0 % pZ = Ys.getD i 0 % pZ) : ∀ n, anyZ Xs n = anyZ Ys n
  | 0 => rfl
  | n + 1 => by
    show (anyZ Xs n || decide (Xs.getD n 0 % pZ = 0)) = (anyZ Ys n || decide (Ys.getD n 0 % pZ = 0))
    rw [anyZ_congr h n, h n]
/-- Matrices that are the same modulo the prime have the same determinants. -/
def MCong (X Y : MZ) : Prop := ∀ i j, i < 3 → j < 3 → X i j % pZ = Y i j % pZ
theorem wo_cong {X Y : MZ} (h : MCong X Y) : MCong (mzWo X) (mzWo Y) := fun i j hi hj =>
  zsub_congr (zmul_congr2 (h _ _ (otL_lt hi) (otL_lt hj)) (h _ _ (otR_lt hi) (otR_lt hj))) (zmul_congr2 (h _ _ (otL_lt hi) (otR_lt hj)) (h _ _ (otR_lt hi) (otL_lt hj)))
theorem det_cong {X Y : MZ} (h : MCong X Y) : mzDet X % pZ = mzDet Y % pZ := by
  rw [← mzDet_P, ← mzDet_P]
  exact zadd_congr (zsub_congr (zmul_congr2 (h 0 0 (by decide) (by decide)) (wo_cong h 0 0 (by decide) (by decide))) (zmul_congr2 (h 0 1 (by decide) (by decide)) (wo_cong h 0 1 (by decide) (by decide)))) (zmul_congr2 (h 0 2 (by decide) (by decide)) (wo_cong h 0 2 (by decide) (by decide)))
theorem mod_app {A B C D : List Int} (h : A.map (· % pZ) = B.map (· % pZ)) (k : C.map (· % pZ) = D.map (· % pZ)) : (A ++ C).map (· % pZ) = (B ++ D).map (· % pZ) := by rw [List.map_append, List.map_append, h, k]
theorem rows_cong {X Y : MZ} (h : MCong X Y) : ∀ k, k ≤ 3 → (rowsL X k).map (· % pZ) = (rowsL Y k).map (· % pZ)
  | 0, _ => rfl
  | k + 1, hk => mod_app (rows_cong h k (by omega)) (by simp only [List.map_cons, List.map_nil]; rw [h k 0 (by omega) (by decide), h k 1 (by omega) (by decide), h k 2 (by omega) (by decide)])
theorem minors_cong {X Y : MZ} (h : MCong X Y) : (minorsL X).map (· % pZ) = (minorsL Y).map (· % pZ) :=
  mod_app (mod_app (rows_cong h 3 (by decide)) (rows_cong (wo_cong h) 3 (by decide))) (by simp only [List.map_cons, List.map_nil]; rw [det_cong h])
theorem getD_mod {A B : List Int} (h : A.map (· % pZ) = B.map (· % pZ)) (i : Nat) : A.getD i 0 % pZ = B.getD i 0 % pZ := by
  have := congrArg (fun l : List Int => l[i]?) h
  simp only [List.getElem?_map] at this
  rw [List.getD_eq_getElem?_getD, List.getD_eq_getElem?_getD]
  cases ha : A[i]? <;> cases hb : B[i]? <;> rw [ha, hb] at this <;> simp at this <;> simp [this]
theorem anyZ_minors {X Y : MZ} (h : MCong X Y) (n : Nat) : anyZ (minorsL X) n = anyZ (minorsL Y) n := anyZ_congr (getD_mod (minors_cong h)) n
/-- Cauchy's matrix by its numbers. -/
def mzC : MZ := fun i j => cz.getD (i + j) 0
theorem cauchy_cong : MCong mzCauchy mzC := fun i j hi hj => cz_inv (k := i + j) (by omega)
theorem cauchy_good : anyZ (minorsL mzCauchy) 19 = false := by
  rw [anyZ_minors cauchy_cong]
  decide +kernel
theorem unit_bad : anyZ (minorsL mzUnit) 19 = true := by decide +kernel
theorem cauchy_3 : (mzCauchy 0 0 * 3) % pZ = 1 % pZ := by
  have h := invZ_mul (X := 3) (by decide)
  show (invZ 3 * 3) % pZ = _
  rw [Int.mul_comm, h]
  decide
theorem cauchy_00 : mzCauchy 0 0 % pZ ≠ 0 := by
  rw [cauchy_cong 0 0 (by decide) (by decide)]
  decide +kernel
theorem from1_c (w : World) (hG : Glob w) : Calls Tryz.prog 26 #[.int .u64 1] w fun e w' => ∃ r, e = .returned r ∧ Ez r 1 ∧ Below w.heap.size w w' := fromUint64Z_c 1 w (by decide) hG
theorem from3_c (w : World) (hG : Glob w) : Calls Tryz.prog 26 #[.int .u64 3] w fun e w' => ∃ r, e = .returned r ∧ Ez r 3 ∧ Below w.heap.size w w' := fromUint64Z_c 3 w (by decide) hG
theorem equal_t (u v : Value) (X Y : Int) (w : World) (hu : Ez u X) (hv : Ez v Y) (h : X % pZ = Y % pZ) : Calls Tryz.prog 20 #[u, v] w fun e w' => e = .returned (.bool true) ∧ Below w.heap.size w w' := by
  have k := eequalZ_c u v X Y w hu hv
  rw [decide_eq_true h] at k
  exact k
theorem isZero_f (u : Value) (X : Int) (w : World) (hu : Ez u X) (h : X % pZ ≠ 0) : Calls Tryz.prog 25 #[u] w fun e w' => e = .returned (.bool false) ∧ Below w.heap.size w w' := by
  have k := eisZeroZ_c u X w hu
  rw [decide_eq_false h] at k
  exact k
theorem isZero_t (u : Value) (X : Int) (w : World) (hu : Ez u X) (h : X % pZ = 0) : Calls Tryz.prog 25 #[u] w fun e w' => e = .returned (.bool true) ∧ Below w.heap.size w w' := by
  have k := eisZeroZ_c u X w hu
  rw [decide_eq_true h] at k
  exact k
end Go.Proofs.YtdepkfdceidikaaGreatDoor
/-
  Fifth powers modulo the prime: unlike numbers have unlike ones. Matrices whose determinant is not 0: unlike vectors stay unlike. Plain arithmetic, ahead of stage 10.
-/
namespace Go.Proofs.YtdepkfdceidikaaGreatDoor
set_option linter.unusedVariables false

theorem pow5_back {x d k : Nat} (hx : x < pN) (h : 5 * d = k * (pN - 1) + 1) : (x ^ 5 % pN) ^ d % pN = x := by
  rw [← Nat.pow_mod, ← Nat.pow_mul, h, Nat.pow_succ, Nat.mul_comm k, Nat.pow_mul]
  rcases Nat.eq_zero_or_pos x with e | e
  · rw [e, Nat.mul_zero]
    rfl
  · have hf := fermat_p x e hx
    rw [Nat.mul_mod, Nat.pow_mod, hf, Nat.one_pow, Nat.mod_eq_of_lt (show 1 < pN by decide), Nat.one_mul, Nat.mod_mod, Nat.mod_eq_of_lt hx]
theorem five_inv : ∃ d k : Nat, 5 * d = k * (pN - 1) + 1 := ⟨17510594297471420177797124596205820070838691520332827474958563349260646796493, 4, by decide⟩
theorem pow5_inj {x y : Nat} (hx : x < pN) (hy : y < pN) (h : x ^ 5 % pN = y ^ 5 % pN) : x = y := by
  obtain ⟨d, k, e⟩ := five_inv
  rw [← pow5_back hx e, ← pow5_back hy e, h]
/-- The fifth power. -/
def pw5 (X : Int) : Int := X * X * (X * X) * X
theorem pw5_pow (X : Int) : pw5 X = X ^ 5 := by
  unfold pw5
  grind
theorem pw5_nat {x : Nat} {X : Int} (h : (x : Int) = X % pZ) : ((x ^ 5 % pN : Nat) : Int) = pw5 X % pZ := by
  have h2 : ((x ^ 5 : Nat) : Int) % pZ = pw5 X % pZ := by
    rw [pw5_pow, Int.natCast_pow]
    show (x : Int) ^ 5 % pZ = X ^ 5 % pZ
    have e : ∀ a b : Int, a % pZ = b % pZ → a ^ 5 % pZ = b ^ 5 % pZ := fun a b hab => by
      have q : ∀ c : Int, c ^ 5 = c * c * (c * c) * c := fun c => by grind
      rw [q, q]
      exact zmul_congr2 (zmul_congr2 (zmul_congr2 hab hab) (zmul_congr2 hab hab)) hab
    exact e _ _ (by rw [h, Int.emod_emod])
  rw [← h2]
  exact Int.natCast_emod _ _
theorem z_rest (X : Int) : ∃ x : Nat, (x : Int) = X % pZ ∧ x < pN := by
  obtain ⟨x, hx⟩ := Int.eq_ofNat_of_zero_le (Int.emod_nonneg X (show pZ ≠ 0 by decide))
  refine ⟨x, hx.symm, ?_⟩
  have := Int.emod_lt_of_pos X pZ_pos
  rw [hx] at this
  exact Int.ofNat_lt.mp this
theorem pw5_inj {X Y : Int} (h : pw5 X % pZ = pw5 Y % pZ) : X % pZ = Y % pZ := by
  obtain ⟨x, ex, lx⟩ := z_rest X
  obtain ⟨y, ey, ly⟩ := z_rest Y
  have h1 := pw5_nat ex
  have h2 := pw5_nat ey
  rw [h, ← h2] at h1
  rw [← ex, ← ey, pow5_inj lx ly (Int.ofNat.inj h1)]
theorem pw5_cong {X Y : Int} (h : X % pZ = Y % pZ) : pw5 X % pZ = pw5 Y % pZ := zmul_congr2 (zmul_congr2 (zmul_congr2 h h) (zmul_congr2 h h)) h
theorem zcancel {D a b : Int} (hD : D % pZ ≠ 0) (h : (D * a) % pZ = (D * b) % pZ) : a % pZ = b % pZ := by
  have h1 := zmul_congr (invZ D) h
  have hi := invZ_mul hD
  have e : ∀ c : Int, (invZ D * (D * c)) % pZ = c % pZ := fun c => by
    have q : invZ D * (D * c) = (D * invZ D) * c := by grind
    rw [q]
    have := zmul_congr2 (hi.trans zone.symm) (rfl : c % pZ = c % pZ)
    rw [Int.one_mul] at this
    exact this
  rw [e, e] at h1
  exact h1
/-- A matrix whose determinant is not 0 keeps unlike vectors unlike. -/
theorem mz_inj {M : MZ} {V W : Nat → Int} (hD : mzDet M % pZ ≠ 0) (h : ∀ i, i < 3 → mzApply M V i % pZ = mzApply M W i % pZ) : ∀ i, i < 3 → V i % pZ = W i % pZ := by
  have h0 := h 0 (by decide)
  have h1 := h 1 (by decide)
  have h2 := h 2 (by decide)
  have key : ∀ (a b c : Int), (a * mzApply M V 0 + b * mzApply M V 1 + c * mzApply M V 2) % pZ = (a * mzApply M W 0 + b * mzApply M W 1 + c * mzApply M W 2) % pZ := fun a b c =>
    zadd_congr (zadd_congr (zmul_congr a h0) (zmul_congr b h1)) (zmul_congr c h2)
  intro i hi
  refine zcancel hD ?_
  match i, hi with
  | 0, _ =>
    have k := key (M 1 1 * M 2 2 - M 1 2 * M 2 1) (M 0 2 * M 2 1 - M 0 1 * M 2 2) (M 0 1 * M 1 2 - M 0 2 * M 1 1)
    have e : ∀ U : Nat → Int, (M 1 1 * M 2 2 - M 1 2 * M 2 1) * mzApply M U 0 + (M 0 2 * M 2 1 - M 0 1 * M 2 2) * mzApply M U 1 + (M 0 1 * M 1 2 - M 0 2 * M 1 1) * mzApply M U 2 = mzDet M * U 0 := fun U => by
      unfold mzApply mzDet
      grind
    rw [e, e] at k
    exact k
  | 1, _ =>
    have k := key (M 1 2 * M 2 0 - M 1 0 * M 2 2) (M 0 0 * M 2 2 - M 0 2 * M 2 0) (M 0 2 * M 1 0 - M 0 0 * M 1 2)
    have e : ∀ U : Nat → Int, (M 1 2 * M 2 0 - M 1 0 * M 2 2) * mzApply M U 0 + (M 0 0 * M 2 2 - M 0 2 * M 2 0) * mzApply M U 1 + (M 0 2 * M 1 0 - M 0 0 * M 1 2) * mzApply M U 2 = mzDet M * U 1 := fun U => by
      unfold mzApply mzDet
      grind
    rw [e, e] at k
    exact k
  | 2, _ =>
    have k := key (M 1 0 * M 2 1 - M 1 1 * M 2 0) (M 0 1 * M 2 0 - M 0 0 * M 2 1) (M 0 0 * M 1 1 - M 0 1 * M 1 0)
    have e : ∀ U : Nat → Int, (M 1 0 * M 2 1 - M 1 1 * M 2 0) * mzApply M U 0 + (M 0 1 * M 2 0 - M 0 0 * M 2 1) * mzApply M U 1 + (M 0 0 * M 1 1 - M 0 1 * M 1 0) * mzApply M U 2 = mzDet M * U 2 := fun U => by
      unfold mzApply mzDet
      grind
    rw [e, e] at k
    exact k
theorem cauchy_det : mzDet mzCauchy % pZ ≠ 0 := by
  rw [det_cong cauchy_cong]
  decide +kernel
end Go.Proofs.YtdepkfdceidikaaGreatDoor
