/-
  avouchlaw04.WideReads: the walk.
-/
import Derived.Test.YtocnbgeolajbbaaDoorWidU
import Derived.Deep.RegionHeld3
import Derived.Deep.CutBlock
import Derived.Deep.DeepCutAuto
namespace Go.Proofs.YtocnbgeolajbbaaDoor
open Go.RowKit
set_option linter.unusedVariables false
set_option linter.unusedSimpArgs false

/-- What is kept: the bytes, the number that was read, its digits, and a ring. -/
structure EnvR (w : World) (A : Option Addr) (n : Nat) (bs : List Nat) (b6 br N M : Nat) (dv : Value) (v : World) : Prop where
  a : Rd8 v v.heap.size A n bs
  x : BlkW v b6 28 (ds N)
  d : Dg v dv N
  r : RingP v br M
  b : Below w.heap.size w v
theorem EnvR.up {w : World} {A : Option Addr} {n : Nat} {bs : List Nat} {b6 br N M : Nat} {dv : Value} {v v' : World} (h : EnvR w A n bs b6 br N M dv v) (hb : Below v.heap.size v v') : EnvR w A n bs b6 br N M dv v' :=
  ⟨h.a.up hb (Nat.le_refl _), h.x.below hb h.x.size, h.d.up hb, h.r.up hb, bchain h.b hb⟩
theorem EnvR.drew {w : World} {A : Option Addr} {n : Nat} {bs : List Nat} {b6 br N M : Nat} {dv : Value} {v : World} (h : EnvR w A n bs b6 br N M dv v) : EnvR w A n bs b6 br N M dv v.drew := h.up (Below.refl _ _).drew
/-- The same with the number's bytes beside. -/
structure EnvQ (w : World) (A : Option Addr) (n : Nat) (bs : List Nat) (b6 br N M : Nat) (dv : Value) (b10 : Nat) (l : List Nat) (v : World) : Prop where
  e : EnvR w A n bs b6 br N M dv v
  i : BlkB v b10 38 l
theorem EnvQ.up {w : World} {A : Option Addr} {n : Nat} {bs : List Nat} {b6 br N M : Nat} {dv : Value} {b10 : Nat} {l : List Nat} {v v' : World} (h : EnvQ w A n bs b6 br N M dv b10 l v) (hb : Below v.heap.size v v') : EnvQ w A n bs b6 br N M dv b10 l v' :=
  ⟨h.e.up hb, h.i.below hb h.i.size⟩
/-- A number laid into a new variable. -/
theorem lay1 (w : World) (X : Nat) :
    ∃ w1, (storeCells ⟨w.heap.size, 0, none⟩ (cellsOf64 (ds X))).run Tryd.prog (w.alloc (z12 28)) = .ok () w1 ∧ BlkW w1 w.heap.size 28 (ds X) ∧ Below w.heap.size w w1 := by
  have hA := z12_new w 28
  have hb0 := (Below.refl w.heap.size w).alloc (Nat.le_refl _) (z12 28)
  obtain ⟨s1, r1⟩ := num_stored (X := X) hA
  refine ⟨_, s1, ⟨?_, ds_lt X⟩, below_cells (Nat.le_refl _) _ _ _ hb0⟩
  have key : ∀ (l old done : List Nat) (v : World), v.heap[w.heap.size]? = some (.cells (cellsOf64 (done ++ old)).toArray 28 (0, 0)) → l.length = old.length →
      (v.setCells w.heap.size done.length (cellsOf64 l)).heap[w.heap.size]? = some (.cells (cellsOf64 (done ++ l)).toArray 28 (0, 0)) := by
    intro l
    induction l with
    | nil =>
      intro old done v h hl
      have : old = [] := List.eq_nil_of_length_eq_zero (by simpa using hl.symm)
      subst this
      exact h
    | cons x l ih =>
      intro old done v h hl
      match old, hl with
      | y :: old, hl =>
        have h' : (v.setCell ⟨w.heap.size, done.length, none⟩ (.int .u64 (x : Int))).heap[w.heap.size]? = some (.cells (cellsOf64 ((done ++ [x]) ++ old)).toArray 28 (0, 0)) := by
          simp [World.setCell, Array.getElem?_modify, h, cellsOf64]
        have ih' := ih old (done ++ [x]) _ h' (by simpa using hl)
        rw [List.length_append, List.length_singleton, List.append_assoc] at ih'
        exact ih'
  exact key (ds X) (List.replicate 12 0) [] (w.alloc (z12 28)) hA.heap (by rw [ds_len, List.length_replicate])

set_option maxRecDepth 100000 in
set_option maxHeartbeats 8000000 in
theorem wideReads_w (g : Bool) (A : Option Addr) (n c : Nat) (bs : List Nat) (w : World) (ha : Rd8 w w.heap.size A n bs) (hG : GlobW w) :
    Calls Tryd.prog 3 #[.bool g, .slice A n c] w fun e w' => e = .returned (.bool true) ∧ Below w.heap.size w w' := by
  have HA := hid ha
  clear ha
  go_enter Tryd.func3, Tryd.ntmps3
  go_wp2_with fail
  refine (speaks4_c w hG).mono ?_
  rintro e w1 ⟨rfl, b1⟩
  have hG1 := hG.up b1
  by_cases hn : 300 < n
  · have i0 : (300 : Int) < (n : Int) := by omega
    go_wp2_with fail
    refine (speaks4_c w1 hG1).mono ?_
    rintro e w2 ⟨rfl, b2⟩
    clear i0
    go_wp2
    go_ret
    exact ⟨rfl, bchain b1 b2⟩
  have i0 : decide ((300 : Int) < (n : Int)) = false := by simp; omega
  have HN : Hid (n ≤ 300) := hid (by omega)
  clear hn
  go_wp2_with fail
  refine (ring_c g w1 hG1).mono ?_
  rintro e w2 ⟨br, rfl, hr, b2⟩
  have b02 := bchain b1 b2
  have HR2 := hid hr
  clear i0 hG1 hG b1 b2 hr
  go_wp2_with fail
  refine (rRead_c br g A n c bs w2 HR2.out (HA.out.up b02 (Nat.le_refl _))).mono ?_
  rintro e w3 ⟨rfl, b3⟩
  have b03 := bchain b02 b3
  obtain ⟨N, hN⟩ : ∃ N, N = rdN g bs := ⟨_, rfl⟩
  obtain ⟨E, hE⟩ : ∃ E, E = rdE g bs := ⟨_, rfl⟩
  rw [← hN, ← hE]
  have HNN := hid hN
  have HEE := hid hE
  obtain ⟨w4, s4, x4, b4⟩ := lay1 w3 N
  have hlen := dsc_len N
  have b04 := bchain b03 b4
  have HR4 := hid ((HR2.out.up b3).up b4)
  have HX4 := hid x4
  clear hN hE b03 b3 b4 x4 HR2 b02
  unfold num z12 at *
  go_wp2_with fail
  refine (refRead_c g A n c bs w4 (HA.out.up b04 (Nat.le_refl _))).mono ?_
  rintro e w5 ⟨dv, rfl, hd, b5⟩
  rw [← HEE.out]
  rw [← HNN.out] at hd
  have E5 : EnvR w A n bs w3.heap.size br N (mOf g) dv w5 := ⟨(HA.out.up b04 (Nat.le_refl _)).up b5 (Nat.le_refl _), HX4.out.below b5 HX4.out.size, hd, HR4.out.up b5, bchain b04 b5⟩
  clear hd b5 b04 HX4 HR4 s4 hlen
  have hEE : ((E : Int) != E) = false := by simp
  go_wp2_with fail
  generalize w3.heap.size = b6 at *
  have E6 := E5.drew
  go_cut [49] (fun s wx => s = .bool false ∧ EnvR w A n bs b6 br N (mOf g) dv wx)
  case first =>
    obtain ⟨n12, hn12⟩ : ∃ n : Nat, n = 12 := ⟨_, rfl⟩
    have L1 : ∀ v, EnvR w A n bs b6 br N (mOf g) dv v → (loadCellsFrom ⟨b6, 0, none⟩ 0 n12 #[]).run Tryd.prog v = .ok (cellsOf64 (ds N)).toArray v := fun v h => by rw [hn12]; exact cells_num h.x
    have CO : ∀ (Z : Nat) (u : Value) (v : World), Dg v u Z → Calls Tryd.prog 12 #[u] v fun e w' => e = .returned (.agg (cellsOf64 (ds Z)).toArray) ∧ Below v.heap.size v w' := fun Z u v h => ofW_c u Z v h
    have CS : ∀ (v : World), RingP v br (mOf g) → Calls Tryd.prog 13 #[.pointer (some ⟨br, 0, none⟩)] v fun e w' => e = .returned (.agg (cellsOf64 (ds (mOf g))).toArray) ∧ Below v.heap.size v w' := fun v h => size_c br (mOf g) v h (mOf_lt g)
    have CR : ∀ (v : World), Calls Tryd.prog 14 #[.bool g] v fun e w' => ∃ r, e = .returned r ∧ Dg w' r (mOf g) ∧ Below v.heap.size v w' := fun v => refSize_c g v
    have F1 : ∀ v, (Op.equalIn 10000 28 (.agg (cellsOf64 (ds N)).toArray) (.agg (cellsOf64 (ds N)).toArray)).run Tryd.prog v = .ok true v := same_num _ _ rfl
    have F2 : ∀ v, (Op.equalIn 10000 28 (.agg (cellsOf64 (ds (mOf g))).toArray) (.agg (cellsOf64 (ds (mOf g))).toArray)).run Tryd.prog v = .ok true v := same_num _ _ rfl
    have G1 := agg_num
    have G2 : ∀ v, (sizeOf 28).run Tryd.prog v = .ok n12 v := by rw [hn12]; exact size_num
    clear hn12
    have G3 := Tryd.eqGuardType28
    have N1 := Tryd.call12
    have N2 := Tryd.call13
    have N3 := Tryd.call14
    generalize Tryd.prog = P at CO CS CR F1 F2 L1 G1 G2 G3 N1 N2 N3 ⊢
    go_region_held3 (fun w' => EnvR w A n bs b6 br N (mOf g) dv w') (with_reducible assumption) (first
      | (go_at_call 12; with_reducible refine (CO N _ _ (EnvR.d (by with_reducible assumption))).mono ?_; rintro e v ⟨rfl, hb⟩; have hE := EnvR.up (by with_reducible assumption) hb; dsimp only)
      | (go_at_call 12; with_reducible refine (CO (mOf g) _ _ (by with_reducible assumption)).mono ?_; rintro e v ⟨rfl, hb⟩; have hE := EnvR.up (by with_reducible assumption) hb; dsimp only)
      | (go_at_call 13; with_reducible refine (CS _ (EnvR.r (by with_reducible assumption))).mono ?_; rintro e v ⟨rfl, hb⟩; have hE := EnvR.up (by with_reducible assumption) hb; dsimp only)
      | (go_at_call 14; with_reducible refine (CR _).mono ?_; rintro e v ⟨r, rfl, hr, hb⟩; have hE := EnvR.up (by with_reducible assumption) hb; dsimp only))
    go_wp2_with fail
    go_meet
    exact ⟨rfl, hE⟩
  case rest =>
    obtain ⟨rfl, hE7⟩ := hcut
    clear E5 E6 hEE
    have HO := hid hE7.x.range
    have HI := hid (sizeNb.trans (congrArg some (dsc_len N).symm))
    have HNL : Hid (N < W12) := hid (by rw [HNN.out]; exact rdN_lt g bs)
    go_wp2_with (with_reducible refine wpList_load_mid rfl 28 (.tmp 6) rfl b6 0 rfl (cellsOf64 (ds N)) _ HO.out Tryd.underlying28 rfl HI.out ?_)
    refine (write_c N _ HNL).mono ?_
    rintro e w8 ⟨r, rfl, hr8, b8⟩
    obtain ⟨l, rfl, hl, hlt, hv⟩ := hr8
    obtain ⟨wx, hst, hBx, bx9⟩ := new96 w8 l hl hlt
    have hlen : (cells8 l).length = 96 := by simp [cells8, hl]
    have hEx := (hE7.up b8).up bx9
    have HV := hid hv
    have HL := hid hl
    have HLT := hid hlt
    clear HO HI hE7 b8 bx9 hv hl hlt
    go_wp2_with fail
    generalize w8.heap.size = b10 at *
    have E9 : EnvQ w A n bs b6 br N (mOf g) dv b10 l wx.drew := EnvQ.up ⟨hEx, hBx⟩ ((Below.refl _ _).drew)
    clear hst hlen hBx hEx
    have CX : ∀ v, EnvQ w A n bs b6 br N (mOf g) dv b10 l v → (convert 22 9 (.slice (some ⟨b10, 0, none⟩) 96 96)).run Tryd.prog v = .ok (.string (strOfNums (l.map fun (x : Nat) => (x : Int)))) v := fun v h => by
      have := h.i.rd (B := v.heap.size) h.i.size
      rw [HL.out] at this
      exact conv8l this (by decide) 96
    have CB : ∀ v, EnvQ w A n bs b6 br N (mOf g) dv b10 l v → Calls Tryd.prog 16 #[dv] v fun e w' => ∃ A2 c2, e = .returned (.slice A2 96 c2) ∧ (convert 22 9 (.slice A2 96 c2)).run Tryd.prog w' = .ok (.string (strOfNums (l.map fun (x : Nat) => (x : Int)))) w' ∧ Below v.heap.size v w' := fun v h => by
      refine (refBytes96_c dv N v h.e.d).mono ?_
      rintro e w2 ⟨A2, c2, l2, rfl, hc2, r2, v2, b2⟩
      obtain rfl : l2 = l := val_inj 256 (by decide) l2 l r2.lt HLT.out (r2.len.trans HL.out.symm) (by rw [HV.out, v2, Nat.mod_eq_of_lt HNL.out])
      exact ⟨A2, c2, rfl, conv8l r2 (by decide) c2, b2⟩
    have HBD : Hid (val 256 bs < 4294967296 ^ bigE) := by
      have h1 := val_lt 256 (by decide) bs HA.out.lt
      rw [HA.out.len] at h1
      refine Nat.lt_of_lt_of_le h1 ?_
      rw [show (4294967296 : Nat) = 256 ^ 4 by decide, ← Nat.pow_mul]
      exact Nat.pow_le_pow_right (by decide) (by have := HN.out; unfold bigE; omega)
    have F1 : ∀ v, (binOp .eql 28 (num (val 256 bs % mOf g)) (num (val 256 bs % mOf g))).run Tryd.prog v = .ok (.bool true) v := eql_num _ _ rfl
    have F2 := eqg_eql
    rcases rd_cases g bs with ⟨hq, e1, e2⟩ | ⟨hq, hq', e1, e2⟩ | ⟨hq, hq', e1, e2⟩
    · obtain rfl : E = 1 := HEE.out.trans e2
      clear hq e1 e2 HEE
      go_cut [68] (fun s wx => s = .bool false ∧ EnvQ w A n bs b6 br N (mOf g) dv b10 l wx)
      case first =>
        refine wp_region_held_drew (S := fun w' => EnvQ w A n bs b6 br N (mOf g) dv b10 l w') (by kernel_rfl) E9 (fun hHeld => ?_)
        refine wpAnyH_take (i := 0) (v := ?_) rfl (by kernel_rfl) (by kernel_rfl) (by kernel_rfl) (fun _ _ _ h => h) (Or.inl ⟨by rfl, fun v hv => ?_⟩) (by with_reducible assumption) ?_
        rotate_left
        · go_simp
          try with_reducible rfl
        simp only [Act.put, List.setIfInBounds_toArray, List.set_cons_zero, List.set_cons_succ, List.getElem_toArray, List.getElem_cons_zero, List.getElem_cons_succ]
        refine wpAnyH_take (i := 2) (v := ?_) rfl (by kernel_rfl) (by kernel_rfl) (by kernel_rfl) (fun _ _ _ h => h) (Or.inl ⟨by rfl, fun v hv => ?_⟩) (by with_reducible assumption) ?_
        rotate_left
        · go_simp
          try with_reducible rfl
        simp only [Act.put, List.setIfInBounds_toArray, List.set_cons_zero, List.set_cons_succ, List.getElem_toArray, List.getElem_cons_zero, List.getElem_cons_succ]
        refine wpAnyH_take (i := 1) (v := ?_) rfl (by kernel_rfl) (by kernel_rfl) (by kernel_rfl) (fun _ _ _ h => h) (Or.inl ⟨by rfl, fun v hv => ?_⟩) (by with_reducible assumption) ?_
        rotate_left
        · go_simp
          try with_reducible rfl
        simp only [Act.put, List.setIfInBounds_toArray, List.set_cons_zero, List.set_cons_succ, List.getElem_toArray, List.getElem_cons_zero, List.getElem_cons_succ]
        refine wpAnyH_ready (rs := [3]) (by kernel_rfl) (by simp) ?_
        refine AllReadyH.cons rfl (fun K hK => ?_) AllReadyH.nil
        go_simp
        go_at_call 16
        with_reducible refine (CB _ (by with_reducible assumption)).mono ?_
        rintro e v ⟨A2, c2, rfl, cv2, hb⟩
        have hE := EnvQ.up (by with_reducible assumption) hb
        dsimp only
        refine hK.out _ _ hE (fun hHeld => ?_)
        clear hK K
        try simp only [Act.put, List.setIfInBounds_toArray, List.set_cons_zero, List.set_cons_succ, List.getElem_toArray, List.getElem_cons_zero, List.getElem_cons_succ]
        refine wpAnyH_ready (rs := [4]) (by kernel_rfl) (by simp) ?_
        refine AllReadyH.cons rfl (fun K hK => ?_) AllReadyH.nil
        go_simp
        refine hK.out _ _ hE (fun hHeld => ?_)
        clear hK K
        try simp only [Act.put, List.setIfInBounds_toArray, List.set_cons_zero, List.set_cons_succ, List.getElem_toArray, List.getElem_cons_zero, List.getElem_cons_succ]
        refine wpAnyH_take (i := 5) (v := ?_) rfl (by kernel_rfl) (by kernel_rfl) (by kernel_rfl) (fun _ _ _ h => h) (Or.inl ⟨by rfl, fun v hv => ?_⟩) (by with_reducible assumption) ?_
        rotate_left
        · go_simp
          try with_reducible rfl
        simp only [Act.put, List.setIfInBounds_toArray, List.set_cons_zero, List.set_cons_succ, List.getElem_toArray, List.getElem_cons_zero, List.getElem_cons_succ]
        refine wpAnyH_take (i := 6) (v := ?_) rfl (by kernel_rfl) (by kernel_rfl) (by kernel_rfl) (fun _ _ _ h => h) (Or.inl ⟨by rfl, fun v hv => ?_⟩) (by with_reducible assumption) ?_
        rotate_left
        · go_simp
          try with_reducible rfl
        simp only [Act.put, List.setIfInBounds_toArray, List.set_cons_zero, List.set_cons_succ, List.getElem_toArray, List.getElem_cons_zero, List.getElem_cons_succ]
        refine wpAnyH_take (i := 7) (v := ?_) rfl (by kernel_rfl) (by kernel_rfl) (by kernel_rfl) (fun _ _ _ h => h) (Or.inl ⟨by rfl, fun v hv => ?_⟩) (by with_reducible assumption) ?_
        rotate_left
        · go_simp
          try with_reducible rfl
        simp only [Act.put, List.setIfInBounds_toArray, List.set_cons_zero, List.set_cons_succ, List.getElem_toArray, List.getElem_cons_zero, List.getElem_cons_succ]
        refine wpAnyH_take (i := 8) (v := ?_) rfl (by kernel_rfl) (by kernel_rfl) (by kernel_rfl) (fun _ _ _ h => h) (Or.inl ⟨by rfl, fun v hv => ?_⟩) (by with_reducible assumption) ?_
        rotate_left
        · go_simp
          try with_reducible rfl
        simp only [Act.put, List.setIfInBounds_toArray, List.set_cons_zero, List.set_cons_succ, List.getElem_toArray, List.getElem_cons_zero, List.getElem_cons_succ]
        refine wpAnyH_take (i := 9) (v := ?_) rfl (by kernel_rfl) (by kernel_rfl) (by kernel_rfl) (fun _ _ _ h => h) (Or.inl ⟨by rfl, fun v hv => ?_⟩) (by with_reducible assumption) ?_
        rotate_left
        · go_simp
          try with_reducible rfl
        simp only [Act.put, List.setIfInBounds_toArray, List.set_cons_zero, List.set_cons_succ, List.getElem_toArray, List.getElem_cons_zero, List.getElem_cons_succ]
        refine wpAnyH_take (i := 10) (v := undef) rfl (by kernel_rfl) (by kernel_rfl) (by kernel_rfl) (fun _ _ _ h => h) (Or.inr ⟨by rfl, rfl⟩) (by with_reducible assumption) ?_
        simp only [Act.put, List.setIfInBounds_toArray, List.set_cons_zero, List.set_cons_succ, List.getElem_toArray, List.getElem_cons_zero, List.getElem_cons_succ]
        refine wpAnyH_take (i := 11) (v := undef) rfl (by kernel_rfl) (by kernel_rfl) (by kernel_rfl) (fun _ _ _ h => h) (Or.inr ⟨by rfl, rfl⟩) (by with_reducible assumption) ?_
        simp only [Act.put, List.setIfInBounds_toArray, List.set_cons_zero, List.set_cons_succ, List.getElem_toArray, List.getElem_cons_zero, List.getElem_cons_succ]
        refine wpAnyH_take (i := 12) (v := undef) rfl (by kernel_rfl) (by kernel_rfl) (by kernel_rfl) (fun _ _ _ h => h) (Or.inr ⟨by rfl, rfl⟩) (by with_reducible assumption) ?_
        simp only [Act.put, List.setIfInBounds_toArray, List.set_cons_zero, List.set_cons_succ, List.getElem_toArray, List.getElem_cons_zero, List.getElem_cons_succ]
        refine wpAnyH_take (i := 13) (v := undef) rfl (by kernel_rfl) (by kernel_rfl) (by kernel_rfl) (fun _ _ _ h => h) (Or.inr ⟨by rfl, rfl⟩) (by with_reducible assumption) ?_
        simp only [Act.put, List.setIfInBounds_toArray, List.set_cons_zero, List.set_cons_succ, List.getElem_toArray, List.getElem_cons_zero, List.getElem_cons_succ]
        refine wpAnyH_take (i := 14) (v := undef) rfl (by kernel_rfl) (by kernel_rfl) (by kernel_rfl) (fun _ _ _ h => h) (Or.inr ⟨by rfl, rfl⟩) (by with_reducible assumption) ?_
        simp only [Act.put, List.setIfInBounds_toArray, List.set_cons_zero, List.set_cons_succ, List.getElem_toArray, List.getElem_cons_zero, List.getElem_cons_succ]
        refine wpAnyH_take (i := 15) (v := ?_) rfl (by kernel_rfl) (by kernel_rfl) (by kernel_rfl) (fun _ _ _ h => h) (Or.inl ⟨by rfl, fun v hv => ?_⟩) (by with_reducible assumption) ?_
        rotate_left
        · go_simp
          try with_reducible rfl
        simp only [Act.put, List.setIfInBounds_toArray, List.set_cons_zero, List.set_cons_succ, List.getElem_toArray, List.getElem_cons_zero, List.getElem_cons_succ]
        refine wpAnyH_take (i := 16) (v := ?_) rfl (by kernel_rfl) (by kernel_rfl) (by kernel_rfl) (fun _ _ _ h => h) (Or.inl ⟨by rfl, fun v hv => ?_⟩) (by with_reducible assumption) ?_
        rotate_left
        · go_simp
          try with_reducible rfl
        simp only [Act.put, List.setIfInBounds_toArray, List.set_cons_zero, List.set_cons_succ, List.getElem_toArray, List.getElem_cons_zero, List.getElem_cons_succ]
        refine wpAnyH_done (by kernel_rfl) ?_ _
        go_wp2_with fail
        go_meet
        exact ⟨rfl, hE⟩
      case rest =>
        obtain ⟨rfl, E10⟩ := hcut
        have E10 := hid E10.e
        clear E9
        go_wp2_with fail
        refine (rReduce_c br (mOf g) A n c bs _ E10.out.r E10.out.a (by have := HN.out; omega) (mOf_lt g)).mono ?_
        rintro e w10 ⟨rfl, b10'⟩
        have E11 := hid (E10.out.up b10')
        clear b10'
        go_wp2_with fail
        refine (ofBytes_c A n c bs w10 E11.out.a (by have := HN.out; omega)).mono ?_
        intro e w11 hd11
        obtain ⟨r11, rfl, h11, b11⟩ := Dg.of hd11 HBD.out
        have H11 := hid h11
        have E12 := hid (E11.out.up b11)
        clear hd11 h11 b11
        go_wp2_with fail
        refine (refMod_c g r11 _ w11 H11.out).mono ?_
        rintro e w12 ⟨r12, rfl, h12, b12⟩
        have H12 := hid h12
        have E13 := hid (E12.out.up b12)
        clear h12 b12
        go_wp2_with fail
        refine (ofW_c r12 _ w12 H12.out).mono ?_
        rintro e w13 ⟨rfl, b13⟩
        have E14 := hid (E13.out.up b13)
        clear b13
        go_wp2
        go_ret
        exact ⟨rfl, E14.out.b⟩
    · obtain rfl : E = 4 := HEE.out.trans e2
      clear hq hq' e1 e2 HEE
      go_cut [68] (fun s wx => s = .bool false ∧ EnvQ w A n bs b6 br N (mOf g) dv b10 l wx)
      case first =>
        refine wp_region_held_drew (S := fun w' => EnvQ w A n bs b6 br N (mOf g) dv b10 l w') (by kernel_rfl) E9 (fun hHeld => ?_)
        refine wpAnyH_take (i := 0) (v := ?_) rfl (by kernel_rfl) (by kernel_rfl) (by kernel_rfl) (fun _ _ _ h => h) (Or.inl ⟨by rfl, fun v hv => ?_⟩) (by with_reducible assumption) ?_
        rotate_left
        · go_simp
          try with_reducible rfl
        simp only [Act.put, List.setIfInBounds_toArray, List.set_cons_zero, List.set_cons_succ, List.getElem_toArray, List.getElem_cons_zero, List.getElem_cons_succ]
        refine wpAnyH_take (i := 2) (v := ?_) rfl (by kernel_rfl) (by kernel_rfl) (by kernel_rfl) (fun _ _ _ h => h) (Or.inl ⟨by rfl, fun v hv => ?_⟩) (by with_reducible assumption) ?_
        rotate_left
        · go_simp
          try with_reducible rfl
        simp only [Act.put, List.setIfInBounds_toArray, List.set_cons_zero, List.set_cons_succ, List.getElem_toArray, List.getElem_cons_zero, List.getElem_cons_succ]
        refine wpAnyH_take (i := 1) (v := ?_) rfl (by kernel_rfl) (by kernel_rfl) (by kernel_rfl) (fun _ _ _ h => h) (Or.inl ⟨by rfl, fun v hv => ?_⟩) (by with_reducible assumption) ?_
        rotate_left
        · go_simp
          try with_reducible rfl
        simp only [Act.put, List.setIfInBounds_toArray, List.set_cons_zero, List.set_cons_succ, List.getElem_toArray, List.getElem_cons_zero, List.getElem_cons_succ]
        refine wpAnyH_ready (rs := [3]) (by kernel_rfl) (by simp) ?_
        refine AllReadyH.cons rfl (fun K hK => ?_) AllReadyH.nil
        go_simp
        go_at_call 16
        with_reducible refine (CB _ (by with_reducible assumption)).mono ?_
        rintro e v ⟨A2, c2, rfl, cv2, hb⟩
        have hE := EnvQ.up (by with_reducible assumption) hb
        dsimp only
        refine hK.out _ _ hE (fun hHeld => ?_)
        clear hK K
        try simp only [Act.put, List.setIfInBounds_toArray, List.set_cons_zero, List.set_cons_succ, List.getElem_toArray, List.getElem_cons_zero, List.getElem_cons_succ]
        refine wpAnyH_ready (rs := [4]) (by kernel_rfl) (by simp) ?_
        refine AllReadyH.cons rfl (fun K hK => ?_) AllReadyH.nil
        go_simp
        refine hK.out _ _ hE (fun hHeld => ?_)
        clear hK K
        try simp only [Act.put, List.setIfInBounds_toArray, List.set_cons_zero, List.set_cons_succ, List.getElem_toArray, List.getElem_cons_zero, List.getElem_cons_succ]
        refine wpAnyH_take (i := 5) (v := ?_) rfl (by kernel_rfl) (by kernel_rfl) (by kernel_rfl) (fun _ _ _ h => h) (Or.inl ⟨by rfl, fun v hv => ?_⟩) (by with_reducible assumption) ?_
        rotate_left
        · go_simp
          try with_reducible rfl
        simp only [Act.put, List.setIfInBounds_toArray, List.set_cons_zero, List.set_cons_succ, List.getElem_toArray, List.getElem_cons_zero, List.getElem_cons_succ]
        refine wpAnyH_take (i := 6) (v := ?_) rfl (by kernel_rfl) (by kernel_rfl) (by kernel_rfl) (fun _ _ _ h => h) (Or.inl ⟨by rfl, fun v hv => ?_⟩) (by with_reducible assumption) ?_
        rotate_left
        · go_simp
          try with_reducible rfl
        simp only [Act.put, List.setIfInBounds_toArray, List.set_cons_zero, List.set_cons_succ, List.getElem_toArray, List.getElem_cons_zero, List.getElem_cons_succ]
        refine wpAnyH_take (i := 7) (v := ?_) rfl (by kernel_rfl) (by kernel_rfl) (by kernel_rfl) (fun _ _ _ h => h) (Or.inl ⟨by rfl, fun v hv => ?_⟩) (by with_reducible assumption) ?_
        rotate_left
        · go_simp
          try with_reducible rfl
        simp only [Act.put, List.setIfInBounds_toArray, List.set_cons_zero, List.set_cons_succ, List.getElem_toArray, List.getElem_cons_zero, List.getElem_cons_succ]
        refine wpAnyH_take (i := 8) (v := ?_) rfl (by kernel_rfl) (by kernel_rfl) (by kernel_rfl) (fun _ _ _ h => h) (Or.inl ⟨by rfl, fun v hv => ?_⟩) (by with_reducible assumption) ?_
        rotate_left
        · go_simp
          try with_reducible rfl
        simp only [Act.put, List.setIfInBounds_toArray, List.set_cons_zero, List.set_cons_succ, List.getElem_toArray, List.getElem_cons_zero, List.getElem_cons_succ]
        refine wpAnyH_take (i := 9) (v := ?_) rfl (by kernel_rfl) (by kernel_rfl) (by kernel_rfl) (fun _ _ _ h => h) (Or.inl ⟨by rfl, fun v hv => ?_⟩) (by with_reducible assumption) ?_
        rotate_left
        · go_simp
          try with_reducible rfl
        simp only [Act.put, List.setIfInBounds_toArray, List.set_cons_zero, List.set_cons_succ, List.getElem_toArray, List.getElem_cons_zero, List.getElem_cons_succ]
        refine wpAnyH_take (i := 10) (v := undef) rfl (by kernel_rfl) (by kernel_rfl) (by kernel_rfl) (fun _ _ _ h => h) (Or.inr ⟨by rfl, rfl⟩) (by with_reducible assumption) ?_
        simp only [Act.put, List.setIfInBounds_toArray, List.set_cons_zero, List.set_cons_succ, List.getElem_toArray, List.getElem_cons_zero, List.getElem_cons_succ]
        refine wpAnyH_take (i := 11) (v := undef) rfl (by kernel_rfl) (by kernel_rfl) (by kernel_rfl) (fun _ _ _ h => h) (Or.inr ⟨by rfl, rfl⟩) (by with_reducible assumption) ?_
        simp only [Act.put, List.setIfInBounds_toArray, List.set_cons_zero, List.set_cons_succ, List.getElem_toArray, List.getElem_cons_zero, List.getElem_cons_succ]
        refine wpAnyH_take (i := 12) (v := undef) rfl (by kernel_rfl) (by kernel_rfl) (by kernel_rfl) (fun _ _ _ h => h) (Or.inr ⟨by rfl, rfl⟩) (by with_reducible assumption) ?_
        simp only [Act.put, List.setIfInBounds_toArray, List.set_cons_zero, List.set_cons_succ, List.getElem_toArray, List.getElem_cons_zero, List.getElem_cons_succ]
        refine wpAnyH_take (i := 13) (v := undef) rfl (by kernel_rfl) (by kernel_rfl) (by kernel_rfl) (fun _ _ _ h => h) (Or.inr ⟨by rfl, rfl⟩) (by with_reducible assumption) ?_
        simp only [Act.put, List.setIfInBounds_toArray, List.set_cons_zero, List.set_cons_succ, List.getElem_toArray, List.getElem_cons_zero, List.getElem_cons_succ]
        refine wpAnyH_take (i := 14) (v := undef) rfl (by kernel_rfl) (by kernel_rfl) (by kernel_rfl) (fun _ _ _ h => h) (Or.inr ⟨by rfl, rfl⟩) (by with_reducible assumption) ?_
        simp only [Act.put, List.setIfInBounds_toArray, List.set_cons_zero, List.set_cons_succ, List.getElem_toArray, List.getElem_cons_zero, List.getElem_cons_succ]
        refine wpAnyH_take (i := 15) (v := ?_) rfl (by kernel_rfl) (by kernel_rfl) (by kernel_rfl) (fun _ _ _ h => h) (Or.inl ⟨by rfl, fun v hv => ?_⟩) (by with_reducible assumption) ?_
        rotate_left
        · go_simp
          try with_reducible rfl
        simp only [Act.put, List.setIfInBounds_toArray, List.set_cons_zero, List.set_cons_succ, List.getElem_toArray, List.getElem_cons_zero, List.getElem_cons_succ]
        refine wpAnyH_take (i := 16) (v := ?_) rfl (by kernel_rfl) (by kernel_rfl) (by kernel_rfl) (fun _ _ _ h => h) (Or.inl ⟨by rfl, fun v hv => ?_⟩) (by with_reducible assumption) ?_
        rotate_left
        · go_simp
          try with_reducible rfl
        simp only [Act.put, List.setIfInBounds_toArray, List.set_cons_zero, List.set_cons_succ, List.getElem_toArray, List.getElem_cons_zero, List.getElem_cons_succ]
        refine wpAnyH_done (by kernel_rfl) ?_ _
        go_wp2_with fail
        go_meet
        exact ⟨rfl, hE⟩
      case rest =>
        obtain ⟨rfl, E10⟩ := hcut
        have E10 := hid E10.e
        clear E9
        go_wp2_with fail
        refine (rReduce_c br (mOf g) A n c bs _ E10.out.r E10.out.a (by have := HN.out; omega) (mOf_lt g)).mono ?_
        rintro e w10 ⟨rfl, b10'⟩
        have E11 := hid (E10.out.up b10')
        clear b10'
        go_wp2_with fail
        refine (ofBytes_c A n c bs w10 E11.out.a (by have := HN.out; omega)).mono ?_
        intro e w11 hd11
        obtain ⟨r11, rfl, h11, b11⟩ := Dg.of hd11 HBD.out
        have H11 := hid h11
        have E12 := hid (E11.out.up b11)
        clear hd11 h11 b11
        go_wp2_with fail
        refine (refMod_c g r11 _ w11 H11.out).mono ?_
        rintro e w12 ⟨r12, rfl, h12, b12⟩
        have H12 := hid h12
        have E13 := hid (E12.out.up b12)
        clear h12 b12
        go_wp2_with fail
        refine (ofW_c r12 _ w12 H12.out).mono ?_
        rintro e w13 ⟨rfl, b13⟩
        have E14 := hid (E13.out.up b13)
        clear b13
        go_wp2
        go_ret
        exact ⟨rfl, E14.out.b⟩
    · obtain rfl : E = 0 := HEE.out.trans e2
      have HVN : Hid (N = val 256 bs) := HNN.out.trans e1
      obtain rfl : n = 96 := HA.out.len.symm.trans hq
      have HQ := hid hq
      clear hq hq' e1 e2 HEE
      have CA : ∀ v, EnvQ w A 96 bs b6 br N (mOf g) dv b10 l v → (convert 22 9 (.slice A 96 c)).run Tryd.prog v = .ok (.string (strOfNums (l.map fun (x : Nat) => (x : Int)))) v := fun v h => by
        have e : bs = l := val_inj 256 (by decide) bs l HA.out.lt HLT.out (HQ.out.trans HL.out.symm) (by rw [HV.out, HVN.out])
        have := conv8l h.e.a (by decide) c
        rw [e] at this
        exact this
      go_cut [68] (fun s wx => s = .bool false ∧ EnvQ w A 96 bs b6 br N (mOf g) dv b10 l wx)
      case first =>
        refine wp_region_held_drew (S := fun w' => EnvQ w A 96 bs b6 br N (mOf g) dv b10 l w') (by kernel_rfl) E9 (fun hHeld => ?_)
        refine wpAnyH_take (i := 0) (v := ?_) rfl (by kernel_rfl) (by kernel_rfl) (by kernel_rfl) (fun _ _ _ h => h) (Or.inl ⟨by rfl, fun v hv => ?_⟩) (by with_reducible assumption) ?_
        rotate_left
        · go_simp
          try with_reducible rfl
        simp only [Act.put, List.setIfInBounds_toArray, List.set_cons_zero, List.set_cons_succ, List.getElem_toArray, List.getElem_cons_zero, List.getElem_cons_succ]
        refine wpAnyH_take (i := 2) (v := ?_) rfl (by kernel_rfl) (by kernel_rfl) (by kernel_rfl) (fun _ _ _ h => h) (Or.inl ⟨by rfl, fun v hv => ?_⟩) (by with_reducible assumption) ?_
        rotate_left
        · go_simp
          try with_reducible rfl
        simp only [Act.put, List.setIfInBounds_toArray, List.set_cons_zero, List.set_cons_succ, List.getElem_toArray, List.getElem_cons_zero, List.getElem_cons_succ]
        refine wpAnyH_take (i := 1) (v := ?_) rfl (by kernel_rfl) (by kernel_rfl) (by kernel_rfl) (fun _ _ _ h => h) (Or.inl ⟨by rfl, fun v hv => ?_⟩) (by with_reducible assumption) ?_
        rotate_left
        · go_simp
          try with_reducible rfl
        simp only [Act.put, List.setIfInBounds_toArray, List.set_cons_zero, List.set_cons_succ, List.getElem_toArray, List.getElem_cons_zero, List.getElem_cons_succ]
        refine wpAnyH_ready (rs := [3]) (by kernel_rfl) (by simp) ?_
        refine AllReadyH.cons rfl (fun K hK => ?_) AllReadyH.nil
        go_simp
        go_at_call 16
        with_reducible refine (CB _ (by with_reducible assumption)).mono ?_
        rintro e v ⟨A2, c2, rfl, cv2, hb⟩
        have hE := EnvQ.up (by with_reducible assumption) hb
        dsimp only
        refine hK.out _ _ hE (fun hHeld => ?_)
        clear hK K
        try simp only [Act.put, List.setIfInBounds_toArray, List.set_cons_zero, List.set_cons_succ, List.getElem_toArray, List.getElem_cons_zero, List.getElem_cons_succ]
        refine wpAnyH_ready (rs := [4]) (by kernel_rfl) (by simp) ?_
        refine AllReadyH.cons rfl (fun K hK => ?_) AllReadyH.nil
        go_simp
        refine hK.out _ _ hE (fun hHeld => ?_)
        clear hK K
        try simp only [Act.put, List.setIfInBounds_toArray, List.set_cons_zero, List.set_cons_succ, List.getElem_toArray, List.getElem_cons_zero, List.getElem_cons_succ]
        refine wpAnyH_take (i := 5) (v := ?_) rfl (by kernel_rfl) (by kernel_rfl) (by kernel_rfl) (fun _ _ _ h => h) (Or.inl ⟨by rfl, fun v hv => ?_⟩) (by with_reducible assumption) ?_
        rotate_left
        · go_simp
          try with_reducible rfl
        simp only [Act.put, List.setIfInBounds_toArray, List.set_cons_zero, List.set_cons_succ, List.getElem_toArray, List.getElem_cons_zero, List.getElem_cons_succ]
        refine wpAnyH_take (i := 6) (v := ?_) rfl (by kernel_rfl) (by kernel_rfl) (by kernel_rfl) (fun _ _ _ h => h) (Or.inl ⟨by rfl, fun v hv => ?_⟩) (by with_reducible assumption) ?_
        rotate_left
        · go_simp
          try with_reducible rfl
        simp only [Act.put, List.setIfInBounds_toArray, List.set_cons_zero, List.set_cons_succ, List.getElem_toArray, List.getElem_cons_zero, List.getElem_cons_succ]
        refine wpAnyH_take (i := 7) (v := ?_) rfl (by kernel_rfl) (by kernel_rfl) (by kernel_rfl) (fun _ _ _ h => h) (Or.inl ⟨by rfl, fun v hv => ?_⟩) (by with_reducible assumption) ?_
        rotate_left
        · go_simp
          try with_reducible rfl
        simp only [Act.put, List.setIfInBounds_toArray, List.set_cons_zero, List.set_cons_succ, List.getElem_toArray, List.getElem_cons_zero, List.getElem_cons_succ]
        refine wpAnyH_take (i := 8) (v := ?_) rfl (by kernel_rfl) (by kernel_rfl) (by kernel_rfl) (fun _ _ _ h => h) (Or.inl ⟨by rfl, fun v hv => ?_⟩) (by with_reducible assumption) ?_
        rotate_left
        · go_simp
          try with_reducible rfl
        simp only [Act.put, List.setIfInBounds_toArray, List.set_cons_zero, List.set_cons_succ, List.getElem_toArray, List.getElem_cons_zero, List.getElem_cons_succ]
        refine wpAnyH_take (i := 9) (v := ?_) rfl (by kernel_rfl) (by kernel_rfl) (by kernel_rfl) (fun _ _ _ h => h) (Or.inl ⟨by rfl, fun v hv => ?_⟩) (by with_reducible assumption) ?_
        rotate_left
        · go_simp
          try with_reducible rfl
        simp only [Act.put, List.setIfInBounds_toArray, List.set_cons_zero, List.set_cons_succ, List.getElem_toArray, List.getElem_cons_zero, List.getElem_cons_succ]
        refine wpAnyH_take (i := 10) (v := ?_) rfl (by kernel_rfl) (by kernel_rfl) (by kernel_rfl) (fun _ _ _ h => h) (Or.inl ⟨by rfl, fun v hv => ?_⟩) (by with_reducible assumption) ?_
        rotate_left
        · go_simp
          try with_reducible rfl
        simp only [Act.put, List.setIfInBounds_toArray, List.set_cons_zero, List.set_cons_succ, List.getElem_toArray, List.getElem_cons_zero, List.getElem_cons_succ]
        refine wpAnyH_take (i := 11) (v := ?_) rfl (by kernel_rfl) (by kernel_rfl) (by kernel_rfl) (fun _ _ _ h => h) (Or.inl ⟨by rfl, fun v hv => ?_⟩) (by with_reducible assumption) ?_
        rotate_left
        · go_simp
          try with_reducible rfl
        simp only [Act.put, List.setIfInBounds_toArray, List.set_cons_zero, List.set_cons_succ, List.getElem_toArray, List.getElem_cons_zero, List.getElem_cons_succ]
        refine wpAnyH_take (i := 12) (v := ?_) rfl (by kernel_rfl) (by kernel_rfl) (by kernel_rfl) (fun _ _ _ h => h) (Or.inl ⟨by rfl, fun v hv => ?_⟩) (by with_reducible assumption) ?_
        rotate_left
        · go_simp
          try with_reducible rfl
        simp only [Act.put, List.setIfInBounds_toArray, List.set_cons_zero, List.set_cons_succ, List.getElem_toArray, List.getElem_cons_zero, List.getElem_cons_succ]
        refine wpAnyH_take (i := 13) (v := ?_) rfl (by kernel_rfl) (by kernel_rfl) (by kernel_rfl) (fun _ _ _ h => h) (Or.inl ⟨by rfl, fun v hv => ?_⟩) (by with_reducible assumption) ?_
        rotate_left
        · go_simp
          try with_reducible rfl
        simp only [Act.put, List.setIfInBounds_toArray, List.set_cons_zero, List.set_cons_succ, List.getElem_toArray, List.getElem_cons_zero, List.getElem_cons_succ]
        refine wpAnyH_take (i := 14) (v := ?_) rfl (by kernel_rfl) (by kernel_rfl) (by kernel_rfl) (fun _ _ _ h => h) (Or.inl ⟨by rfl, fun v hv => ?_⟩) (by with_reducible assumption) ?_
        rotate_left
        · go_simp
          try with_reducible rfl
        simp only [Act.put, List.setIfInBounds_toArray, List.set_cons_zero, List.set_cons_succ, List.getElem_toArray, List.getElem_cons_zero, List.getElem_cons_succ]
        refine wpAnyH_take (i := 15) (v := ?_) rfl (by kernel_rfl) (by kernel_rfl) (by kernel_rfl) (fun _ _ _ h => h) (Or.inl ⟨by rfl, fun v hv => ?_⟩) (by with_reducible assumption) ?_
        rotate_left
        · go_simp
          try with_reducible rfl
        simp only [Act.put, List.setIfInBounds_toArray, List.set_cons_zero, List.set_cons_succ, List.getElem_toArray, List.getElem_cons_zero, List.getElem_cons_succ]
        refine wpAnyH_take (i := 16) (v := ?_) rfl (by kernel_rfl) (by kernel_rfl) (by kernel_rfl) (fun _ _ _ h => h) (Or.inl ⟨by rfl, fun v hv => ?_⟩) (by with_reducible assumption) ?_
        rotate_left
        · go_simp
          try with_reducible rfl
        simp only [Act.put, List.setIfInBounds_toArray, List.set_cons_zero, List.set_cons_succ, List.getElem_toArray, List.getElem_cons_zero, List.getElem_cons_succ]
        refine wpAnyH_done (by kernel_rfl) ?_ _
        go_wp2_with fail
        go_meet
        exact ⟨rfl, hE⟩
      case rest =>
        obtain ⟨rfl, E10⟩ := hcut
        have E10 := hid E10.e
        clear E9
        go_wp2_with fail
        refine (rReduce_c br (mOf g) A 96 c bs _ E10.out.r E10.out.a (by have := HN.out; omega) (mOf_lt g)).mono ?_
        rintro e w10 ⟨rfl, b10'⟩
        have E11 := hid (E10.out.up b10')
        clear b10'
        go_wp2_with fail
        refine (ofBytes_c A 96 c bs w10 E11.out.a (by have := HN.out; omega)).mono ?_
        intro e w11 hd11
        obtain ⟨r11, rfl, h11, b11⟩ := Dg.of hd11 HBD.out
        have H11 := hid h11
        have E12 := hid (E11.out.up b11)
        clear hd11 h11 b11
        go_wp2_with fail
        refine (refMod_c g r11 _ w11 H11.out).mono ?_
        rintro e w12 ⟨r12, rfl, h12, b12⟩
        have H12 := hid h12
        have E13 := hid (E12.out.up b12)
        clear h12 b12
        go_wp2_with fail
        refine (ofW_c r12 _ w12 H12.out).mono ?_
        rintro e w13 ⟨rfl, b13⟩
        have E14 := hid (E13.out.up b13)
        clear b13
        go_wp2
        go_ret
        exact ⟨rfl, E14.out.b⟩
end Go.Proofs.YtocnbgeolajbbaaDoor
