/-
  avouchlaw06.KeccakIota: the walk.
-/
import Derived.Test.YtpilbpkblcmngaaDoorKBb
namespace Go.Proofs.YtpilbpkblcmngaaDoor
open Go.RowKit
set_option linter.unusedVariables false
set_option linter.unusedSimpArgs false

theorem z200_len : z200.length = 200 := by unfold z200; rw [List.length_replicate]
/-- Bytes laid into a new variable. -/
theorem new_200 (w : World) {bs : List Nat} {X : Nat} (h : By200 bs X) : (storeCells ⟨w.heap.size, 0, none⟩ (cells8 bs)).run Tryd.prog (w.alloc (o200 45)) = .ok () ((w.alloc (o200 45)).setCells w.heap.size 0 (cells8 bs)) ∧
    BlkB ((w.alloc (o200 45)).setCells w.heap.size 0 (cells8 bs)) w.heap.size 45 bs ∧ Below w.heap.size w ((w.alloc (o200 45)).setCells w.heap.size 0 (cells8 bs)) := by
  have h0 := o200_new w 45
  have hth := h0.there
  rw [z200_len] at hth
  exact ⟨store8 w.heap.size bs _ (by rw [h.len]; exact hth), h0.overB bs (by rw [h.len, z200_len]) h.lt, below_cells (Nat.le_refl _) _ _ _ ((Below.refl _ _).alloc (Nat.le_refl _) _)⟩
theorem kc_24 : kc 24 = 0 := rfl
theorem lio_twice (c : Nat) (X : List Nat) : lio c (lio 0 X) = lio c X := by
  refine same_getD (by simp [lio, lane]) fun i hi => ?_
  have hi' : i < 25 := by simpa [lio, lane] using hi
  rw [show lio c (lio 0 X) = lane fun i => if i = 0 then (lio 0 X).getD i 0 ^^^ c else (lio 0 X).getD i 0 from rfl, show lio c X = lane fun i => if i = 0 then X.getD i 0 ^^^ c else X.getD i 0 from rfl, lane_getD _ hi', lane_getD _ hi']
  have e : (lio 0 X).getD i 0 = X.getD i 0 := by
    unfold lio
    rw [lane_getD _ hi']
    split
    · rw [Nat.xor_zero]
    · rfl
  rw [e]
theorem lrd_bare (c : Nat) (l : List Nat) : lio c (lrd 0 l) = lrd c l := by
  unfold lrd
  exact lio_twice c _
/-- What is kept: the state, what the round makes of it, and the state that its bytes tell. -/
structure EnvI (w : World) (l M : List Nat) (b5 b7 : Nat) (v : World) : Prop where
  x : BlkW v w.heap.size 24 l
  m : BlkW v b5 24 M
  t : BlkW v b7 24 l
  g : GlobK v
  b : Below w.heap.size w v
theorem EnvI.up {w : World} {l M : List Nat} {b5 b7 : Nat} {v v' : World} (h : EnvI w l M b5 b7 v) (hb : Below v.heap.size v v') : EnvI w l M b5 b7 v' := ⟨h.x.up hb, h.m.up hb, h.t.up hb, h.g.up hb, bchain h.b hb⟩

set_option maxRecDepth 100000 in
set_option maxHeartbeats 4000000 in
theorem keccakIota_w (l : List Nat) (r : Int) (w : World) (hl : Lanes l) (hG : GlobK w) :
    Calls Tryd.prog 7 #[st l, .int .i64 r] w fun e w' => e = .returned (.bool true) ∧ Below w.heap.size w w' := by
  obtain ⟨h1, h4⟩ := boot1 w hl
  have H1 := hid h1
  have H4 := hid h4
  have HG := hid (hG.up h4)
  have HGW := hid hG
  have HL := hid hl
  have hlen := st_len hl
  clear h1 h4 hG hl
  unfold oW at H1 H4 HG
  unfold st
  go_enter Tryd.func7, Tryd.ntmps7
  go_wp2_with fail
  clear hlen
  generalize (w.alloc _) = w0 at *
  refine (speaks6_c w0 HG.out).mono ?_
  rintro e w1 ⟨rfl, b1⟩
  have O1 := hid (H1.out.up b1).range
  have HSz := hid (st_size HL.out)
  have X1 := hid (H1.out.up b1)
  have G1 := hid (HG.out.up b1)
  have B1 := hid (bchain H4.out b1)
  clear b1 H1 H4 HG
  go_wp2_with (with_reducible refine wpList_load_mid rfl 24 (.tmp 2) rfl w.heap.size 0 rfl (cellsOf64 l) _ O1.out Tryd.underlying24 rfl HSz.out ?_)
  refine (round_c l 24 w1 HL.out G1.out).mono ?_
  rintro e w2 ⟨rfl, b2⟩
  rw [kc_24]
  obtain ⟨N, hN⟩ : ∃ N, N = lrd 0 l := ⟨_, rfl⟩
  have HNL : Hid (Lanes N) := hN ▸ lrd_lanes (by decide) HL.out
  obtain ⟨M, hM⟩ : ∃ M, M = lrd (kc r) l := ⟨_, rfl⟩
  have HML : Hid (Lanes M) := hM ▸ lrd_lanes (kc_lt r) HL.out
  have HNM : Hid (lio (kc r) N = M) := by rw [hN, hM]; exact lrd_bare (kc r) l
  have HM := hid hM
  rw [← hN]
  obtain ⟨hst, hn, hbn⟩ := new_st w2 24 HNL.out
  have hlN := st_len HNL.out
  have b12 := bchain b2 hbn
  have X3 := hid (X1.out.up b12)
  have G3 := hid (G1.out.up b12)
  have B3 := hid (bchain B1.out b12)
  have N3 := hid hn
  have LT3 := X1.out.size
  have LT4 := b2.size
  have LT5 : w.heap.size < w2.heap.size := by omega
  clear b2 hbn b12 hN hM hn X1 G1 B1 O1 LT3 LT4
  unfold zS at hst X3 G3 B3 N3
  unfold st
  go_wp2_with fail
  clear hst hlN
  generalize ((w2.alloc _).setCells _ _ _) = w3 at *
  generalize w2.heap.size = b5 at *
  obtain ⟨u, hu⟩ : ∃ u, u = kc r := ⟨_, rfl⟩
  obtain ⟨x, hx⟩ : ∃ x, x = N.getD 0 0 ^^^ kc r := ⟨_, rfl⟩
  have hxor : bits .xor .u64 (at64 N 0) (u : Int) = (x : Int) := by
    unfold at64
    rw [hu, bits_xor_u64_nat _ _ (HNL.out.at_ _) (kc_lt r), hx]
  have HX64 : Hid (x < 18446744073709551616) := by rw [hx]; exact xor_lt (HNL.out.at_ _) (kc_lt r)
  have HSet : Hid (N.set 0 x = M) := by
    rw [← HNM.out, lio_set HNL.out (kc r), hx]
    exact rfl
  have c0 := N3.out.cell (i := 0) (by rw [HNL.out.len]; decide)
  have f0 := N3.out.frozen 0
  have C1 : ∀ v, GlobK v → Calls Tryd.prog 16 #[.int .i64 r] v fun e w' => e = .returned (.int .u64 (u : Int)) ∧ v = w' := fun v hv => by rw [hu]; exact constant_c r v hv
  have HG0 : Hid (GlobK w3.drew) := G3.out.up (Below.refl _ _).drew
  clear hu hx
  go_cut [17] (fun s wx => BlkW wx w.heap.size 24 l ∧ BlkW wx b5 24 M ∧ GlobK wx ∧ Below w.heap.size w wx)
  case first =>
    have hB0 := N3.out.set 0 x HX64.out
    rw [HSet.out] at hB0
    have e1 := hid (show BlkW (w3.setCell ⟨b5, 0, none⟩ (.int .u64 (x : Int))).drew b5 24 M from hB0.drew')
    have e2 := hid (show BlkW (w3.setCell ⟨b5, 0, none⟩ (.int .u64 (x : Int))).drew w.heap.size 24 l from (X3.out.otherC (by omega)).drew')
    have e3 := hid (show Below w.heap.size w (w3.setCell ⟨b5, 0, none⟩ (.int .u64 (x : Int))).drew from (B3.out.setCell (Nat.le_of_lt LT5) _).drew)
    have e4 := hid (show GlobK (w3.setCell ⟨b5, 0, none⟩ (.int .u64 (x : Int))).drew from HGW.out.below e3.out (Nat.le_refl _))
    clear hB0
    go_region_with (go_at_call 16; with_reducible refine (C1 _ HG0.out).mono ?_; rintro e w' ⟨rfl, rfl⟩)
    all_goals go_wp2_with fail
    all_goals go_meet
    all_goals exact ⟨e2.out, e1.out, e4.out, e3.out⟩
  case rest =>
    obtain ⟨e1, e2, e3, e4⟩ := hcut
    obtain ⟨w4, hw4⟩ : ∃ v, v = wc := ⟨_, rfl⟩
    rw [← hw4] at e1 e2 e3 e4 ⊢
    have X4 := hid e1
    have M4 := hid e2
    have G4 := hid e3
    have B4 := hid e4
    have O4 := hid e1.range
    clear e1 e2 e3 e4 hw4 X3 G3 B3 N3 c0 f0 C1 HG0 hxor HX64 HSet HNM HNL LT5
    go_wp2_with (with_reducible refine wpList_load_mid rfl 24 (.tmp 2) rfl w.heap.size 0 rfl (cellsOf64 l) _ O4.out Tryd.underlying24 rfl HSz.out ?_)
    refine (kbytes_c l w4 HL.out).mono ?_
    rintro e w5 ⟨bs, rfl, hbs, b5'⟩
    obtain ⟨hst, hn, hbn⟩ := new_200 w5 hbs
    have b45 := bchain b5' hbn
    have X6 := hid (X4.out.up b45)
    have M6 := hid (M4.out.up b45)
    have G6 := hid (G4.out.up b45)
    have B6 := hid (bchain B4.out b45)
    have N6 := hid hn
    have HBS := hid hbs
    have hlb : (cells8 bs).length = 200 := by rw [c8_len, hbs.len]
    have hl0 : (cells8 z200).length = 200 := by rw [c8_len, z200_len]
    have hz := zero200
    clear b5' b45 hbn hn hbs X4 M4 G4 B4 O4
    unfold o200 at hst X6 M6 G6 B6 N6
    go_wp2_with fail
    clear hst hlb hl0 hz
    generalize ((w5.alloc _).setCells _ _ _) = w6 at *
    generalize w5.heap.size = b6 at *
    have hrd : Rd8 w6 w6.heap.size (some ⟨b6, 0, none⟩) 200 bs := by
      have h := N6.out.rd N6.out.size
      rw [HBS.out.len] at h
      exact h
    refine (kofBytes_ok _ 200 bs w6 hrd).mono ?_
    rintro e w7 ⟨t, rfl, ht, hv, b7⟩
    have et : t = l := val_inj 18446744073709551616 (by decide) _ _ ht.all HL.out.all (by rw [ht.len, HL.out.len]) (hv.trans HBS.out.v)
    subst et
    obtain ⟨hst, hn, hbn⟩ := new_st w7 24 ht
    have b67 := bchain b7 hbn
    have E0 : Hid (EnvI w t M b5 w7.heap.size ((w7.alloc (zS 24)).setCells w7.heap.size 0 (cellsOf64 t))) := ⟨X6.out.up b67, M6.out.up b67, hn, G6.out.up b67, bchain B6.out b67⟩
    have hlt := st_len ht
    clear b7 b67 hbn hn X6 M6 G6 B6 N6 HBS hrd hv ht
    unfold zS at hst E0
    unfold st
    go_wp2_with fail
    clear hst hlt
    generalize ((w7.alloc _).setCells _ _ _) = w8 at *
    generalize w7.heap.size = b7 at *
    have EX : EnvI w t M b5 b7 w8.drew := E0.out.up (Below.refl _ _).drew
    clear E0
    go_cut [4] (fun s wx => s = .bool true ∧ EnvI w t M b5 b7 wx)
    case first =>
      obtain ⟨n25, hn25⟩ : ∃ n : Nat, n = 25 := ⟨_, rfl⟩
      have L1 : ∀ v, EnvI w t M b5 b7 v → (loadCellsFrom ⟨w.heap.size, 0, none⟩ 0 n25 #[]).run Tryd.prog v = .ok (cellsOf64 t).toArray v := fun v h => by rw [hn25]; exact cells_st h.x HL.out
      have L2 : ∀ v, EnvI w t M b5 b7 v → (loadCellsFrom ⟨b5, 0, none⟩ 0 n25 #[]).run Tryd.prog v = .ok (cellsOf64 M).toArray v := fun v h => by rw [hn25]; exact cells_st h.m HML.out
      have L3 : ∀ v, EnvI w t M b5 b7 v → (loadCellsFrom ⟨b7, 0, none⟩ 0 n25 #[]).run Tryd.prog v = .ok (cellsOf64 t).toArray v := fun v h => by rw [hn25]; exact cells_st h.t HL.out
      have CR : ∀ v, EnvI w t M b5 b7 v → Calls Tryd.prog 12 #[.agg (cellsOf64 t).toArray, .int .i64 r] v fun e w' => e = .returned (.agg (cellsOf64 M).toArray) ∧ Below v.heap.size v w' := fun v h => by
        have := round_c t r v HL.out h.g
        rw [← HM.out] at this
        exact this
      have F1 : ∀ v, (Op.equalIn 10000 24 (.agg (cellsOf64 M).toArray) (.agg (cellsOf64 M).toArray)).run Tryd.prog v = .ok true v := fun v => same_st v HML.out
      have F2 : ∀ v, (Op.equalIn 10000 24 (.agg (cellsOf64 t).toArray) (.agg (cellsOf64 t).toArray)).run Tryd.prog v = .ok true v := fun v => same_st v HL.out
      have F3 : ∀ v, (binOp .eql 42 (.int .i64 0) (.int .i64 0)).run Tryd.prog v = .ok (.bool true) v := fun v => by kernel_rfl
      have G1 := agg_st
      have G2 : ∀ v, (sizeOf 24).run Tryd.prog v = .ok n25 v := by rw [hn25]; exact size_st
      have G5 := Tryd.eqGuardType24
      have N1 := Tryd.call12
      clear hn25 HML HM HL HSz
      have HMX : Tryd.prog.follows .mixedOrders = true := by kernel_rfl
      generalize Tryd.prog = P at HMX CR L1 L2 L3 F1 F2 F3 G1 G2 G5 N1 ⊢
      refine wp_region_held_drew (S := fun v => EnvI w t M b5 b7 v) HMX EX (fun hHeld => ?_)
      refine wpAnyH_take (i := 0) (v := ?_) rfl (by kernel_rfl) (by kernel_rfl) (by kernel_rfl) (fun _ _ _ h => h) (Or.inl ⟨by rfl, fun v hv => ?_⟩) (by with_reducible assumption) ?_
      rotate_left
      · go_simp
        try with_reducible rfl
      simp only [Act.put, List.setIfInBounds_toArray, List.set_cons_zero, List.set_cons_succ, List.getElem_toArray, List.getElem_cons_zero, List.getElem_cons_succ]
      refine wpAnyH_take (i := 1) (v := ?_) rfl (by kernel_rfl) (by kernel_rfl) (by kernel_rfl) (fun _ _ _ h => h) (Or.inl ⟨by rfl, fun v hv => ?_⟩) (by with_reducible assumption) ?_
      rotate_left
      · go_simp
        try with_reducible rfl
      simp only [Act.put, List.setIfInBounds_toArray, List.set_cons_zero, List.set_cons_succ, List.getElem_toArray, List.getElem_cons_zero, List.getElem_cons_succ]
      refine wpAnyH_take (i := 2) (v := ?_) rfl (by kernel_rfl) (by kernel_rfl) (by kernel_rfl) (fun _ _ _ h => h) (Or.inl ⟨by rfl, fun v hv => ?_⟩) (by with_reducible assumption) ?_
      rotate_left
      · go_simp
        try with_reducible rfl
      simp only [Act.put, List.setIfInBounds_toArray, List.set_cons_zero, List.set_cons_succ, List.getElem_toArray, List.getElem_cons_zero, List.getElem_cons_succ]
      refine wpAnyH_ready (rs := [3]) (by kernel_rfl) (by simp) ?_
      refine AllReadyH.cons rfl (fun K hK => ?_) AllReadyH.nil
      go_simp
      go_at_call 12
      with_reducible refine (CR _ (by with_reducible assumption)).mono ?_
      rintro e v1 ⟨rfl, hb1⟩
      have hE1 := EnvI.up (by with_reducible assumption) hb1
      dsimp only
      refine hK.out _ _ hE1 (fun hHeld => ?_)
      clear hK K
      try simp only [Act.put, List.setIfInBounds_toArray, List.set_cons_zero, List.set_cons_succ, List.getElem_toArray, List.getElem_cons_zero, List.getElem_cons_succ]
      refine wpAnyH_take (i := 4) (v := ?_) rfl (by kernel_rfl) (by kernel_rfl) (by kernel_rfl) (fun _ _ _ h => h) (Or.inl ⟨by rfl, fun v hv => ?_⟩) (by with_reducible assumption) ?_
      rotate_left
      · go_simp
        try with_reducible rfl
      simp only [Act.put, List.setIfInBounds_toArray, List.set_cons_zero, List.set_cons_succ, List.getElem_toArray, List.getElem_cons_zero, List.getElem_cons_succ]
      refine wpAnyH_take (i := 5) (v := ?_) rfl (by kernel_rfl) (by kernel_rfl) (by kernel_rfl) (fun _ _ _ h => h) (Or.inl ⟨by rfl, fun v hv => ?_⟩) (by with_reducible assumption) ?_
      rotate_left
      · go_simp
        try with_reducible rfl
      simp only [Act.put, List.setIfInBounds_toArray, List.set_cons_zero, List.set_cons_succ, List.getElem_toArray, List.getElem_cons_zero, List.getElem_cons_succ]
      refine wpAnyH_take (i := 6) (v := ?_) rfl (by kernel_rfl) (by kernel_rfl) (by kernel_rfl) (fun _ _ _ h => h) (Or.inl ⟨by rfl, fun v hv => ?_⟩) (by with_reducible assumption) ?_
      rotate_left
      · go_simp
        try with_reducible rfl
      simp only [Act.put, List.setIfInBounds_toArray, List.set_cons_zero, List.set_cons_succ, List.getElem_toArray, List.getElem_cons_zero, List.getElem_cons_succ]
      refine wpAnyH_take (i := 7) (v := ?_) rfl (by kernel_rfl) (by kernel_rfl) (by kernel_rfl) (fun _ _ _ h => h) (Or.inl ⟨by rfl, fun v hv => ?_⟩) (by with_reducible assumption) ?_
      rotate_left
      · go_simp
        try with_reducible rfl
      simp only [Act.put, List.setIfInBounds_toArray, List.set_cons_zero, List.set_cons_succ, List.getElem_toArray, List.getElem_cons_zero, List.getElem_cons_succ]
      refine wpAnyH_take (i := 8) (v := ?_) rfl (by kernel_rfl) (by kernel_rfl) (by kernel_rfl) (fun _ _ _ h => h) (Or.inl ⟨by rfl, fun v hv => ?_⟩) (by with_reducible assumption) ?_
      rotate_left
      · go_simp
        try with_reducible rfl
      simp only [Act.put, List.setIfInBounds_toArray, List.set_cons_zero, List.set_cons_succ, List.getElem_toArray, List.getElem_cons_zero, List.getElem_cons_succ]
      refine wpAnyH_take (i := 9) (v := ?_) rfl (by kernel_rfl) (by kernel_rfl) (by kernel_rfl) (fun _ _ _ h => h) (Or.inl ⟨by rfl, fun v hv => ?_⟩) (by with_reducible assumption) ?_
      rotate_left
      · go_simp
        try with_reducible rfl
      simp only [Act.put, List.setIfInBounds_toArray, List.set_cons_zero, List.set_cons_succ, List.getElem_toArray, List.getElem_cons_zero, List.getElem_cons_succ]
      refine wpAnyH_take (i := 10) (v := ?_) rfl (by kernel_rfl) (by kernel_rfl) (by kernel_rfl) (fun _ _ _ h => h) (Or.inl ⟨by rfl, fun v hv => ?_⟩) (by with_reducible assumption) ?_
      rotate_left
      · go_simp
        try with_reducible rfl
      simp only [Act.put, List.setIfInBounds_toArray, List.set_cons_zero, List.set_cons_succ, List.getElem_toArray, List.getElem_cons_zero, List.getElem_cons_succ]
      refine wpAnyH_take (i := 11) (v := ?_) rfl (by kernel_rfl) (by kernel_rfl) (by kernel_rfl) (fun _ _ _ h => h) (Or.inl ⟨by rfl, fun v hv => ?_⟩) (by with_reducible assumption) ?_
      rotate_left
      · go_simp
        try with_reducible rfl
      simp only [Act.put, List.setIfInBounds_toArray, List.set_cons_zero, List.set_cons_succ, List.getElem_toArray, List.getElem_cons_zero, List.getElem_cons_succ]
      refine wpAnyH_take (i := 12) (v := ?_) rfl (by kernel_rfl) (by kernel_rfl) (by kernel_rfl) (fun _ _ _ h => h) (Or.inl ⟨by rfl, fun v hv => ?_⟩) (by with_reducible assumption) ?_
      rotate_left
      · go_simp
        try with_reducible rfl
      simp only [Act.put, List.setIfInBounds_toArray, List.set_cons_zero, List.set_cons_succ, List.getElem_toArray, List.getElem_cons_zero, List.getElem_cons_succ]
      refine wpAnyH_take (i := 13) (v := ?_) rfl (by kernel_rfl) (by kernel_rfl) (by kernel_rfl) (fun _ _ _ h => h) (Or.inl ⟨by rfl, fun v hv => ?_⟩) (by with_reducible assumption) ?_
      rotate_left
      · go_simp
        try with_reducible rfl
      simp only [Act.put, List.setIfInBounds_toArray, List.set_cons_zero, List.set_cons_succ, List.getElem_toArray, List.getElem_cons_zero, List.getElem_cons_succ]
      refine wpAnyH_take (i := 14) (v := ?_) rfl (by kernel_rfl) (by kernel_rfl) (by kernel_rfl) (fun _ _ _ h => h) (Or.inl ⟨by rfl, fun v hv => ?_⟩) (by with_reducible assumption) ?_
      rotate_left
      · go_simp
        try with_reducible rfl
      simp only [Act.put, List.setIfInBounds_toArray, List.set_cons_zero, List.set_cons_succ, List.getElem_toArray, List.getElem_cons_zero, List.getElem_cons_succ]
      refine wpAnyH_done (by kernel_rfl) ?_ _
      go_wp2_with fail
      go_meet
      exact ⟨rfl, hE1⟩
    case rest =>
      obtain ⟨rfl, hE⟩ := hcut
      clear EX
      go_wp2
      go_ret
      exact ⟨rfl, hE.b⟩
end Go.Proofs.YtpilbpkblcmngaaDoor
