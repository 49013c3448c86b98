/-
  avouchlaw06.KeccakUnlike: the walk.
-/
import Derived.Test.YtpilbpkblcmngaaDoorKLb
namespace Go.Proofs.YtpilbpkblcmngaaDoor
open Go.RowKit
set_option linter.unusedVariables false
set_option linter.unusedSimpArgs false

theorem boot12 (w : World) {l m : List Nat} (hl : Lanes l) (hm : Lanes m) : BlkW ((w.alloc (oW 24 l)).alloc (oW 24 m)) w.heap.size 24 l ∧
    BlkW ((w.alloc (oW 24 l)).alloc (oW 24 m)) (w.heap.size + 1) 24 m ∧ Below w.heap.size w ((w.alloc (oW 24 l)).alloc (oW 24 m)) := by
  have e1 : (w.alloc (oW 24 l)).heap.size = w.heap.size + 1 := by simp
  have h2 := oW_new (w.alloc (oW 24 l)) 24 m hm.all
  rw [e1] at h2
  exact ⟨(oW_new w _ l hl.all).alloc _, h2, ((Below.refl _ _).alloc (Nat.le_refl _) _).alloc (by omega) _⟩
theorem blk_putK {b c : Nat} {t : TypeId} {l : List Nat} (hne : b ≠ c) (vs : List Value) (o : Nat) (w : World) (h : BlkW w b t l) : BlkW (w.setCells c o vs) b t l := h.putC hne vs o
/-- What is kept: the two states, and what the rounds have made of them. -/
structure EnvU (w : World) (l m : List Nat) (p q : Nat) (A B : List Nat) (v : World) : Prop where
  x : BlkW v w.heap.size 24 l
  y : BlkW v (w.heap.size + 1) 24 m
  a : BlkW v p 24 A
  c : BlkW v q 24 B
  g : GlobK v
  b : Below w.heap.size w v
theorem EnvU.up {w : World} {l m : List Nat} {p q : Nat} {A B : List Nat} {v v' : World} (h : EnvU w l m p q A B v) (hb : Below v.heap.size v v') : EnvU w l m p q A B v' := ⟨h.x.up hb, h.y.up hb, h.a.up hb, h.c.up hb, h.g.up hb, bchain h.b hb⟩
/-- Only blocks from B on have changed: the tables stand. -/
theorem GlobK.put {v : World} {p : Nat} (h : GlobK v) (h1 : 0 ≠ p) (h2 : 1 ≠ p) (us : List Value) : GlobK (v.setCells p 0 us) := by
  have hb : Below p v (v.setCells p 0 us) := below_cells (Nat.le_refl _) _ _ _ (Below.refl _ _)
  have key : ∀ (us : List Value) (o : Nat) (v : World) (a : Addr), a.block ≠ p → (v.setCells p o us).cell? a = v.cell? a := by
    intro us
    induction us with
    | nil => intro o v a _; rfl
    | cons u us ih =>
      intro o v a ha
      show ((v.setCell ⟨p, o, none⟩ u).setCells p (o + 1) us).cell? a = _
      rw [ih (o + 1) _ a ha]
      simp only [World.setCell, World.cell?]
      rw [Array.getElem?_modify, if_neg (fun h => ha h.symm)]
  exact ⟨⟨Nat.lt_of_lt_of_le h.size.1 hb.size, Nat.lt_of_lt_of_le h.size.2 hb.size⟩, fun i hi => (key us 0 v _ h1).trans (h.consts i hi), fun i hi => (key us 0 v _ h2).trans (h.offs i hi)⟩
theorem EnvU.seta {w : World} {l m : List Nat} {p q : Nat} {A B A' : List Nat} {v : World} (h : EnvU w l m p q A B v) (hA : Lanes A) (hA' : Lanes A') (hp : w.heap.size + 1 < p) (hpq : p ≠ q) (hG : 0 < w.heap.size ∧ 1 < w.heap.size) : EnvU w l m p q A' B (v.setCells p 0 (cellsOf64 A')) :=
  ⟨h.x.putC (by omega) _ _, h.y.putC (by omega) _ _, h.a.overW A' (by rw [hA'.len, hA.len]) hA'.all, h.c.putC (by omega) _ _, h.g.put (by omega) (by omega) _, below_cells (by omega) _ _ _ h.b⟩
theorem EnvU.setc {w : World} {l m : List Nat} {p q : Nat} {A B B' : List Nat} {v : World} (h : EnvU w l m p q A B v) (hB : Lanes B) (hB' : Lanes B') (hq : w.heap.size + 1 < q) (hpq : p ≠ q) (hG : 0 < w.heap.size ∧ 1 < w.heap.size) : EnvU w l m p q A B' (v.setCells q 0 (cellsOf64 B')) :=
  ⟨h.x.putC (by omega) _ _, h.y.putC (by omega) _ _, h.a.putC (by omega) _ _, h.c.overW B' (by rw [hB'.len, hB.len]) hB'.all, h.g.put (by omega) (by omega) _, below_cells (by omega) _ _ _ h.b⟩
/-- Unlike states stay unlike, behind any number of rounds. -/
theorem lpk_inj {l m : List Nat} (hl : Lanes l) (hm : Lanes m) : ∀ k, decide (lpk l k = lpk m k) = decide (l = m)
  | 0 => rfl
  | k + 1 => by
    rw [← lpk_inj hl hm k]
    by_cases h : lpk l k = lpk m k
    · rw [decide_eq_true h, decide_eq_true]
      show lrd _ _ = lrd _ _
      rw [h]
    · rw [decide_eq_false h, decide_eq_false]
      intro e
      exact h (lrd_inj (lpk_lanes hl k) (lpk_lanes hm k) e)

set_option maxRecDepth 100000 in
set_option maxHeartbeats 4000000 in
theorem keccakUnlike_w (l m : List Nat) (w : World) (hl : Lanes l) (hm : Lanes m) (hG : GlobK w) :
    Calls Tryd.prog 6 #[st l, st m] w fun e w' => e = .returned (.bool true) ∧ Below w.heap.size w w' := by
  obtain ⟨h1, h2, h4⟩ := boot12 w hl hm
  have H1 := hid h1
  have H2 := hid h2
  have H4 := hid h4
  have HG := hid (hG.up h4)
  have HGS := hid hG.size
  have HL := hid hl
  have HM := hid hm
  have hlen := st_len hl
  have hlenm := st_len hm
  clear h1 h2 h4 hG hl hm
  unfold oW at H1 H2 H4 HG
  unfold st
  go_enter Tryd.func6, Tryd.ntmps6
  go_wp2_with fail
  clear hlen hlenm
  generalize ((w.alloc _).alloc _) = w0 at *
  refine (speaks6_c w0 HG.out).mono ?_
  rintro e w1 ⟨rfl, b1⟩
  have X1 := hid (H1.out.up b1)
  have Y1 := hid (H2.out.up b1)
  have G1 := hid (HG.out.up b1)
  have B1 := hid (bchain H4.out b1)
  have LT := Y1.out.size
  clear b1 H1 H2 H4 HG
  go_wp2_with fail
  have hS0 : Below w1.heap.size w1 w1.drew := (Below.refl _ _).drew
  go_cut [5, 6] (fun s t wx => ∃ p q, s = .pointer (some ⟨p, 0, none⟩) ∧ t = .pointer (some ⟨q, 0, none⟩) ∧ BlkW wx p 24 l ∧ BlkW wx q 24 m ∧ w1.heap.size ≤ p ∧ w1.heap.size ≤ q ∧ p ≠ q ∧ Below w1.heap.size w1 wx)
  case first =>
    obtain ⟨n25, hn25⟩ : ∃ n : Nat, n = 25 := ⟨_, rfl⟩
    have L1 : ∀ v, Below w1.heap.size w1 v → (loadCellsFrom ⟨w.heap.size, 0, none⟩ 0 n25 #[]).run Tryd.prog v = .ok (cellsOf64 l).toArray v := fun v h => by rw [hn25]; exact cells_st (X1.out.up h) HL.out
    have L2 : ∀ v, Below w1.heap.size w1 v → (loadCellsFrom ⟨w.heap.size + 1, 0, none⟩ 0 n25 #[]).run Tryd.prog v = .ok (cellsOf64 m).toArray v := fun v h => by rw [hn25]; exact cells_st (Y1.out.up h) HM.out
    have ST1 : ∀ v b, BlkW v b 24 l0 → (storeCells ⟨b, 0, none⟩ (cellsOf64 l)).run Tryd.prog v = .ok () (v.setCells b 0 (cellsOf64 l)) := fun v b h => (st_stored HL.out h).1
    have ST2 : ∀ v b, BlkW v b 24 l0 → (storeCells ⟨b, 0, none⟩ (cellsOf64 m)).run Tryd.prog v = .ok () (v.setCells b 0 (cellsOf64 m)) := fun v b h => (st_stored HM.out h).1
    have OV1 : ∀ v b, BlkW v b 24 l0 → BlkW (v.setCells b 0 (cellsOf64 l)) b 24 l := fun v b h => h.overW l (by rw [HL.out.len]; rfl) HL.out.all
    have OV2 : ∀ v b, BlkW v b 24 l0 → BlkW (v.setCells b 0 (cellsOf64 m)) b 24 m := fun v b h => h.overW m (by rw [HM.out.len]; rfl) HM.out.all
    have hl1 : (cellsOf64 l).length = n25 := by rw [hn25]; exact st_len HL.out
    have hl2 : (cellsOf64 m).length = n25 := by rw [hn25]; exact st_len HM.out
    have G2 := agg_st
    have G3 : ∀ v, (sizeOf 24).run Tryd.prog v = .ok n25 v := by rw [hn25]; exact size_st
    have G5 : ∀ v, (zeroValue 24).run Tryd.prog v = .ok (.agg #[.int .u64 0, .int .u64 0, .int .u64 0, .int .u64 0, .int .u64 0, .int .u64 0, .int .u64 0, .int .u64 0, .int .u64 0, .int .u64 0, .int .u64 0, .int .u64 0, .int .u64 0, .int .u64 0, .int .u64 0, .int .u64 0, .int .u64 0, .int .u64 0, .int .u64 0, .int .u64 0, .int .u64 0, .int .u64 0, .int .u64 0, .int .u64 0, .int .u64 0]) v := fun v => by kernel_rfl
    have HMX : Tryd.prog.follows .mixedOrders = true := by kernel_rfl
    clear hn25 HL HM X1 Y1 G1 B1 LT
    generalize Tryd.prog = P at ST1 ST2 L1 L2 G2 G3 G5 HMX ⊢
    refine wp_region_held_drew (S := fun w' => Below w1.heap.size w1 w') HMX hS0 (fun hHeld => ?_)
    generalize w1.drew = v0 at *
    refine wpAnyH_take (i := 0) (v := ?_) rfl (by kernel_rfl) (by kernel_rfl) (by kernel_rfl) (fun _ _ _ h => h) (Or.inl ⟨by rfl, fun v hv => ?_⟩) (by with_reducible assumption) ?_
    rotate_left
    · go_simp
      try with_reducible rfl
    simp only [Act.put, List.setIfInBounds_toArray, List.set_cons_zero, List.set_cons_succ, List.getElem_toArray, List.getElem_cons_zero, List.getElem_cons_succ]
    refine wpAnyH_take (i := 1) (v := ?_) rfl (by kernel_rfl) (by kernel_rfl) (by kernel_rfl) (fun _ _ _ h => h) (Or.inl ⟨by rfl, fun v hv => ?_⟩) (by with_reducible assumption) ?_
    rotate_left
    · go_simp
      try with_reducible rfl
    simp only [Act.put, List.setIfInBounds_toArray, List.set_cons_zero, List.set_cons_succ, List.getElem_toArray, List.getElem_cons_zero, List.getElem_cons_succ]
    refine wpAnyH_ready (rs := [2, 3]) (by kernel_rfl) (by simp) ?_
    refine (AllReadyH.cons rfl (fun K hK => ?_) (AllReadyH.cons rfl (fun K hK => ?_) AllReadyH.nil))
    · have hb1 := (Below.refl v0.heap.size v0).alloc (Nat.le_refl _) (.cells #[.int .u64 0, .int .u64 0, .int .u64 0, .int .u64 0, .int .u64 0, .int .u64 0, .int .u64 0, .int .u64 0, .int .u64 0, .int .u64 0, .int .u64 0, .int .u64 0, .int .u64 0, .int .u64 0, .int .u64 0, .int .u64 0, .int .u64 0, .int .u64 0, .int .u64 0, .int .u64 0, .int .u64 0, .int .u64 0, .int .u64 0, .int .u64 0, .int .u64 0] 24)
      have hS1 : Below w1.heap.size w1 (v0.alloc (.cells #[.int .u64 0, .int .u64 0, .int .u64 0, .int .u64 0, .int .u64 0, .int .u64 0, .int .u64 0, .int .u64 0, .int .u64 0, .int .u64 0, .int .u64 0, .int .u64 0, .int .u64 0, .int .u64 0, .int .u64 0, .int .u64 0, .int .u64 0, .int .u64 0, .int .u64 0, .int .u64 0, .int .u64 0, .int .u64 0, .int .u64 0, .int .u64 0, .int .u64 0] 24)) := bchain hS0 hb1
      have lep1 := hS0.size
      have zp1 : BlkW (v0.alloc (.cells #[.int .u64 0, .int .u64 0, .int .u64 0, .int .u64 0, .int .u64 0, .int .u64 0, .int .u64 0, .int .u64 0, .int .u64 0, .int .u64 0, .int .u64 0, .int .u64 0, .int .u64 0, .int .u64 0, .int .u64 0, .int .u64 0, .int .u64 0, .int .u64 0, .int .u64 0, .int .u64 0, .int .u64 0, .int .u64 0, .int .u64 0, .int .u64 0, .int .u64 0] 24)) (v0.heap.size) 24 l0 := zS_new v0 24
      go_simp
      refine hK.out _ _ hS1 (fun hHeld => ?_)
      clear hK K
      try simp only [Act.put, List.setIfInBounds_toArray, List.set_cons_zero, List.set_cons_succ, List.getElem_toArray, List.getElem_cons_zero, List.getElem_cons_succ]
      generalize hv1 : v0.alloc (.cells #[.int .u64 0, .int .u64 0, .int .u64 0, .int .u64 0, .int .u64 0, .int .u64 0, .int .u64 0, .int .u64 0, .int .u64 0, .int .u64 0, .int .u64 0, .int .u64 0, .int .u64 0, .int .u64 0, .int .u64 0, .int .u64 0, .int .u64 0, .int .u64 0, .int .u64 0, .int .u64 0, .int .u64 0, .int .u64 0, .int .u64 0, .int .u64 0, .int .u64 0] 24) = wv1 at *
      generalize hbl1 : v0.heap.size = pb1 at *
      clear hb1
      refine wpAnyH_ready (rs := [3]) (by kernel_rfl) (by simp) ?_
      refine (AllReadyH.cons rfl (fun K hK => ?_) AllReadyH.nil)
      have hb2 := (Below.refl wv1.heap.size wv1).alloc (Nat.le_refl _) (.cells #[.int .u64 0, .int .u64 0, .int .u64 0, .int .u64 0, .int .u64 0, .int .u64 0, .int .u64 0, .int .u64 0, .int .u64 0, .int .u64 0, .int .u64 0, .int .u64 0, .int .u64 0, .int .u64 0, .int .u64 0, .int .u64 0, .int .u64 0, .int .u64 0, .int .u64 0, .int .u64 0, .int .u64 0, .int .u64 0, .int .u64 0, .int .u64 0, .int .u64 0] 24)
      have hS2 : Below w1.heap.size w1 (wv1.alloc (.cells #[.int .u64 0, .int .u64 0, .int .u64 0, .int .u64 0, .int .u64 0, .int .u64 0, .int .u64 0, .int .u64 0, .int .u64 0, .int .u64 0, .int .u64 0, .int .u64 0, .int .u64 0, .int .u64 0, .int .u64 0, .int .u64 0, .int .u64 0, .int .u64 0, .int .u64 0, .int .u64 0, .int .u64 0, .int .u64 0, .int .u64 0, .int .u64 0, .int .u64 0] 24)) := bchain hS1 hb2
      have leq2 := hS1.size
      have ltp2 := (zp1).size
      have zp2 := BlkW.up zp1 hb2
      have zq2 : BlkW (wv1.alloc (.cells #[.int .u64 0, .int .u64 0, .int .u64 0, .int .u64 0, .int .u64 0, .int .u64 0, .int .u64 0, .int .u64 0, .int .u64 0, .int .u64 0, .int .u64 0, .int .u64 0, .int .u64 0, .int .u64 0, .int .u64 0, .int .u64 0, .int .u64 0, .int .u64 0, .int .u64 0, .int .u64 0, .int .u64 0, .int .u64 0, .int .u64 0, .int .u64 0, .int .u64 0] 24)) (wv1.heap.size) 24 l0 := zS_new wv1 24
      go_simp
      refine hK.out _ _ hS2 (fun hHeld => ?_)
      clear hK K
      try simp only [Act.put, List.setIfInBounds_toArray, List.set_cons_zero, List.set_cons_succ, List.getElem_toArray, List.getElem_cons_zero, List.getElem_cons_succ]
      generalize hv2 : wv1.alloc (.cells #[.int .u64 0, .int .u64 0, .int .u64 0, .int .u64 0, .int .u64 0, .int .u64 0, .int .u64 0, .int .u64 0, .int .u64 0, .int .u64 0, .int .u64 0, .int .u64 0, .int .u64 0, .int .u64 0, .int .u64 0, .int .u64 0, .int .u64 0, .int .u64 0, .int .u64 0, .int .u64 0, .int .u64 0, .int .u64 0, .int .u64 0, .int .u64 0, .int .u64 0] 24) = wv2 at *
      generalize hbl2 : wv1.heap.size = pb2 at *
      clear hb2
      refine wpAnyH_ready (rs := [4]) (by kernel_rfl) (by simp) ?_
      refine (AllReadyH.cons rfl (fun K hK => ?_) AllReadyH.nil)
      have hst3 := ST1 wv2 pb1 zp2
      go_simp
      have hS3 : Below w1.heap.size w1 (wv2.setCells pb1 0 (cellsOf64 l)) := below_cells lep1 _ _ _ hS2
      have zq3 := blk_putK (show pb2 ≠ pb1 by omega) (cellsOf64 l) 0 _ zq2
      have zp3 := OV1 _ _ zp2
      refine hK.out _ _ hS3 (fun hHeld => ?_)
      clear hK K hst3
      try simp only [Act.put, List.setIfInBounds_toArray, List.set_cons_zero, List.set_cons_succ, List.getElem_toArray, List.getElem_cons_zero, List.getElem_cons_succ]
      generalize wv2.setCells pb1 0 (cellsOf64 l) = wv3 at *
      refine wpAnyH_ready (rs := [5]) (by kernel_rfl) (by simp) ?_
      refine (AllReadyH.cons rfl (fun K hK => ?_) AllReadyH.nil)
      have hst4 := ST2 wv3 pb2 zq3
      go_simp
      have hS4 : Below w1.heap.size w1 (wv3.setCells pb2 0 (cellsOf64 m)) := below_cells leq2 _ _ _ hS3
      have zp4 := blk_putK (show pb1 ≠ pb2 by omega) (cellsOf64 m) 0 _ zp3
      have zq4 := OV2 _ _ zq3
      refine hK.out _ _ hS4 (fun hHeld => ?_)
      clear hK K hst4
      try simp only [Act.put, List.setIfInBounds_toArray, List.set_cons_zero, List.set_cons_succ, List.getElem_toArray, List.getElem_cons_zero, List.getElem_cons_succ]
      generalize wv3.setCells pb2 0 (cellsOf64 m) = wv4 at *
      refine wpAnyH_done (by kernel_rfl) ?_ _
      go_wp2_with fail
      go_meet
      exact ⟨_, _, rfl, rfl, zp4, zq4, lep1, leq2, by omega, hS4⟩
    · have hb5 := (Below.refl v0.heap.size v0).alloc (Nat.le_refl _) (.cells #[.int .u64 0, .int .u64 0, .int .u64 0, .int .u64 0, .int .u64 0, .int .u64 0, .int .u64 0, .int .u64 0, .int .u64 0, .int .u64 0, .int .u64 0, .int .u64 0, .int .u64 0, .int .u64 0, .int .u64 0, .int .u64 0, .int .u64 0, .int .u64 0, .int .u64 0, .int .u64 0, .int .u64 0, .int .u64 0, .int .u64 0, .int .u64 0, .int .u64 0] 24)
      have hS5 : Below w1.heap.size w1 (v0.alloc (.cells #[.int .u64 0, .int .u64 0, .int .u64 0, .int .u64 0, .int .u64 0, .int .u64 0, .int .u64 0, .int .u64 0, .int .u64 0, .int .u64 0, .int .u64 0, .int .u64 0, .int .u64 0, .int .u64 0, .int .u64 0, .int .u64 0, .int .u64 0, .int .u64 0, .int .u64 0, .int .u64 0, .int .u64 0, .int .u64 0, .int .u64 0, .int .u64 0, .int .u64 0] 24)) := bchain hS0 hb5
      have leq5 := hS0.size
      have zq5 : BlkW (v0.alloc (.cells #[.int .u64 0, .int .u64 0, .int .u64 0, .int .u64 0, .int .u64 0, .int .u64 0, .int .u64 0, .int .u64 0, .int .u64 0, .int .u64 0, .int .u64 0, .int .u64 0, .int .u64 0, .int .u64 0, .int .u64 0, .int .u64 0, .int .u64 0, .int .u64 0, .int .u64 0, .int .u64 0, .int .u64 0, .int .u64 0, .int .u64 0, .int .u64 0, .int .u64 0] 24)) (v0.heap.size) 24 l0 := zS_new v0 24
      go_simp
      refine hK.out _ _ hS5 (fun hHeld => ?_)
      clear hK K
      try simp only [Act.put, List.setIfInBounds_toArray, List.set_cons_zero, List.set_cons_succ, List.getElem_toArray, List.getElem_cons_zero, List.getElem_cons_succ]
      generalize hv5 : v0.alloc (.cells #[.int .u64 0, .int .u64 0, .int .u64 0, .int .u64 0, .int .u64 0, .int .u64 0, .int .u64 0, .int .u64 0, .int .u64 0, .int .u64 0, .int .u64 0, .int .u64 0, .int .u64 0, .int .u64 0, .int .u64 0, .int .u64 0, .int .u64 0, .int .u64 0, .int .u64 0, .int .u64 0, .int .u64 0, .int .u64 0, .int .u64 0, .int .u64 0, .int .u64 0] 24) = wv5 at *
      generalize hbl5 : v0.heap.size = pb5 at *
      clear hb5
      refine wpAnyH_ready (rs := [2]) (by kernel_rfl) (by simp) ?_
      refine (AllReadyH.cons rfl (fun K hK => ?_) AllReadyH.nil)
      have hb6 := (Below.refl wv5.heap.size wv5).alloc (Nat.le_refl _) (.cells #[.int .u64 0, .int .u64 0, .int .u64 0, .int .u64 0, .int .u64 0, .int .u64 0, .int .u64 0, .int .u64 0, .int .u64 0, .int .u64 0, .int .u64 0, .int .u64 0, .int .u64 0, .int .u64 0, .int .u64 0, .int .u64 0, .int .u64 0, .int .u64 0, .int .u64 0, .int .u64 0, .int .u64 0, .int .u64 0, .int .u64 0, .int .u64 0, .int .u64 0] 24)
      have hS6 : Below w1.heap.size w1 (wv5.alloc (.cells #[.int .u64 0, .int .u64 0, .int .u64 0, .int .u64 0, .int .u64 0, .int .u64 0, .int .u64 0, .int .u64 0, .int .u64 0, .int .u64 0, .int .u64 0, .int .u64 0, .int .u64 0, .int .u64 0, .int .u64 0, .int .u64 0, .int .u64 0, .int .u64 0, .int .u64 0, .int .u64 0, .int .u64 0, .int .u64 0, .int .u64 0, .int .u64 0, .int .u64 0] 24)) := bchain hS5 hb6
      have lep6 := hS5.size
      have ltq6 := (zq5).size
      have zq6 := BlkW.up zq5 hb6
      have zp6 : BlkW (wv5.alloc (.cells #[.int .u64 0, .int .u64 0, .int .u64 0, .int .u64 0, .int .u64 0, .int .u64 0, .int .u64 0, .int .u64 0, .int .u64 0, .int .u64 0, .int .u64 0, .int .u64 0, .int .u64 0, .int .u64 0, .int .u64 0, .int .u64 0, .int .u64 0, .int .u64 0, .int .u64 0, .int .u64 0, .int .u64 0, .int .u64 0, .int .u64 0, .int .u64 0, .int .u64 0] 24)) (wv5.heap.size) 24 l0 := zS_new wv5 24
      go_simp
      refine hK.out _ _ hS6 (fun hHeld => ?_)
      clear hK K
      try simp only [Act.put, List.setIfInBounds_toArray, List.set_cons_zero, List.set_cons_succ, List.getElem_toArray, List.getElem_cons_zero, List.getElem_cons_succ]
      generalize hv6 : wv5.alloc (.cells #[.int .u64 0, .int .u64 0, .int .u64 0, .int .u64 0, .int .u64 0, .int .u64 0, .int .u64 0, .int .u64 0, .int .u64 0, .int .u64 0, .int .u64 0, .int .u64 0, .int .u64 0, .int .u64 0, .int .u64 0, .int .u64 0, .int .u64 0, .int .u64 0, .int .u64 0, .int .u64 0, .int .u64 0, .int .u64 0, .int .u64 0, .int .u64 0, .int .u64 0] 24) = wv6 at *
      generalize hbl6 : wv5.heap.size = pb6 at *
      clear hb6
      refine wpAnyH_ready (rs := [4]) (by kernel_rfl) (by simp) ?_
      refine (AllReadyH.cons rfl (fun K hK => ?_) AllReadyH.nil)
      have hst7 := ST1 wv6 pb6 zp6
      go_simp
      have hS7 : Below w1.heap.size w1 (wv6.setCells pb6 0 (cellsOf64 l)) := below_cells lep6 _ _ _ hS6
      have zq7 := blk_putK (show pb5 ≠ pb6 by omega) (cellsOf64 l) 0 _ zq6
      have zp7 := OV1 _ _ zp6
      refine hK.out _ _ hS7 (fun hHeld => ?_)
      clear hK K hst7
      try simp only [Act.put, List.setIfInBounds_toArray, List.set_cons_zero, List.set_cons_succ, List.getElem_toArray, List.getElem_cons_zero, List.getElem_cons_succ]
      generalize wv6.setCells pb6 0 (cellsOf64 l) = wv7 at *
      refine wpAnyH_ready (rs := [5]) (by kernel_rfl) (by simp) ?_
      refine (AllReadyH.cons rfl (fun K hK => ?_) AllReadyH.nil)
      have hst8 := ST2 wv7 pb5 zq7
      go_simp
      have hS8 : Below w1.heap.size w1 (wv7.setCells pb5 0 (cellsOf64 m)) := below_cells leq5 _ _ _ hS7
      have zp8 := blk_putK (show pb6 ≠ pb5 by omega) (cellsOf64 m) 0 _ zp7
      have zq8 := OV2 _ _ zq7
      refine hK.out _ _ hS8 (fun hHeld => ?_)
      clear hK K hst8
      try simp only [Act.put, List.setIfInBounds_toArray, List.set_cons_zero, List.set_cons_succ, List.getElem_toArray, List.getElem_cons_zero, List.getElem_cons_succ]
      generalize wv7.setCells pb5 0 (cellsOf64 m) = wv8 at *
      refine wpAnyH_done (by kernel_rfl) ?_ _
      go_wp2_with fail
      go_meet
      exact ⟨_, _, rfl, rfl, zp8, zq8, lep6, leq5, by omega, hS8⟩
  case rest =>
    obtain ⟨p, q, rfl, rfl, hp, hq, lp, lq, hpq, hw⟩ := hcut
    have R0 : Hid (EnvU w l m p q (lpk l 0) (lpk m 0) wc) := ⟨X1.out.up hw, Y1.out.up hw, hp, hq, G1.out.up hw, bchain B1.out hw⟩
    have lp2 : w.heap.size + 1 < p := by omega
    have lq2 : w.heap.size + 1 < q := by omega
    clear hp hq lp lq hw X1 Y1 G1 B1 LT hS0
    obtain ⟨w2, hw2⟩ : ∃ v, v = wc := ⟨_, rfl⟩
    rw [← hw2] at R0 ⊢
    clear hw2
    go_wp2_with fail
    go_loopw [12] (fun i wr => ∃ k : Nat, k ≤ 24 ∧ i = .int .i64 k ∧ EnvU w l m p q (lpk l k) (lpk m k) wr) (fun i _ => 24 - (intOf i).toNat)
    case atStart => exact ⟨0, by omega, rfl, R0.out⟩
    case round =>
      clear R0
      obtain ⟨k, hk, rfl, hrel⟩ := hrel
      by_cases hlt : k < 24
      · have i2 : (k : Int) < 24 := by omega
        have HS1 : Hid (lrd (kc (k : Int)) (lpk l k) = lpk l (k + 1)) := by rw [kc_nat hlt]; exact rfl
        have HS2 : Hid (lrd (kc (k : Int)) (lpk m k) = lpk m (k + 1)) := by rw [kc_nat hlt]; exact rfl
        have LA := hid (lpk_lanes HL.out k)
        have LB := hid (lpk_lanes HM.out k)
        have LA1 := hid (lpk_lanes HL.out (k + 1))
        have LB1 := hid (lpk_lanes HM.out (k + 1))
        have HD := hid (lpk_inj HL.out HM.out (k + 1))
        obtain ⟨A, hA⟩ : ∃ a, a = lpk l k := ⟨_, rfl⟩
        obtain ⟨B, hB⟩ : ∃ a, a = lpk m k := ⟨_, rfl⟩
        obtain ⟨A1, hA1⟩ : ∃ a, a = lpk l (k + 1) := ⟨_, rfl⟩
        obtain ⟨B1, hB1⟩ : ∃ a, a = lpk m (k + 1) := ⟨_, rfl⟩
        rw [← hA, ← hB] at hrel
        rw [← hA, ← hA1] at HS1
        rw [← hB, ← hB1] at HS2
        rw [← hA] at LA
        rw [← hB] at LB
        rw [← hA1] at LA1
        rw [← hB1] at LB1
        rw [← hA1, ← hB1] at HD
        have HA1 := hid hA1
        have HB1 := hid hB1
        have HR := hid hrel
        clear hrel hA hB hA1 hB1
        go_wp2_with fail
        have E0 : EnvU w l m p q A B wr.drew := HR.out.up (Below.refl _ _).drew
        clear HR
        go_cut [12] (fun s wx => s = .int .i64 (k : Int) ∧ EnvU w l m p q A1 B1 wx)
        case first =>
          have CA : ∀ v, GlobK v → Calls Tryd.prog 12 #[.agg (cellsOf64 A).toArray, .int .i64 (k : Int)] v fun e w' => e = .returned (.agg (cellsOf64 A1).toArray) ∧ Below v.heap.size v w' := fun v h => by
            have := round_c A (k : Int) v LA.out h
            rw [HS1.out] at this
            exact this
          have CB : ∀ v, GlobK v → Calls Tryd.prog 12 #[.agg (cellsOf64 B).toArray, .int .i64 (k : Int)] v fun e w' => e = .returned (.agg (cellsOf64 B1).toArray) ∧ Below v.heap.size v w' := fun v h => by
            have := round_c B (k : Int) v LB.out h
            rw [HS2.out] at this
            exact this
          refine wp_region_held_drew (S := fun _ => True) (by kernel_rfl) trivial (fun hHeld => ?_)
          generalize wr.drew = v0 at *
          refine wpAnyH_take (i := 1) (v := ?_) rfl (by kernel_rfl) (by kernel_rfl) (by kernel_rfl) (fun _ _ _ h => h) (Or.inl ⟨by rfl, fun v hv => ?_⟩) (by with_reducible assumption) ?_
          rotate_left
          · go_simp
            try with_reducible rfl
          simp only [Act.put, List.setIfInBounds_toArray, List.set_cons_zero, List.set_cons_succ, List.getElem_toArray, List.getElem_cons_zero, List.getElem_cons_succ]
          refine wpAnyH_take (i := 4) (v := ?_) rfl (by kernel_rfl) (by kernel_rfl) (by kernel_rfl) (fun _ _ _ h => h) (Or.inl ⟨by rfl, fun v hv => ?_⟩) (by with_reducible assumption) ?_
          rotate_left
          · go_simp
            try with_reducible rfl
          simp only [Act.put, List.setIfInBounds_toArray, List.set_cons_zero, List.set_cons_succ, List.getElem_toArray, List.getElem_cons_zero, List.getElem_cons_succ]
          refine wpAnyH_ready (rs := [0, 3]) (by kernel_rfl) (by simp) ?_
          refine (AllReadyH.cons rfl (fun K hK => ?_) (AllReadyH.cons rfl (fun K hK => ?_) AllReadyH.nil))
          · rw [if_pos (by rfl)]
            refine wp_load_mid 24 (.tmp 5) rfl p 0 rfl (cellsOf64 A) _ E0.a.range Tryd.underlying24 rfl (st_size LA.out) ?_
            refine hK.out _ _ trivial (fun hHeld => ?_)
            clear hK K
            try simp only [Act.put, List.setIfInBounds_toArray, List.set_cons_zero, List.set_cons_succ, List.getElem_toArray, List.getElem_cons_zero, List.getElem_cons_succ]
            refine wpAnyH_ready (rs := [2, 3]) (by kernel_rfl) (by simp) ?_
            refine (AllReadyH.cons rfl (fun K hK => ?_) (AllReadyH.cons rfl (fun K hK => ?_) AllReadyH.nil))
            · go_simp
              go_at_call 12
              with_reducible refine (CA _ E0.g).mono ?_
              rintro e v2 ⟨rfl, hb2⟩
              have E2 := EnvU.up E0 hb2
              dsimp only
              refine hK.out _ _ trivial (fun hHeld => ?_)
              clear hK K
              try simp only [Act.put, List.setIfInBounds_toArray, List.set_cons_zero, List.set_cons_succ, List.getElem_toArray, List.getElem_cons_zero, List.getElem_cons_succ]
              refine wpAnyH_ready (rs := [3]) (by kernel_rfl) (by simp) ?_
              refine (AllReadyH.cons rfl (fun K hK => ?_) AllReadyH.nil)
              rw [if_pos (by rfl)]
              refine wp_load_mid 24 (.tmp 6) rfl q 0 rfl (cellsOf64 B) _ E2.c.range Tryd.underlying24 rfl (st_size LB.out) ?_
              refine hK.out _ _ trivial (fun hHeld => ?_)
              clear hK K
              try simp only [Act.put, List.setIfInBounds_toArray, List.set_cons_zero, List.set_cons_succ, List.getElem_toArray, List.getElem_cons_zero, List.getElem_cons_succ]
              refine wpAnyH_ready (rs := [5]) (by kernel_rfl) (by simp) ?_
              refine (AllReadyH.cons rfl (fun K hK => ?_) AllReadyH.nil)
              go_simp
              go_at_call 12
              with_reducible refine (CB _ E2.g).mono ?_
              rintro e v4 ⟨rfl, hb4⟩
              have E4 := EnvU.up E2 hb4
              dsimp only
              refine hK.out _ _ trivial (fun hHeld => ?_)
              clear hK K
              try simp only [Act.put, List.setIfInBounds_toArray, List.set_cons_zero, List.set_cons_succ, List.getElem_toArray, List.getElem_cons_zero, List.getElem_cons_succ]
              refine wpAnyH_ready (rs := [6]) (by kernel_rfl) (by simp) ?_
              refine (AllReadyH.cons rfl (fun K hK => ?_) AllReadyH.nil)
              have th5 := E4.a.there
              rw [LA.out.len] at th5
              have hst5 := store64 p A1 _ (by rw [LA1.out.len]; exact th5)
              have hl5 := st_len LA1.out
              go_simp
              have E5 := E4.seta (A' := A1) LA.out LA1.out lp2 hpq HGS.out
              refine hK.out _ _ trivial (fun hHeld => ?_)
              clear hst5 hl5 th5
              clear hK K
              try simp only [Act.put, List.setIfInBounds_toArray, List.set_cons_zero, List.set_cons_succ, List.getElem_toArray, List.getElem_cons_zero, List.getElem_cons_succ]
              generalize v4.setCells p 0 (cellsOf64 A1) = v5 at *
              refine wpAnyH_ready (rs := [7]) (by kernel_rfl) (by simp) ?_
              refine (AllReadyH.cons rfl (fun K hK => ?_) AllReadyH.nil)
              have th6 := E5.c.there
              rw [LB.out.len] at th6
              have hst6 := store64 q B1 _ (by rw [LB1.out.len]; exact th6)
              have hl6 := st_len LB1.out
              go_simp
              have E6 := E5.setc (B' := B1) LB.out LB1.out lq2 hpq HGS.out
              refine hK.out _ _ trivial (fun hHeld => ?_)
              clear hst6 hl6 th6
              clear hK K
              try simp only [Act.put, List.setIfInBounds_toArray, List.set_cons_zero, List.set_cons_succ, List.getElem_toArray, List.getElem_cons_zero, List.getElem_cons_succ]
              generalize v5.setCells q 0 (cellsOf64 B1) = v6 at *
              refine wpAnyH_done (by kernel_rfl) ?_ _
              go_wp2_with fail
              go_meet
              exact ⟨rfl, E6⟩
            · rw [if_pos (by rfl)]
              refine wp_load_mid 24 (.tmp 6) rfl q 0 rfl (cellsOf64 B) _ E0.c.range Tryd.underlying24 rfl (st_size LB.out) ?_
              refine hK.out _ _ trivial (fun hHeld => ?_)
              clear hK K
              try simp only [Act.put, List.setIfInBounds_toArray, List.set_cons_zero, List.set_cons_succ, List.getElem_toArray, List.getElem_cons_zero, List.getElem_cons_succ]
              refine wpAnyH_ready (rs := [2]) (by kernel_rfl) (by simp) ?_
              refine (AllReadyH.cons rfl (fun K hK => ?_) AllReadyH.nil)
              go_simp
              go_at_call 12
              with_reducible refine (CA _ E0.g).mono ?_
              rintro e v8 ⟨rfl, hb8⟩
              have E8 := EnvU.up E0 hb8
              dsimp only
              refine hK.out _ _ trivial (fun hHeld => ?_)
              clear hK K
              try simp only [Act.put, List.setIfInBounds_toArray, List.set_cons_zero, List.set_cons_succ, List.getElem_toArray, List.getElem_cons_zero, List.getElem_cons_succ]
              refine wpAnyH_ready (rs := [5]) (by kernel_rfl) (by simp) ?_
              refine (AllReadyH.cons rfl (fun K hK => ?_) AllReadyH.nil)
              go_simp
              go_at_call 12
              with_reducible refine (CB _ E8.g).mono ?_
              rintro e v9 ⟨rfl, hb9⟩
              have E9 := EnvU.up E8 hb9
              dsimp only
              refine hK.out _ _ trivial (fun hHeld => ?_)
              clear hK K
              try simp only [Act.put, List.setIfInBounds_toArray, List.set_cons_zero, List.set_cons_succ, List.getElem_toArray, List.getElem_cons_zero, List.getElem_cons_succ]
              refine wpAnyH_ready (rs := [6]) (by kernel_rfl) (by simp) ?_
              refine (AllReadyH.cons rfl (fun K hK => ?_) AllReadyH.nil)
              have th10 := E9.a.there
              rw [LA.out.len] at th10
              have hst10 := store64 p A1 _ (by rw [LA1.out.len]; exact th10)
              have hl10 := st_len LA1.out
              go_simp
              have E10 := E9.seta (A' := A1) LA.out LA1.out lp2 hpq HGS.out
              refine hK.out _ _ trivial (fun hHeld => ?_)
              clear hst10 hl10 th10
              clear hK K
              try simp only [Act.put, List.setIfInBounds_toArray, List.set_cons_zero, List.set_cons_succ, List.getElem_toArray, List.getElem_cons_zero, List.getElem_cons_succ]
              generalize v9.setCells p 0 (cellsOf64 A1) = v10 at *
              refine wpAnyH_ready (rs := [7]) (by kernel_rfl) (by simp) ?_
              refine (AllReadyH.cons rfl (fun K hK => ?_) AllReadyH.nil)
              have th11 := E10.c.there
              rw [LB.out.len] at th11
              have hst11 := store64 q B1 _ (by rw [LB1.out.len]; exact th11)
              have hl11 := st_len LB1.out
              go_simp
              have E11 := E10.setc (B' := B1) LB.out LB1.out lq2 hpq HGS.out
              refine hK.out _ _ trivial (fun hHeld => ?_)
              clear hst11 hl11 th11
              clear hK K
              try simp only [Act.put, List.setIfInBounds_toArray, List.set_cons_zero, List.set_cons_succ, List.getElem_toArray, List.getElem_cons_zero, List.getElem_cons_succ]
              generalize v10.setCells q 0 (cellsOf64 B1) = v11 at *
              refine wpAnyH_done (by kernel_rfl) ?_ _
              go_wp2_with fail
              go_meet
              exact ⟨rfl, E11⟩
          · rw [if_pos (by rfl)]
            refine wp_load_mid 24 (.tmp 6) rfl q 0 rfl (cellsOf64 B) _ E0.c.range Tryd.underlying24 rfl (st_size LB.out) ?_
            refine hK.out _ _ trivial (fun hHeld => ?_)
            clear hK K
            try simp only [Act.put, List.setIfInBounds_toArray, List.set_cons_zero, List.set_cons_succ, List.getElem_toArray, List.getElem_cons_zero, List.getElem_cons_succ]
            refine wpAnyH_ready (rs := [0]) (by kernel_rfl) (by simp) ?_
            refine (AllReadyH.cons rfl (fun K hK => ?_) AllReadyH.nil)
            rw [if_pos (by rfl)]
            refine wp_load_mid 24 (.tmp 5) rfl p 0 rfl (cellsOf64 A) _ E0.a.range Tryd.underlying24 rfl (st_size LA.out) ?_
            refine hK.out _ _ trivial (fun hHeld => ?_)
            clear hK K
            try simp only [Act.put, List.setIfInBounds_toArray, List.set_cons_zero, List.set_cons_succ, List.getElem_toArray, List.getElem_cons_zero, List.getElem_cons_succ]
            refine wpAnyH_ready (rs := [2]) (by kernel_rfl) (by simp) ?_
            refine (AllReadyH.cons rfl (fun K hK => ?_) AllReadyH.nil)
            go_simp
            go_at_call 12
            with_reducible refine (CA _ E0.g).mono ?_
            rintro e v14 ⟨rfl, hb14⟩
            have E14 := EnvU.up E0 hb14
            dsimp only
            refine hK.out _ _ trivial (fun hHeld => ?_)
            clear hK K
            try simp only [Act.put, List.setIfInBounds_toArray, List.set_cons_zero, List.set_cons_succ, List.getElem_toArray, List.getElem_cons_zero, List.getElem_cons_succ]
            refine wpAnyH_ready (rs := [5]) (by kernel_rfl) (by simp) ?_
            refine (AllReadyH.cons rfl (fun K hK => ?_) AllReadyH.nil)
            go_simp
            go_at_call 12
            with_reducible refine (CB _ E14.g).mono ?_
            rintro e v15 ⟨rfl, hb15⟩
            have E15 := EnvU.up E14 hb15
            dsimp only
            refine hK.out _ _ trivial (fun hHeld => ?_)
            clear hK K
            try simp only [Act.put, List.setIfInBounds_toArray, List.set_cons_zero, List.set_cons_succ, List.getElem_toArray, List.getElem_cons_zero, List.getElem_cons_succ]
            refine wpAnyH_ready (rs := [6]) (by kernel_rfl) (by simp) ?_
            refine (AllReadyH.cons rfl (fun K hK => ?_) AllReadyH.nil)
            have th16 := E15.a.there
            rw [LA.out.len] at th16
            have hst16 := store64 p A1 _ (by rw [LA1.out.len]; exact th16)
            have hl16 := st_len LA1.out
            go_simp
            have E16 := E15.seta (A' := A1) LA.out LA1.out lp2 hpq HGS.out
            refine hK.out _ _ trivial (fun hHeld => ?_)
            clear hst16 hl16 th16
            clear hK K
            try simp only [Act.put, List.setIfInBounds_toArray, List.set_cons_zero, List.set_cons_succ, List.getElem_toArray, List.getElem_cons_zero, List.getElem_cons_succ]
            generalize v15.setCells p 0 (cellsOf64 A1) = v16 at *
            refine wpAnyH_ready (rs := [7]) (by kernel_rfl) (by simp) ?_
            refine (AllReadyH.cons rfl (fun K hK => ?_) AllReadyH.nil)
            have th17 := E16.c.there
            rw [LB.out.len] at th17
            have hst17 := store64 q B1 _ (by rw [LB1.out.len]; exact th17)
            have hl17 := st_len LB1.out
            go_simp
            have E17 := E16.setc (B' := B1) LB.out LB1.out lq2 hpq HGS.out
            refine hK.out _ _ trivial (fun hHeld => ?_)
            clear hst17 hl17 th17
            clear hK K
            try simp only [Act.put, List.setIfInBounds_toArray, List.set_cons_zero, List.set_cons_succ, List.getElem_toArray, List.getElem_cons_zero, List.getElem_cons_succ]
            generalize v16.setCells q 0 (cellsOf64 B1) = v17 at *
            refine wpAnyH_done (by kernel_rfl) ?_ _
            go_wp2_with fail
            go_meet
            exact ⟨rfl, E17⟩
        case rest =>
          obtain ⟨rfl, E1⟩ := hcut
          clear E0
          obtain ⟨w3, hw3⟩ : ∃ v, v = wc := ⟨_, rfl⟩
          rw [← hw3] at E1 ⊢
          clear hw3
          go_wp2_with fail
          have E2 : EnvU w l m p q A1 B1 w3.drew := E1.up (Below.refl _ _).drew
          clear E1
          go_cut [27] (fun s wx => s = .bool false ∧ EnvU w l m p q A1 B1 wx)
          case first =>
            obtain ⟨n25, hn25⟩ : ∃ n : Nat, n = 25 := ⟨_, rfl⟩
            have L1 : ∀ v, EnvU w l m p q A1 B1 v → (loadCellsFrom ⟨w.heap.size, 0, none⟩ 0 n25 #[]).run Tryd.prog v = .ok (cellsOf64 l).toArray v := fun v h => by rw [hn25]; exact cells_st h.x HL.out
            have L2 : ∀ v, EnvU w l m p q A1 B1 v → (loadCellsFrom ⟨w.heap.size + 1, 0, none⟩ 0 n25 #[]).run Tryd.prog v = .ok (cellsOf64 m).toArray v := fun v h => by rw [hn25]; exact cells_st h.y HM.out
            have L3 : ∀ v, EnvU w l m p q A1 B1 v → (loadCellsFrom ⟨p, 0, none⟩ 0 n25 #[]).run Tryd.prog v = .ok (cellsOf64 A1).toArray v := fun v h => by rw [hn25]; exact cells_st h.a LA1.out
            have L4 : ∀ v, EnvU w l m p q A1 B1 v → (loadCellsFrom ⟨q, 0, none⟩ 0 n25 #[]).run Tryd.prog v = .ok (cellsOf64 B1).toArray v := fun v h => by rw [hn25]; exact cells_st h.c LB1.out
            have G2 := agg_st
            have G3 : ∀ v, (sizeOf 24).run Tryd.prog v = .ok n25 v := by rw [hn25]; exact size_st
            have G5 := Tryd.eqGuardType24
            have HMX : Tryd.prog.follows .mixedOrders = true := by kernel_rfl
            obtain ⟨dd, hdd⟩ : ∃ d, d = decide (l = m) := ⟨_, rfl⟩
            have F1 : ∀ v, (Op.equalIn 10000 24 (.agg (cellsOf64 A1).toArray) (.agg (cellsOf64 B1).toArray)).run Tryd.prog v = .ok dd v := fun v => by
              have h := eq_st v LA1.out LB1.out
              rw [HD.out, ← hdd] at h
              exact h
            have F2 : ∀ v, (Op.equalIn 10000 24 (.agg (cellsOf64 l).toArray) (.agg (cellsOf64 m).toArray)).run Tryd.prog v = .ok dd v := fun v => by
              have h := eq_st v HL.out HM.out
              rw [← hdd] at h
              exact h
            have F3 : ∀ v, (binOp .neq 4 (.bool dd) (.bool dd)).run Tryd.prog v = .ok (.bool false) v := fun v => by cases dd <;> kernel_rfl
            clear hn25 hdd HL HM LA LB LA1 LB1 HS1 HS2 HD HA1 HB1
            generalize Tryd.prog = P at L1 L2 L3 L4 G2 G3 G5 HMX F1 F2 F3 ⊢
            refine wp_region_held_drew (S := fun v => EnvU w l m p q A1 B1 v) HMX E2 (fun hHeld => ?_)
            refine wpAnyH_take (i := 0) (v := ?_) rfl (by kernel_rfl) (by kernel_rfl) (by kernel_rfl) (fun _ _ _ h => h) (Or.inl ⟨by rfl, fun v hv => ?_⟩) (by with_reducible assumption) ?_
            rotate_left
            · go_simp
              try with_reducible rfl
            simp only [Act.put, List.setIfInBounds_toArray, List.set_cons_zero, List.set_cons_succ, List.getElem_toArray, List.getElem_cons_zero, List.getElem_cons_succ]
            refine wpAnyH_take (i := 1) (v := ?_) rfl (by kernel_rfl) (by kernel_rfl) (by kernel_rfl) (fun _ _ _ h => h) (Or.inl ⟨by rfl, fun v hv => ?_⟩) (by with_reducible assumption) ?_
            rotate_left
            · go_simp
              try with_reducible rfl
            simp only [Act.put, List.setIfInBounds_toArray, List.set_cons_zero, List.set_cons_succ, List.getElem_toArray, List.getElem_cons_zero, List.getElem_cons_succ]
            refine wpAnyH_take (i := 2) (v := ?_) rfl (by kernel_rfl) (by kernel_rfl) (by kernel_rfl) (fun _ _ _ h => h) (Or.inl ⟨by rfl, fun v hv => ?_⟩) (by with_reducible assumption) ?_
            rotate_left
            · go_simp
              try with_reducible rfl
            simp only [Act.put, List.setIfInBounds_toArray, List.set_cons_zero, List.set_cons_succ, List.getElem_toArray, List.getElem_cons_zero, List.getElem_cons_succ]
            refine wpAnyH_take (i := 3) (v := ?_) rfl (by kernel_rfl) (by kernel_rfl) (by kernel_rfl) (fun _ _ _ h => h) (Or.inl ⟨by rfl, fun v hv => ?_⟩) (by with_reducible assumption) ?_
            rotate_left
            · go_simp
              try with_reducible rfl
            simp only [Act.put, List.setIfInBounds_toArray, List.set_cons_zero, List.set_cons_succ, List.getElem_toArray, List.getElem_cons_zero, List.getElem_cons_succ]
            refine wpAnyH_take (i := 4) (v := ?_) rfl (by kernel_rfl) (by kernel_rfl) (by kernel_rfl) (fun _ _ _ h => h) (Or.inl ⟨by rfl, fun v hv => ?_⟩) (by with_reducible assumption) ?_
            rotate_left
            · go_simp
              try with_reducible rfl
            simp only [Act.put, List.setIfInBounds_toArray, List.set_cons_zero, List.set_cons_succ, List.getElem_toArray, List.getElem_cons_zero, List.getElem_cons_succ]
            refine wpAnyH_take (i := 5) (v := ?_) rfl (by kernel_rfl) (by kernel_rfl) (by kernel_rfl) (fun _ _ _ h => h) (Or.inl ⟨by rfl, fun v hv => ?_⟩) (by with_reducible assumption) ?_
            rotate_left
            · go_simp
              try with_reducible rfl
            simp only [Act.put, List.setIfInBounds_toArray, List.set_cons_zero, List.set_cons_succ, List.getElem_toArray, List.getElem_cons_zero, List.getElem_cons_succ]
            refine wpAnyH_take (i := 6) (v := ?_) rfl (by kernel_rfl) (by kernel_rfl) (by kernel_rfl) (fun _ _ _ h => h) (Or.inl ⟨by rfl, fun v hv => ?_⟩) (by with_reducible assumption) ?_
            rotate_left
            · go_simp
              try with_reducible rfl
            simp only [Act.put, List.setIfInBounds_toArray, List.set_cons_zero, List.set_cons_succ, List.getElem_toArray, List.getElem_cons_zero, List.getElem_cons_succ]
            refine wpAnyH_done (by kernel_rfl) ?_ _
            go_wp2_with fail
            go_meet
            exact ⟨rfl, E2⟩
          case rest =>
            obtain ⟨rfl, E3⟩ := hcut
            clear E2
            have HE3 : Hid (EnvU w l m p q (lpk l (k + 1)) (lpk m (k + 1)) wc) := by
              rw [← HA1.out, ← HB1.out]
              exact E3
            clear E3
            go_wp2
            go_roundw
            case rel => exact ⟨k + 1, by omega, by go_num, HE3.out⟩
            case measure => simp [intOf]; omega
      · have i2 : decide ((k : Int) < 24) = false := decide_eq_false (by omega)
        rw [show k = 24 by omega, lpk_end, lpk_end] at hrel
        obtain ⟨PL, hPL⟩ : ∃ a, a = lperm l := ⟨_, rfl⟩
        obtain ⟨PM, hPM⟩ : ∃ a, a = lperm m := ⟨_, rfl⟩
        rw [← hPL, ← hPM] at hrel
        have LPL : Hid (Lanes PL) := hPL ▸ lperm_lanes HL.out
        have LPM : Hid (Lanes PM) := hPM ▸ lperm_lanes HM.out
        have HPL := hid hPL
        have HPM := hid hPM
        have HR := hid hrel
        clear hrel hPL hPM
        go_wp2_with fail
        have E0 : EnvU w l m p q PL PM wr.drew := HR.out.up (Below.refl _ _).drew
        clear HR
        go_cut [4] (fun s wx => s = .bool true ∧ EnvU w l m p q PL PM wx)
        case first =>
          obtain ⟨n25, hn25⟩ : ∃ n : Nat, n = 25 := ⟨_, rfl⟩
          have L1 : ∀ v, EnvU w l m p q PL PM v → (loadCellsFrom ⟨w.heap.size, 0, none⟩ 0 n25 #[]).run Tryd.prog v = .ok (cellsOf64 l).toArray v := fun v h => by rw [hn25]; exact cells_st h.x HL.out
          have L2 : ∀ v, EnvU w l m p q PL PM v → (loadCellsFrom ⟨w.heap.size + 1, 0, none⟩ 0 n25 #[]).run Tryd.prog v = .ok (cellsOf64 m).toArray v := fun v h => by rw [hn25]; exact cells_st h.y HM.out
          have L3 : ∀ v, EnvU w l m p q PL PM v → (loadCellsFrom ⟨p, 0, none⟩ 0 n25 #[]).run Tryd.prog v = .ok (cellsOf64 PL).toArray v := fun v h => by rw [hn25]; exact cells_st h.a LPL.out
          have L4 : ∀ v, EnvU w l m p q PL PM v → (loadCellsFrom ⟨q, 0, none⟩ 0 n25 #[]).run Tryd.prog v = .ok (cellsOf64 PM).toArray v := fun v h => by rw [hn25]; exact cells_st h.c LPM.out
          have G2 := agg_st
          have G3 : ∀ v, (sizeOf 24).run Tryd.prog v = .ok n25 v := by rw [hn25]; exact size_st
          have G5 := Tryd.eqGuardType24
          have HMX : Tryd.prog.follows .mixedOrders = true := by kernel_rfl
          have CL : ∀ v, EnvU w l m p q PL PM v → Calls Tryd.prog 13 #[.agg (cellsOf64 l).toArray] v fun e w' => e = .returned (.agg (cellsOf64 PL).toArray) ∧ Below v.heap.size v w' := fun v h => by
            have := permute_c l v HL.out h.g
            rw [← HPL.out] at this
            exact this
          have CM : ∀ v, EnvU w l m p q PL PM v → Calls Tryd.prog 13 #[.agg (cellsOf64 m).toArray] v fun e w' => e = .returned (.agg (cellsOf64 PM).toArray) ∧ Below v.heap.size v w' := fun v h => by
            have := permute_c m v HM.out h.g
            rw [← HPM.out] at this
            exact this
          have F1 : ∀ v, (Op.equalIn 10000 24 (.agg (cellsOf64 PL).toArray) (.agg (cellsOf64 PL).toArray)).run Tryd.prog v = .ok true v := fun v => same_st v LPL.out
          have F2 : ∀ v, (Op.equalIn 10000 24 (.agg (cellsOf64 PM).toArray) (.agg (cellsOf64 PM).toArray)).run Tryd.prog v = .ok true v := fun v => same_st v LPM.out
          have N1 := Tryd.call13
          clear hn25 HL HM LPL LPM HPL HPM
          generalize Tryd.prog = P at L1 L2 L3 L4 G2 G3 G5 HMX F1 F2 CL CM N1 ⊢
          refine wp_region_held_drew (S := fun v => EnvU w l m p q PL PM v) HMX E0 (fun hHeld => ?_)
          refine wpAnyH_take (i := 0) (v := ?_) rfl (by kernel_rfl) (by kernel_rfl) (by kernel_rfl) (fun _ _ _ h => h) (Or.inl ⟨by rfl, fun v hv => ?_⟩) (by with_reducible assumption) ?_
          rotate_left
          · go_simp
            try with_reducible rfl
          simp only [Act.put, List.setIfInBounds_toArray, List.set_cons_zero, List.set_cons_succ, List.getElem_toArray, List.getElem_cons_zero, List.getElem_cons_succ]
          refine wpAnyH_take (i := 1) (v := ?_) rfl (by kernel_rfl) (by kernel_rfl) (by kernel_rfl) (fun _ _ _ h => h) (Or.inl ⟨by rfl, fun v hv => ?_⟩) (by with_reducible assumption) ?_
          rotate_left
          · go_simp
            try with_reducible rfl
          simp only [Act.put, List.setIfInBounds_toArray, List.set_cons_zero, List.set_cons_succ, List.getElem_toArray, List.getElem_cons_zero, List.getElem_cons_succ]
          refine wpAnyH_ready (rs := [2]) (by kernel_rfl) (by simp) ?_
          refine AllReadyH.cons rfl (fun K hK => ?_) AllReadyH.nil
          go_simp
          go_at_call 13
          with_reducible refine (CL _ (by with_reducible assumption)).mono ?_
          rintro e v1 ⟨rfl, hb1⟩
          have hE1 := EnvU.up (by with_reducible assumption) hb1
          dsimp only
          refine hK.out _ _ hE1 (fun hHeld => ?_)
          clear hK K
          try simp only [Act.put, List.setIfInBounds_toArray, List.set_cons_zero, List.set_cons_succ, List.getElem_toArray, List.getElem_cons_zero, List.getElem_cons_succ]
          refine wpAnyH_take (i := 3) (v := ?_) rfl (by kernel_rfl) (by kernel_rfl) (by kernel_rfl) (fun _ _ _ h => h) (Or.inl ⟨by rfl, fun v hv => ?_⟩) (by with_reducible assumption) ?_
          rotate_left
          · go_simp
            try with_reducible rfl
          simp only [Act.put, List.setIfInBounds_toArray, List.set_cons_zero, List.set_cons_succ, List.getElem_toArray, List.getElem_cons_zero, List.getElem_cons_succ]
          refine wpAnyH_take (i := 4) (v := ?_) rfl (by kernel_rfl) (by kernel_rfl) (by kernel_rfl) (fun _ _ _ h => h) (Or.inl ⟨by rfl, fun v hv => ?_⟩) (by with_reducible assumption) ?_
          rotate_left
          · go_simp
            try with_reducible rfl
          simp only [Act.put, List.setIfInBounds_toArray, List.set_cons_zero, List.set_cons_succ, List.getElem_toArray, List.getElem_cons_zero, List.getElem_cons_succ]
          refine wpAnyH_take (i := 5) (v := ?_) rfl (by kernel_rfl) (by kernel_rfl) (by kernel_rfl) (fun _ _ _ h => h) (Or.inl ⟨by rfl, fun v hv => ?_⟩) (by with_reducible assumption) ?_
          rotate_left
          · go_simp
            try with_reducible rfl
          simp only [Act.put, List.setIfInBounds_toArray, List.set_cons_zero, List.set_cons_succ, List.getElem_toArray, List.getElem_cons_zero, List.getElem_cons_succ]
          refine wpAnyH_take (i := 6) (v := ?_) rfl (by kernel_rfl) (by kernel_rfl) (by kernel_rfl) (fun _ _ _ h => h) (Or.inl ⟨by rfl, fun v hv => ?_⟩) (by with_reducible assumption) ?_
          rotate_left
          · go_simp
            try with_reducible rfl
          simp only [Act.put, List.setIfInBounds_toArray, List.set_cons_zero, List.set_cons_succ, List.getElem_toArray, List.getElem_cons_zero, List.getElem_cons_succ]
          refine wpAnyH_ready (rs := [7]) (by kernel_rfl) (by simp) ?_
          refine AllReadyH.cons rfl (fun K hK => ?_) AllReadyH.nil
          go_simp
          go_at_call 13
          with_reducible refine (CM _ (by with_reducible assumption)).mono ?_
          rintro e v2 ⟨rfl, hb2⟩
          have hE2 := EnvU.up (by with_reducible assumption) hb2
          dsimp only
          refine hK.out _ _ hE2 (fun hHeld => ?_)
          clear hK K
          try simp only [Act.put, List.setIfInBounds_toArray, List.set_cons_zero, List.set_cons_succ, List.getElem_toArray, List.getElem_cons_zero, List.getElem_cons_succ]
          refine wpAnyH_take (i := 8) (v := ?_) rfl (by kernel_rfl) (by kernel_rfl) (by kernel_rfl) (fun _ _ _ h => h) (Or.inl ⟨by rfl, fun v hv => ?_⟩) (by with_reducible assumption) ?_
          rotate_left
          · go_simp
            try with_reducible rfl
          simp only [Act.put, List.setIfInBounds_toArray, List.set_cons_zero, List.set_cons_succ, List.getElem_toArray, List.getElem_cons_zero, List.getElem_cons_succ]
          refine wpAnyH_take (i := 9) (v := ?_) rfl (by kernel_rfl) (by kernel_rfl) (by kernel_rfl) (fun _ _ _ h => h) (Or.inl ⟨by rfl, fun v hv => ?_⟩) (by with_reducible assumption) ?_
          rotate_left
          · go_simp
            try with_reducible rfl
          simp only [Act.put, List.setIfInBounds_toArray, List.set_cons_zero, List.set_cons_succ, List.getElem_toArray, List.getElem_cons_zero, List.getElem_cons_succ]
          refine wpAnyH_take (i := 10) (v := ?_) rfl (by kernel_rfl) (by kernel_rfl) (by kernel_rfl) (fun _ _ _ h => h) (Or.inl ⟨by rfl, fun v hv => ?_⟩) (by with_reducible assumption) ?_
          rotate_left
          · go_simp
            try with_reducible rfl
          simp only [Act.put, List.setIfInBounds_toArray, List.set_cons_zero, List.set_cons_succ, List.getElem_toArray, List.getElem_cons_zero, List.getElem_cons_succ]
          refine wpAnyH_done (by kernel_rfl) ?_ _
          go_wp2_with fail
          go_meet
          exact ⟨rfl, hE2⟩
        case rest =>
          obtain ⟨rfl, hE⟩ := hcut
          clear E0
          go_wp2
          go_ret
          exact ⟨rfl, hE.b⟩
end Go.Proofs.YtpilbpkblcmngaaDoor
