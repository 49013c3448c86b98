import Derived.Test.YteogjnendkbjcaaDoorKPe
import Derived.Test.YteogjnendkbjcaaDoorKPf
import Derived.Test.YteogjnendkbjcaaDoorKPg
import Derived.Test.YteogjnendkbjcaaDoorKPt
import Derived.Deep.RegionHeld3
import Derived.Deep.CutBlock
import Derived.Deep.DeepCutAuto
/-
  keccak.State.Round, Permute: what each call does; avouchlaw06.speaks.
-/
namespace Go.Proofs.YteogjnendkbjcaaDoor
open Go.RowKit
set_option linter.unusedVariables false

set_option maxRecDepth 20000 in
set_option maxHeartbeats 1000000 in
theorem round_c (l : List Nat) (r : Int) (w : World) (hl : Lanes l) (hG : GlobK w) :
    Calls Tryd.prog 24 #[st l, .int .i64 r] w fun e w' => e = .returned (st (lrd (kc r) l)) ∧ Below w.heap.size w w' := by
  obtain ⟨h1, h2, h4⟩ := boot2 w hl
  have HLL := hid (lrd_lanes (kc_lt r) hl)
  have hlen := st_len hl
  have HSz0 := hid (st_size hl)
  have HO0 := hid h1.range
  have H2 := hid h2
  have H4 := hid h4
  have HG0 := hid (hG.up h4)
  obtain ⟨a1, e1⟩ : ∃ a, a = lth l := ⟨_, rfl⟩
  obtain ⟨a2, e2⟩ : ∃ a, a = lrh a1 := ⟨_, rfl⟩
  obtain ⟨a3, e3⟩ : ∃ a, a = lpi a2 := ⟨_, rfl⟩
  obtain ⟨a4, e4⟩ : ∃ a, a = lch a3 := ⟨_, rfl⟩
  obtain ⟨L, e5⟩ : ∃ a, a = lio (kc r) a4 := ⟨_, rfl⟩
  have HL := hid hl
  have A1 : Hid (Lanes a1) := e1 ▸ lth_lanes hl
  have A2 : Hid (Lanes a2) := e2 ▸ lrh_lanes a1
  have A3 : Hid (Lanes a3) := e3 ▸ lpi_lanes A2.out
  have A4 : Hid (Lanes a4) := e4 ▸ lch_lanes A3.out
  have eL : lrd (kc r) l = L := by unfold lrd; rw [e5, e4, e3, e2, e1]
  rw [eL] at HLL ⊢
  have E1 := hid e1
  have E2 := hid e2
  have E3 := hid e3
  have E4 := hid e4
  have E5 := hid e5
  clear h1 h2 h4 hl hG e1 e2 e3 e4 e5 eL
  unfold oW zS at HO0 H2 H4 HG0
  unfold st
  go_enter Tryd.func24, Tryd.ntmps24
  go_wp2_with (with_reducible refine wpList_load_mid rfl 31 (.tmp 2) rfl w.heap.size 0 rfl (cellsOf64 l) _ HO0.out Tryd.underlying31 rfl HSz0.out ?_)
  clear HO0 hlen
  generalize ((w.alloc _).alloc _) = w0 at *
  refine (theta_c l w0 HL.out).mono ?_
  rintro e w1 ⟨rfl, b1⟩
  have G1 := hid (HG0.out.up b1)
  rw [← E1.out]
  go_wp2_with fail
  refine (rho_c a1 w1 A1.out G1.out).mono ?_
  rintro e w2 ⟨rfl, b2⟩
  rw [← E2.out]
  go_wp2_with fail
  refine (pi_c a2 w2 A2.out).mono ?_
  rintro e w3 ⟨rfl, b3⟩
  rw [← E3.out]
  go_wp2_with fail
  refine (chi_c a3 w3 A3.out).mono ?_
  rintro e w4 ⟨rfl, b4⟩
  rw [← E4.out]
  have G4 := hid (((G1.out.up b2).up b3).up b4)
  go_wp2_with fail
  refine (withConstant_c a4 r w4 A4.out G4.out).mono ?_
  rintro e w5 ⟨rfl, b5⟩
  rw [← E5.out]
  have b05 := bchain b1 (bchain b2 (bchain b3 (bchain b4 b5)))
  have e2 := H2.out.below b05 H2.out.size
  have HB := hid (bchain H4.out b05)
  obtain ⟨hst, HR⟩ := st_stored HLL.out e2
  have hlenL := st_len HLL.out
  clear b1 b2 b3 b4 b5 b05 e2 H2 H4 HG0 G1 G4
  unfold st
  go_wp2
  refine bodyPost_ret (st_result HLL.out Tryd.results24 rfl HR) rfl ?_
  exact ⟨rfl, below_cells (by omega) _ _ _ HB.out⟩

/-- The state behind k rounds. -/
def lpk (l : List Nat) : Nat → List Nat
  | 0 => l
  | k + 1 => lrd (kconst.getD k 0) (lpk l k)
theorem lpk_lanes {l : List Nat} (h : Lanes l) : ∀ k, Lanes (lpk l k)
  | 0 => h
  | k + 1 => lrd_lanes (kconst_lt _) (lpk_lanes h k)
theorem lpk_end (l : List Nat) : lpk l 24 = lperm l := by
  simp only [lperm, kconst, List.foldl_cons, List.foldl_nil]
  rfl
theorem lperm_lanes {l : List Nat} (h : Lanes l) : Lanes (lperm l) := lpk_end l ▸ lpk_lanes h 24

set_option maxRecDepth 20000 in
set_option maxHeartbeats 1000000 in
theorem permute_c (l : List Nat) (w : World) (hl : Lanes l) (hG : GlobK w) :
    Calls Tryd.prog 15 #[st l] w fun e w' => e = .returned (st (lperm l)) ∧ Below w.heap.size w w' := by
  obtain ⟨h1, h2, h4⟩ := boot2 w hl
  have HLL := hid (lperm_lanes hl)
  have HEnd := hid (lpk_end l)
  have HPK := hid (fun k => lpk_lanes hl k)
  have hlen := st_len hl
  have HG := hid hG
  obtain ⟨L, eL⟩ : ∃ L, L = lperm l := ⟨_, rfl⟩
  rw [← eL] at HLL HEnd ⊢
  have R0 := hid (show BlkW _ w.heap.size 31 (lpk l 0) ∧ BlkW _ (w.heap.size + 1) 31 l0 ∧ Below w.heap.size w _ from ⟨h1, h2, h4⟩)
  clear h1 h2 h4 hl hG eL
  unfold oW zS at R0
  unfold st
  go_enter Tryd.func15, Tryd.ntmps15
  go_wp2
  clear hlen
  generalize ((w.alloc _).alloc _) = w0 at *
  go_loopw [4] (fun i wr => ∃ k : Nat, k ≤ 24 ∧ i = .int .i64 k ∧ BlkW wr w.heap.size 31 (lpk l k) ∧ BlkW wr (w.heap.size + 1) 31 l0 ∧ Below w.heap.size w wr) (fun i _ => 24 - (intOf i).toNat)
  case atStart => exact ⟨0, by omega, rfl, R0.out⟩
  case round =>
    clear R0
    obtain ⟨k, hk, rfl, h1, h2, h4⟩ := hrel
    by_cases hlt : k < 24
    · have i2 : (k : Int) < 24 := by omega
      have HO := hid h1.range
      have HSz := hid (st_size (HPK.out k))
      have H1 := hid h1
      have H2 := hid h2
      have H4 := hid h4
      obtain ⟨m, hm⟩ : ∃ m, m = lpk l k := ⟨_, rfl⟩
      have HS : Hid (lrd (kc (k : Int)) m = lpk l (k + 1)) := by rw [kc_nat hlt, hm]; exact rfl
      have HM := hid (HPK.out k)
      rw [← hm] at HO HSz H1 HM
      clear h1 h2 h4 hm
      go_wp2_with (with_reducible refine wpList_load_mid rfl 31 (.tmp 1) rfl w.heap.size 0 rfl (cellsOf64 m) _ HO.out Tryd.underlying31 rfl HSz.out ?_)
      refine (round_c m (k : Int) wr HM.out (HG.out.up H4.out)).mono ?_
      rintro e w1 ⟨rfl, b1⟩
      rw [HS.out]
      have HP1 := hid (HPK.out (k + 1))
      obtain ⟨m1, hm1⟩ : ∃ m, m = lpk l (k + 1) := ⟨_, rfl⟩
      have h1 := H1.out.below b1 H1.out.size
      have hth := h1.there
      rw [HM.out.len] at hth
      rw [← hm1] at HP1 ⊢
      have hlenM := st_len HP1.out
      have hst := store64 w.heap.size m1 w1 (by rw [HP1.out.len]; exact hth)
      have N1 : Hid (BlkW (w1.setCells w.heap.size 0 (cellsOf64 m1)) w.heap.size 31 (lpk l (k + 1))) := by
        rw [← hm1]
        exact h1.overW m1 (by rw [HP1.out.len, HM.out.len]) HP1.out.all
      have N2 := hid ((H2.out.below b1 H2.out.size).putC (show w.heap.size + 1 ≠ w.heap.size by omega) (cellsOf64 m1) 0)
      have N4 := hid (below_cells (B := w.heap.size) (Nat.le_refl w.heap.size) (cellsOf64 m1) 0 w1 (H4.out.trans (b1.mono H4.out.size)))
      clear b1 h1 hth hm1 H1 H2 H4
      unfold st
      go_wp2
      go_roundw
      case rel => exact ⟨k + 1, by omega, by go_num, N1.out, N2.out, N4.out⟩
      case measure => simp [intOf]; omega
    · obtain rfl : k = 24 := by omega
      rw [HEnd.out] at h1
      have e1 := h1
      have e2 := h2
      have e3 := h4
      clear h1 h2 h4
      have HLen := hid (st_len HLL.out)
      have HSz := hid (st_size HLL.out)
      obtain ⟨hst, HR⟩ := st_stored HLL.out e2
      have hlenL : (cellsOf64 L).length = 25 := HLen
      have HO := hid e1.range
      have HB := hid e3
      clear e1 e2 e3
      go_wp2_with (with_reducible refine wpList_load_mid rfl 31 (.tmp 1) rfl w.heap.size 0 rfl (cellsOf64 L) _ HO.out Tryd.underlying31 rfl HSz.out ?_)
      refine bodyPost_ret (st_result HLL.out Tryd.results15 rfl HR) rfl ?_
      exact ⟨rfl, below_cells (by omega) _ _ _ HB.out⟩
theorem st_zero : st l0 = .agg #[.int .u64 0, .int .u64 0, .int .u64 0, .int .u64 0, .int .u64 0, .int .u64 0, .int .u64 0, .int .u64 0, .int .u64 0, .int .u64 0, .int .u64 0, .int .u64 0, .int .u64 0, .int .u64 0, .int .u64 0, .int .u64 0, .int .u64 0, .int .u64 0, .int .u64 0, .int .u64 0, .int .u64 0, .int .u64 0, .int .u64 0, .int .u64 0, .int .u64 0] := rfl
end Go.Proofs.YteogjnendkbjcaaDoor
/-
  States as values: loaded whole, held against each other; the card's variables. Helpers for the walks of avouchlaw06.
-/
namespace Go.Proofs.YteogjnendkbjcaaDoor
open Go.RowKit
set_option linter.unusedVariables false

theorem agg_st (v : World) : (isAgg 31).run Tryd.prog v = .ok true v := by
  unfold isAgg
  rw [Sem.run_bind, run_underlying Tryd.underlying31 v]
  rfl
theorem agg_w25 (v : World) : (isAgg 30).run Tryd.prog v = .ok true v := by
  unfold isAgg
  rw [Sem.run_bind, run_underlying Tryd.underlying30 v]
  rfl
theorem size_st (v : World) : (sizeOf 31).run Tryd.prog v = .ok 25 v := by kernel_rfl
theorem size_w25 (v : World) : (sizeOf 30).run Tryd.prog v = .ok 25 v := by kernel_rfl
theorem cells_st {v : World} {b : Nat} {t : TypeId} {l : List Nat} (h : BlkW v b t l) (hl : Lanes l) : (loadCellsFrom ⟨b, 0, none⟩ 0 25 #[]).run Tryd.prog v = .ok (cellsOf64 l).toArray v := by
  have e := run_loadCells_list (P := Tryd.prog) v ⟨b, 0, none⟩ (cellsOf64 l) (fun j u hu => by rw [Addr.add_mid]; exact h.range j u hu)
  rw [st_len hl] at e
  exact e
theorem all_range_k : ∀ (xs ys : List Nat), xs.length = ys.length → ((List.range xs.length).all fun i => xs.getD i 0 == ys.getD i 0) = decide (xs = ys)
  | [], [], _ => rfl
  | x :: xs, y :: ys, h => by
    have ih := all_range_k xs ys (by simpa using h)
    rw [List.length_cons, List.range_succ_eq_map, List.all_cons, List.all_map]
    simp only [List.getD_cons_zero, Function.comp_def, List.getD_cons_succ, ih]
    rw [Bool.eq_iff_iff]
    simp
  | [], _ :: _, h => by simp at h
  | _ :: _, [], h => by simp at h
theorem run_equalIn_wordsk {P : Program} (w : World) (d : Nat) (t e : TypeId) (n : Nat) (ht : P.underlying t = some (.array n e)) (he : P.underlying e = some (.int .u64)) (hsz : ∀ w, (sizeOf e).run P w = .ok 1 w)
    (xs ys : List Nat) (hx : xs.length = n) (hy : ys.length = n) :
    (Op.equalIn (d + 2) t (.agg (cellsOf64 xs).toArray) (.agg (cellsOf64 ys).toArray)).run P w = .ok (decide (xs = ys)) w := by
  rw [← all_range_k xs ys (hx.trans hy.symm), hx, List.range_eq_range', Op.equalIn]
  simp only [Sem.run_bind, run_underlying ht, Result.andThen_ok, hsz, Std.Legacy.Range.forIn_eq_forIn_range', Std.Legacy.Range.size, Nat.sub_zero, Nat.add_sub_cancel, Nat.div_one]
  have hl : ∀ i ∈ List.range' 0 n 1, i < n := fun i hi => by simpa using (List.mem_range'_1.1 hi).2
  generalize List.range' 0 n 1 = l at hl ⊢
  induction l with
  | nil => simp
  | cons i l ih =>
    have hi : i < n := hl i (by simp)
    have px : (part e (cellsOf64 xs).toArray (i * 1)).run P w = .ok (.int .u64 ((xs.getD i 0 : Nat) : Int)) w := by
      simp [part, isAgg, cellsOf64, run_underlying he, List.getD, List.getElem?_eq_getElem (show i < xs.length by omega)]
    have py : (part e (cellsOf64 ys).toArray (i * 1)).run P w = .ok (.int .u64 ((ys.getD i 0 : Nat) : Int)) w := by
      simp [part, isAgg, cellsOf64, run_underlying he, List.getD, List.getElem?_eq_getElem (show i < ys.length by omega)]
    have pe : (Op.equalIn (d + 1) e (.int .u64 ((xs.getD i 0 : Nat) : Int)) (.int .u64 ((ys.getD i 0 : Nat) : Int))).run P w = .ok (xs.getD i 0 == ys.getD i 0) w := by
      rw [run_equalIn_int w d e .u64 .u64 _ _ he]
      congr 1
      rw [Bool.eq_iff_iff]
      simp only [beq_iff_eq]
      omega
    simp only [List.forIn_cons, Sem.run_bind, px, py, pe, Result.andThen_ok, List.all_cons]
    cases hb : (xs.getD i 0 == ys.getD i 0)
    · simp
    · simp only [Bool.not_true, Bool.false_eq_true, if_false, Sem.run_pure, Result.andThen_ok, Bool.true_and]
      exact ih fun j hj => hl j (by simp [hj])
/-- States held against each other. -/
theorem eq_st (w : World) {l m : List Nat} (hl : Lanes l) (hm : Lanes m) : (Op.equalIn 10000 31 (.agg (cellsOf64 l).toArray) (.agg (cellsOf64 m).toArray)).run Tryd.prog w = .ok (decide (l = m)) w :=
  run_equalIn_wordsk (P := Tryd.prog) w 9998 31 29 25 Tryd.underlying31 Tryd.underlying29 sz64 l m hl.len hm.len
theorem same_st (w : World) {l : List Nat} (hl : Lanes l) : (Op.equalIn 10000 31 (.agg (cellsOf64 l).toArray) (.agg (cellsOf64 l).toArray)).run Tryd.prog w = .ok true w := by
  have h := eq_st w hl hl
  rw [decide_eq_true rfl] at h
  exact h
/-- A state boxed. -/
theorem boot1 (w : World) {l : List Nat} (hl : Lanes l) : BlkW (w.alloc (oW 31 l)) w.heap.size 31 l ∧ Below w.heap.size w (w.alloc (oW 31 l)) :=
  ⟨oW_new w _ l hl.all, (Below.refl _ _).alloc (Nat.le_refl _) _⟩
theorem BlkW.up {w w' : World} {b : Nat} {t : TypeId} {ws : List Nat} (h : BlkW w b t ws) (hb : Below w.heap.size w w') : BlkW w' b t ws := h.below hb h.size
/-- A state laid into a new variable. -/
theorem new_st (w : World) (t : TypeId) {L : List Nat} (hL : Lanes L) : (storeCells ⟨w.heap.size, 0, none⟩ (cellsOf64 L)).run Tryd.prog (w.alloc (zS t)) = .ok () ((w.alloc (zS t)).setCells w.heap.size 0 (cellsOf64 L)) ∧
    BlkW ((w.alloc (zS t)).setCells w.heap.size 0 (cellsOf64 L)) w.heap.size t L ∧ Below w.heap.size w ((w.alloc (zS t)).setCells w.heap.size 0 (cellsOf64 L)) := by
  have h := zS_new w t
  have hth := h.there
  rw [show l0.length = 25 from rfl] at hth
  exact ⟨store64 w.heap.size L _ (by rw [hL.len]; exact hth), h.overW L (by rw [hL.len]; rfl) hL.all, below_cells (Nat.le_refl _) _ _ _ ((Below.refl _ _).alloc (Nat.le_refl _) _)⟩
end Go.Proofs.YteogjnendkbjcaaDoor
