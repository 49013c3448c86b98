/-
  avouchlaw06.KeccakConstants: the walk.
-/
import Derived.Test.YtpilbpkblcmngaaDoorKLb
import Derived.Test.YtpilbpkblcmngaaDoorKRj
namespace Go.Proofs.YtpilbpkblcmngaaDoor
open Go.RowKit
set_option linter.unusedVariables false
set_option linter.unusedSimpArgs false

/-- The numbers that are asked. -/
def kask (r : Int) (k : Nat) : Int := if k = 0 then r else (k : Int) - 1
theorem ask_cell (w : World) (r : Int) {k : Nat} (h : k < 25) : (w.alloc (.cells #[.int .i64 r, .int .i64 0, .int .i64 1, .int .i64 2, .int .i64 3, .int .i64 4, .int .i64 5, .int .i64 6, .int .i64 7, .int .i64 8, .int .i64 9, .int .i64 10, .int .i64 11, .int .i64 12, .int .i64 13, .int .i64 14, .int .i64 15, .int .i64 16, .int .i64 17, .int .i64 18, .int .i64 19, .int .i64 20, .int .i64 21, .int .i64 22, .int .i64 23] 3)).cell? ⟨w.heap.size, k, none⟩ = some (.int .i64 (kask r k)) := by
  rw [cell_of_row _ w.heap.size k _ _ (0, 0) (heap_alloc_new w _)]
  match k, h with
  | 0, _ => rfl
  | 1, _ => rfl
  | 2, _ => rfl
  | 3, _ => rfl
  | 4, _ => rfl
  | 5, _ => rfl
  | 6, _ => rfl
  | 7, _ => rfl
  | 8, _ => rfl
  | 9, _ => rfl
  | 10, _ => rfl
  | 11, _ => rfl
  | 12, _ => rfl
  | 13, _ => rfl
  | 14, _ => rfl
  | 15, _ => rfl
  | 16, _ => rfl
  | 17, _ => rfl
  | 18, _ => rfl
  | 19, _ => rfl
  | 20, _ => rfl
  | 21, _ => rfl
  | 22, _ => rfl
  | 23, _ => rfl
  | 24, _ => rfl
  | k + 25, h => exact absurd h (by omega)
/-- The lane of a constant, all others 0. -/
def lone (c : Nat) : List Nat := lane fun i => if i = 0 then c else 0
theorem lone_lanes {c : Nat} (h : c < 18446744073709551616) : Lanes (lone c) := lane_lanes fun i _ => by
  show (if i = 0 then c else 0) < _
  split
  · exact h
  · decide
theorem lone_bits (c : Nat) : KEq (klane kzero 0 0 (fun z => c.testBit z)) (kbits (lone c)) := fun x y z hx hy hz => by
  unfold lone
  rw [kbits_lane _ hx hy]
  unfold klane
  by_cases h : x = 0 ∧ y = 0
  · rw [if_pos h, if_pos (by omega)]
  · rw [if_neg h, if_neg (by omega), Nat.zero_testBit]
    rfl
theorem lone_at (c : Nat) : at64 (lone c) 0 = (c : Int) := by
  unfold at64 lone
  rw [lane_getD _ (by decide), if_pos rfl]
theorem index_w25 (w : World) {l : List Nat} (hl : Lanes l) {k : Nat} (hk : k < 25) : (Instr.index 23 (.agg (cellsOf64 l).toArray) (.int .i64 (k : Int))).run Tryd.prog w = .ok (.int .u64 (at64 l k)) w :=
  run_index_words w _ 22 25 Tryd.underlying23 Tryd.underlying22 sz64 l hl.len k hk
/-- What is kept: the numbers that are asked. -/
structure EnvC (w : World) (r : Int) (bs : Nat) (v : World) : Prop where
  s : ∀ k, k < 25 → v.cell? ⟨bs, k, none⟩ = some (.int .i64 (kask r k))
  z : bs < v.heap.size
  g : GlobK v
  b : Below w.heap.size w v
theorem EnvC.up {w : World} {r : Int} {bs : Nat} {v v' : World} (h : EnvC w r bs v) (hb : Below v.heap.size v v') : EnvC w r bs v' :=
  ⟨fun k hk => (hb.cell (p := ⟨bs, k, none⟩) h.z).trans (h.s k hk), Nat.lt_of_lt_of_le h.z hb.size, h.g.up hb, bchain h.b hb⟩

structure EnvC2 (w : World) (r : Int) (bs b5 : Nat) (L : List Nat) (v : World) : Prop where
  e : EnvC w r bs v
  k : BB v b5 (kbits L)
theorem EnvC2.up {w : World} {r : Int} {bs b5 : Nat} {L : List Nat} {v v' : World} (h : EnvC2 w r bs b5 L v) (hb : Below v.heap.size v v') : EnvC2 w r bs b5 L v' := ⟨h.e.up hb, BlkV.below h.k hb h.k.size⟩

set_option maxRecDepth 100000 in
set_option maxHeartbeats 4000000 in
theorem keccakConstants_w (r : Int) (w : World) (hG : GlobK w) :
    Calls Tryd.prog 4 #[.int .i64 r] w fun e w' => e = .returned (.bool true) ∧ Below w.heap.size w w' := by
  have HG := hid hG
  clear hG
  go_enter Tryd.func4, Tryd.ntmps4
  go_wp2_with fail
  refine (speaks6_c w HG.out).mono ?_
  rintro e w1 ⟨rfl, b1⟩
  have E0 : Hid (EnvC w r w1.heap.size (w1.alloc (.cells #[.int .i64 r, .int .i64 0, .int .i64 1, .int .i64 2, .int .i64 3, .int .i64 4, .int .i64 5, .int .i64 6, .int .i64 7, .int .i64 8, .int .i64 9, .int .i64 10, .int .i64 11, .int .i64 12, .int .i64 13, .int .i64 14, .int .i64 15, .int .i64 16, .int .i64 17, .int .i64 18, .int .i64 19, .int .i64 20, .int .i64 21, .int .i64 22, .int .i64 23] 3))) := ⟨fun k hk => ask_cell w1 r hk, by simp, (HG.out.up b1).up ((Below.refl _ _).alloc (Nat.le_refl _) _), bchain b1 ((Below.refl _ _).alloc (Nat.le_refl _) _)⟩
  clear b1 HG
  go_wp2_with fail
  generalize (w1.alloc _) = w2 at *
  generalize w1.heap.size = bs at *
  go_loopw [11] (fun i wr => ∃ k : Nat, k ≤ 25 ∧ i = .int .i64 k ∧ EnvC w r bs wr) (fun i _ => 25 - (intOf i).toNat)
  case atStart => exact ⟨0, by omega, rfl, E0.out⟩
  case round =>
    clear E0
    obtain ⟨k, hk, rfl, hrel⟩ := hrel
    by_cases hlt : k < 25
    · have i2 : (k : Int) < 25 := by omega
      have i0 : (0 : Int) ≤ (k : Int) := by omega
      have c0 := hrel.s k hlt
      obtain ⟨i, hi⟩ : ∃ i, i = kask r k := ⟨_, rfl⟩
      rw [← hi] at c0
      have hn := oB_new wr kzero
      have hst := storeB kzero hn
      have hn2 := hid (BB.over kzero hn)
      have hbn := below_cells (Nat.le_refl wr.heap.size) (kcell kzero) 0 _ ((Below.refl wr.heap.size wr).alloc (Nat.le_refl _) (oB kzero))
      have HR := hid hrel
      have HBN := hid hbn
      have hlz := kcell_len kzero
      have hzB := zeroB
      clear hrel hn hbn hi
      unfold oB at hst hn2 HBN
      go_wp2_with fail
      clear hst hlz hzB c0
      generalize ((wr.alloc _).setCells _ _ _) = w3 at *
      refine (const6_c i w3).mono ?_
      rintro e w4 ⟨rfl, b4⟩
      have hB4 := BlkV.below hn2.out b4 hn2.out.size
      have hb4 := HBN.out.trans (b4.mono HBN.out.size)
      have hst := storeBL hB4 (x := 0) (y := 0) (by decide) (by decide) (kcf i)
      have hB5 := BB.eq (BB.putL hB4 (x := 0) (y := 0) (by decide) (by decide) (kcf i)) (lone_bits (kc i))
      rw [show 0 * 320 + 0 * 64 = 0 by decide] at hst hB5
      have hlF := bcell_len 64 (kcf i)
      have HLL := hid (lone_lanes (kc_lt i))
      have HAT := hid (lone_at (kc i))
      obtain ⟨L, hL⟩ : ∃ L, L = lone (kc i) := ⟨_, rfl⟩
      rw [← hL] at HLL HAT hB5
      obtain ⟨c, hc⟩ : ∃ c, c = kc i := ⟨_, rfl⟩
      rw [← hc] at HAT
      have HC := hid hc
      have hbf := below_cells (Nat.le_refl wr.heap.size) (bcell 64 (kcf i)) 0 w4 hb4
      have E5 := hid (show EnvC2 w r bs wr.heap.size L (w4.setCells wr.heap.size 0 (bcell 64 (kcf i))) from ⟨HR.out.up hbf, hB5⟩)
      obtain ⟨fc, hfc⟩ : ∃ f, f = bcell 64 (kcf i) := ⟨_, rfl⟩
      rw [← hfc] at hst hlF E5 ⊢
      clear hB4 hb4 hB5 hbf hfc b4 hL hc HR HBN hn2
      go_wp2_with fail
      clear hst hlF
      generalize (w4.setCells _ _ _) = w5 at *
      generalize wr.heap.size = b5 at *
      have EX : EnvC2 w r bs b5 L w5.drew := E5.out.up (Below.refl _ _).drew
      clear E5
      go_cut [25] (fun s wx => s = .bool false ∧ EnvC2 w r bs b5 L wx)
      case first =>
        obtain ⟨nB, hnB⟩ : ∃ n : Nat, n = 1600 := ⟨_, rfl⟩
        have L1 : ∀ v, EnvC2 w r bs b5 L v → (loadCellsFrom ⟨b5, 0, none⟩ 0 nB #[]).run Tryd.prog v = .ok (kcell (kbits L)).toArray v := fun v h => loadV h.k nB (by rw [hnB, kcell_len])
        have CC : ∀ v, EnvC2 w r bs b5 L v → Calls Tryd.prog 16 #[.int .i64 i] v fun e w' => e = .returned (.int .u64 (c : Int)) ∧ v = w' := fun v h => by
          rw [HC.out]
          exact constant_c i v h.e.g
        have CW : ∀ v, EnvC2 w r bs b5 L v → Calls Tryd.prog 9 #[.agg (kcell (kbits L)).toArray] v fun e w' => e = .returned (.agg (cellsOf64 L).toArray) ∧ Below v.heap.size v w' := fun v h => words6_c L v HLL.out
        have F1 : ∀ v, (Instr.index 23 (.agg (cellsOf64 L).toArray) (.int .i64 0)).run Tryd.prog v = .ok (.int .u64 (c : Int)) v := fun v => by
          have h := index_w25 v HLL.out (k := 0) (by decide)
          rw [HAT.out] at h
          exact h
        have F2 : ∀ v, (binOp .neq 22 (.int .u64 (c : Int)) (.int .u64 (c : Int))).run Tryd.prog v = .ok (.bool false) v := fun v => by simp [go_sem]
        have G1 : ∀ v, (isAgg 30).run Tryd.prog v = .ok true v := fun v => by
          unfold isAgg
          rw [Sem.run_bind, run_underlying Tryd.underlying30 v]
          rfl
        have G2 : ∀ v, (sizeOf 30).run Tryd.prog v = .ok nB v := fun v => by rw [hnB]; kernel_rfl
        have N1 := Tryd.call16
        have N2 := Tryd.call9
        have HM : Tryd.prog.follows .mixedOrders = true := by kernel_rfl
        clear hnB HLL HAT HC
        generalize kcell (kbits L) = cl at L1 CW
        generalize Tryd.prog = P at HM L1 CC CW F1 F2 G1 G2 N1 N2 ⊢
        refine wp_region_held_drew (S := fun v => EnvC2 w r bs b5 L v) HM EX (fun hHeld => ?_)
        refine wpAnyH_take (i := 0) (v := ?_) rfl (by kernel_rfl) (by kernel_rfl) (by kernel_rfl) (fun _ _ _ h => h) (Or.inl ⟨by rfl, fun v hv => ?_⟩) (by with_reducible assumption) ?_
        rotate_left
        · go_simp
          try with_reducible rfl
        simp only [Act.put, List.setIfInBounds_toArray, List.set_cons_zero, List.set_cons_succ, List.getElem_toArray, List.getElem_cons_zero, List.getElem_cons_succ]
        refine wpAnyH_take (i := 2) (v := ?_) rfl (by kernel_rfl) (by kernel_rfl) (by kernel_rfl) (fun _ _ _ h => h) (Or.inl ⟨by rfl, fun v hv => ?_⟩) (by with_reducible assumption) ?_
        rotate_left
        · go_simp
          try with_reducible rfl
        simp only [Act.put, List.setIfInBounds_toArray, List.set_cons_zero, List.set_cons_succ, List.getElem_toArray, List.getElem_cons_zero, List.getElem_cons_succ]
        refine wpAnyH_ready (rs := [1]) (by kernel_rfl) (by simp) ?_
        refine AllReadyH.cons rfl (fun K hK => ?_) AllReadyH.nil
        go_simp
        go_at_call 16
        with_reducible refine (CC _ (by with_reducible assumption)).mono ?_
        rintro e v1 ⟨rfl, rfl⟩
        dsimp only
        refine hK.out _ _ EX (fun hHeld => ?_)
        clear hK K
        try simp only [Act.put, List.setIfInBounds_toArray, List.set_cons_zero, List.set_cons_succ, List.getElem_toArray, List.getElem_cons_zero, List.getElem_cons_succ]
        refine wpAnyH_ready (rs := [3]) (by kernel_rfl) (by simp) ?_
        refine AllReadyH.cons rfl (fun K hK => ?_) AllReadyH.nil
        go_simp
        go_at_call 9
        with_reducible refine (CW _ (by with_reducible assumption)).mono ?_
        rintro e v2 ⟨rfl, hb2⟩
        have hE2 := EnvC2.up (by with_reducible assumption) hb2
        dsimp only
        refine hK.out _ _ hE2 (fun hHeld => ?_)
        clear hK K
        try simp only [Act.put, List.setIfInBounds_toArray, List.set_cons_zero, List.set_cons_succ, List.getElem_toArray, List.getElem_cons_zero, List.getElem_cons_succ]
        refine wpAnyH_take (i := 4) (v := ?_) rfl (by kernel_rfl) (by kernel_rfl) (by kernel_rfl) (fun _ _ _ h => h) (Or.inl ⟨by rfl, fun v hv => ?_⟩) (by with_reducible assumption) ?_
        rotate_left
        · go_simp
          try with_reducible rfl
        simp only [Act.put, List.setIfInBounds_toArray, List.set_cons_zero, List.set_cons_succ, List.getElem_toArray, List.getElem_cons_zero, List.getElem_cons_succ]
        refine wpAnyH_take (i := 5) (v := ?_) rfl (by kernel_rfl) (by kernel_rfl) (by kernel_rfl) (fun _ _ _ h => h) (Or.inl ⟨by rfl, fun v hv => ?_⟩) (by with_reducible assumption) ?_
        rotate_left
        · go_simp
          try with_reducible rfl
        simp only [Act.put, List.setIfInBounds_toArray, List.set_cons_zero, List.set_cons_succ, List.getElem_toArray, List.getElem_cons_zero, List.getElem_cons_succ]
        refine wpAnyH_done (by kernel_rfl) ?_ _
        go_wp2_with fail
        go_meet
        exact ⟨rfl, hE2⟩
      case rest =>
        obtain ⟨rfl, hE⟩ := hcut
        clear EX
        have HE := hid hE.e
        clear hE
        go_wp2
        go_roundw
        case rel => exact ⟨k + 1, by omega, by go_num, HE.out⟩
        case measure => simp [intOf]; omega
    · have i2 : decide ((k : Int) < 25) = false := decide_eq_false (by omega)
      have HB := hid hrel.b
      clear hrel
      go_wp2
      go_ret
      exact ⟨rfl, HB.out⟩
end Go.Proofs.YtpilbpkblcmngaaDoor
