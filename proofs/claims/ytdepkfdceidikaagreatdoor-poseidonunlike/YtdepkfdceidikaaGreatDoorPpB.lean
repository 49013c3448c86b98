import Derived.Test.YtdepkfdceidikaaGreatDoorCalC
import Derived.Test.YtdepkfdceidikaaGreatDoorGnG
import Derived.Tactics
import Derived.Tactics2
import Derived.Defers
import Derived.Laws.Pointers
import Derived.Laws.LoneSync
import Derived.RegionTactic
import Derived.RegionCalls
import Derived.Laws.NewBlocks
/-
  poseidon.Permutation.find: what the call does.
-/
namespace Go.Proofs.YtdepkfdceidikaaGreatDoor
open Go.RowKit
set_option linter.unusedVariables false
set_option linter.unusedSimpArgs false

/-- grain.New of Poseidon's numbers. -/
theorem newP_c (w : World) : Calls Tryz.prog 65 #[.int .i64 254, .int .i64 3, .int .i64 8, .int .i64 57] w fun e w' => ∃ p, e = .returned (.tuple #[.pointer (some ⟨p, 0, none⟩), .int .i64 0]) ∧ w.heap.size ≤ p ∧ G8 w' p 136 (gS 254 3 8 57) ∧ Below w.heap.size w w' := new_ok 254 3 8 57 w (by unfold gOk; decide)
theorem Only.more {b q : Nat} {w v v' : World} (h : Only b w v) (k : Only q v v') (hq : w.heap.size ≤ q) : Only b w v' :=
  ⟨k.os.trans h.os, k.tape.trans h.tape, k.output.trans h.output, Nat.le_trans h.size k.size, fun j hj hne => (k.block j (Nat.lt_of_lt_of_le hj h.size) (by omega)).trans (h.block j hj hne)⟩
/-- What find's loops keep: the first k constants stand. -/
structure FnR (w : World) (b q k : Nat) (wr : World) : Prop where
  pb : ∃ f, PB wr b 0 1 f ∧ CP k f ∧ MatZ (fun j => f (780 + j)) mzCauchy
  g : G8 wr q 136 (gelR k (gS 254 3 8 57))
  o : Only b w wr
  gl : Glob wr
theorem FnR.up {w : World} {b q k : Nat} {v v' : World} (h : FnR w b q k v) (hb : Below v.heap.size v v') : FnR w b q k v' := by
  obtain ⟨f, h1, h2⟩ := h.pb
  exact ⟨⟨f, BlkV.up h1 hb, h2⟩, BlkV.up h.g hb, h.o.trans (Only.of hb), h.gl.up hb⟩
/-- Behind Element. -/
structure FnS (w : World) (b q k : Nat) (wr : World) : Prop where
  pb : ∃ f, PB wr b 0 1 f ∧ CP k f ∧ MatZ (fun j => f (780 + j)) mzCauchy
  g : G8 wr q 136 (gelR (k + 1) (gS 254 3 8 57))
  o : Only b w wr
  gl : Glob wr
theorem FnR.elem {w : World} {b q k : Nat} {v v' : World} (h : FnR w b q k v) (hlo : 0 < q ∧ 1 < q) (hq : w.heap.size ≤ q) (hb : b < w.heap.size) (hg : G8 v' q 136 (gelr (gelR k (gS 254 3 8 57)))) (ho : Only q v v') : FnS w b q k v' := by
  obtain ⟨f, h1, h2⟩ := h.pb
  refine ⟨⟨f, ho.blk h1 (by omega), h2⟩, ?_, h.o.more ho hq, ho.globF h.gl hlo⟩
  rw [gelR_add k 1]
  exact hg
theorem FnS.there {w : World} {b q k : Nat} {v : World} (h : FnS w b q k v) (g : Nat → Int) (o : Nat) (ho : o = 3 + k * 4) (hk : k < 195) : v.there b o (wds 4 g).toArray.size := by
  obtain ⟨f, h1, h2⟩ := h.pb
  rw [ho]
  exact h1.there (k * 4) 4 g (by omega)
theorem FnS.put {w : World} {b q k : Nat} {v : World} (h : FnS w b q k v) (hlo : 0 < b ∧ 1 < b) (hne : q ≠ b) {g : Nat → Int} (o : Nat) (ho : o = 3 + k * 4) (hk : k < 195) (hg : Ez (.agg (wds 4 g).toArray) ((gelK k (gS 254 3 8 57) : Nat) : Int)) : FnR w b q (k + 1) (v.setCells b o (wds 4 g)) := by
  obtain ⟨f, h1, h2, h3⟩ := h.pb
  rw [ho]
  have hs : Only b v (v.setCells b (3 + k * 4) (wds 4 g)) := (Only.refl b v).sets _ _
  exact ⟨⟨_, h1.lay (k * 4) 4 g (by omega), h2.put hg, h3.kept (by omega)⟩, BlkV.put hne _ _ _ h.g, h.o.sets _ _, hs.globF h.gl hlo⟩
set_option maxRecDepth 20000 in
set_option maxHeartbeats 2000000 in
theorem find_c (b : Nat) (f : Nat → Int) (w : World) (hB : PB w b 0 1 f) (hG : Glob w) (hlo : 0 < b ∧ 1 < b) :
    Calls Tryz.prog 34 #[.pointer (some ⟨b, 0, none⟩)] w fun e w' => e = .returned (.tuple #[]) ∧ ∃ g, PB w' b 0 1 g ∧ CP 195 g ∧ MatZ (fun j => g (780 + j)) mzCauchy ∧ Only b w w' := by
  have hb := BlkV.size hB
  have HG := hid hG
  have HB := hid hB
  clear hG hB
  go_enter Tryz.func34, Tryz.ntmps34
  go_wp2_with fail
  refine (cauchy_c w HG.out).mono ?_
  rintro e w1 ⟨r, rfl, hr, b1⟩
  have h1 := BlkV.up HB.out b1
  have HT : Hid (w1.there b 783 (wds 36 r).toArray.size) := PB.there h1 780 36 r (by decide)
  have HL : Hid (PB (w1.setCells b 783 (wds 36 r)) b 0 1 (fput f 780 36 r)) := PB.lay h1 780 36 r (by decide)
  have HO : Hid (Only b w (w1.setCells b 783 (wds 36 r))) := hid ((Only.of b1).sets _ _)
  have HGL : Hid (Glob (w1.setCells b 783 (wds 36 r))) := hid (HO.out.globF HG.out hlo)
  have HM : Hid (MatZ (fun k => fput f 780 36 r (780 + k)) mzCauchy) := hid (MatZ.laid hr)
  have hl36 := wds_len 36 r
  clear h1 hr b1 HB
  go_wp2_with (first
    | with_reducible refine wpList_store_mid rfl 57 (.tmp 9) (.tmp 7) rfl b 783 (wds 36 r).toArray rfl rfl (by with_reducible exact HT.out) (sizeMA _) (wds_all _ _) ?_
    | fail)
  clear HT
  generalize (w1.setCells b 783 (wds 36 r)) = w2 at *
  refine (newP_c w2).mono ?_
  rintro e w3 ⟨q, rfl, hq, hg, b3⟩
  have R0 : Hid (FnR w b q 0 w3) := hid ⟨⟨_, BlkV.up HL.out b3, CP.zero _, HM.out⟩, hg, HO.out.trans (Only.of b3), HGL.out.up b3⟩
  have hqw : w.heap.size ≤ q := Nat.le_trans HO.out.size hq
  have hql : 0 < q ∧ 1 < q := ⟨Nat.lt_of_lt_of_le HGL.out.sizeP hq, Nat.lt_of_lt_of_le HGL.out.sizeR hq⟩
  have hne : q ≠ b := by omega
  clear hg b3 HL HO HGL HM hl36 hq HG
  go_wp2_with fail
  go_loopw [14] (fun i wr => ∃ k : Nat, k ≤ 65 ∧ i = .int .i64 k ∧ FnR w b q (3 * k) wr) (fun i _ => 65 - (intOf i).toNat)
  case atStart => exact ⟨0, by omega, rfl, R0.out⟩
  case round =>
    clear R0
    obtain ⟨k, hk, rfl, hrel⟩ := hrel
    have R1 := hid hrel
    clear hrel
    by_cases hlt : k < 65
    · have i0 : (0 : Int) ≤ (k : Int) := by omega
      have i2 : (k : Int) < 65 := by omega
      obtain ⟨wl, hwl⟩ : ∃ x, x = wr := ⟨wr, rfl⟩
      rw [← hwl] at R1 ⊢
      clear hwl
      go_wp2_with fail
      go_loopw [17] (fun i wr => ∃ m : Nat, m ≤ 3 ∧ i = .int .i64 m ∧ FnR w b q (3 * k + m) wr) (fun i _ => 3 - (intOf i).toNat)
      case atStart => exact ⟨0, by omega, rfl, R1.out⟩
      case round =>
        clear R1
        obtain ⟨m, hm, rfl, hrel⟩ := hrel
        by_cases hltm : m < 3
        · have j0 : (0 : Int) ≤ (m : Int) := by omega
          have j2 : (m : Int) < 3 := by omega
          have R1 := hid (FnR.up hrel (Below.refl _ _).drew)
          have HS := hid (gS_gs 254 3 8 57)
          clear hrel
          go_wp2_with fail
          refine wp_region_held_drew (S := fun _ => True) (by kernel_rfl) trivial (fun hHeld => ?_)
          refine wpAnyH_take (i := 0) (v := ?_) rfl (by kernel_rfl) (by kernel_rfl) (by kernel_rfl) (fun _ _ _ h => h) (Or.inl ⟨by rfl, fun v hv => ?_⟩) (by with_reducible assumption) ?_
          rotate_left
          · go_simp
            try with_reducible rfl
          simp only [Act.put, List.setIfInBounds_toArray, List.set_cons_zero, List.set_cons_succ, List.getElem_toArray, List.getElem_cons_zero, List.getElem_cons_succ]
          refine wpAnyH_take (i := 1) (v := ?_) rfl (by kernel_rfl) (by kernel_rfl) (by kernel_rfl) (fun _ _ _ h => h) (Or.inl ⟨by rfl, fun v hv => ?_⟩) (by with_reducible assumption) ?_
          rotate_left
          · go_simp
            try with_reducible rfl
          simp only [Act.put, List.setIfInBounds_toArray, List.set_cons_zero, List.set_cons_succ, List.getElem_toArray, List.getElem_cons_zero, List.getElem_cons_succ]
          refine wpAnyH_take (i := 2) (v := ?_) rfl (by kernel_rfl) (by kernel_rfl) (by kernel_rfl) (fun _ _ _ h => h) (Or.inl ⟨by rfl, fun v hv => ?_⟩) (by with_reducible assumption) ?_
          rotate_left
          · go_simp
            try with_reducible rfl
          simp only [Act.put, List.setIfInBounds_toArray, List.set_cons_zero, List.set_cons_succ, List.getElem_toArray, List.getElem_cons_zero, List.getElem_cons_succ]
          refine wpAnyH_take (i := 3) (v := ?_) rfl (by kernel_rfl) (by kernel_rfl) (by kernel_rfl) (fun _ _ _ h => h) (Or.inl ⟨by rfl, fun v hv => ?_⟩) (by with_reducible assumption) ?_
          rotate_left
          · go_simp
            try with_reducible rfl
          simp only [Act.put, List.setIfInBounds_toArray, List.set_cons_zero, List.set_cons_succ, List.getElem_toArray, List.getElem_cons_zero, List.getElem_cons_succ]
          refine wpAnyH_take (i := 5) (v := ?_) rfl (by kernel_rfl) (by kernel_rfl) (by kernel_rfl) (fun _ _ _ h => h) (Or.inl ⟨by rfl, fun v hv => ?_⟩) (by with_reducible assumption) ?_
          rotate_left
          · go_simp
            try with_reducible rfl
          simp only [Act.put, List.setIfInBounds_toArray, List.set_cons_zero, List.set_cons_succ, List.getElem_toArray, List.getElem_cons_zero, List.getElem_cons_succ]
          refine wpAnyH_take (i := 6) (v := ?_) rfl (by kernel_rfl) (by kernel_rfl) (by kernel_rfl) (fun _ _ _ h => h) (Or.inl ⟨by rfl, fun v hv => ?_⟩) (by with_reducible assumption) ?_
          rotate_left
          · go_simp
            try with_reducible rfl
          simp only [Act.put, List.setIfInBounds_toArray, List.set_cons_zero, List.set_cons_succ, List.getElem_toArray, List.getElem_cons_zero, List.getElem_cons_succ]
          refine wpAnyH_take (i := 7) (v := ?_) rfl (by kernel_rfl) (by kernel_rfl) (by kernel_rfl) (fun _ _ _ h => h) (Or.inl ⟨by rfl, fun v hv => ?_⟩) (by with_reducible assumption) ?_
          rotate_left
          · go_simp
            try with_reducible rfl
          simp only [Act.put, List.setIfInBounds_toArray, List.set_cons_zero, List.set_cons_succ, List.getElem_toArray, List.getElem_cons_zero, List.getElem_cons_succ]
          refine wpAnyH_ready (rs := [4]) (by kernel_rfl) (by simp) ?_
          refine (AllReadyH.cons rfl (fun K hK => ?_) AllReadyH.nil)
          go_simp
          go_at_call 66
          with_reducible refine (gelem_c _ q 136 wr.drew (HS.out.elR (3 * k + m)) R1.out.g R1.out.gl hql).mono ?_
          rintro e wq1 ⟨er, rfl, her, hg, ho⟩
          have HEZ := Ez.of her
          obtain ⟨gr, rfl⟩ := HEZ.fn
          have HSS := hid (R1.out.elem hql hqw hb hg ho)
          clear hg ho her R1
          try dsimp only
          refine hK.out _ _ (trivial) (fun hHeld => ?_)
          clear hK K
          try simp only [Act.put, List.setIfInBounds_toArray, List.set_cons_zero, List.set_cons_succ, List.getElem_toArray, List.getElem_cons_zero, List.getElem_cons_succ]
          refine wpAnyH_take (i := 8) (v := ?_) rfl (by kernel_rfl) (by kernel_rfl) (by kernel_rfl) (fun _ _ _ h => h) (Or.inl ⟨by rfl, fun v hv => ?_⟩) (by with_reducible assumption) ?_
          rotate_left
          · go_simp
            try with_reducible rfl
          simp only [Act.put, List.setIfInBounds_toArray, List.set_cons_zero, List.set_cons_succ, List.getElem_toArray, List.getElem_cons_zero, List.getElem_cons_succ]
          refine wpAnyH_ready (rs := [9]) (by kernel_rfl) (by simp) ?_
          refine (AllReadyH.cons rfl (fun K hK => ?_) AllReadyH.nil)
          refine ready_go (by rfl) ?_
          refine wp_store_mid 37 (.tmp 28) (.tmp 24) rfl (b) (3 + k * 12 + m * 4) (wds 4 gr).toArray rfl rfl (HSS.out.there gr _ (by omega) (by omega)) (sizeEA _) (wds_all _ _) ?_
          have HF := hid (HSS.out.put hlo hne (g := gr) (3 + k * 12 + m * 4) (by omega) (by omega) HEZ)
          refine hK.out _ _ (trivial) (fun hHeld => ?_)
          clear hK K
          try simp only [Act.put, List.setIfInBounds_toArray, List.set_cons_zero, List.set_cons_succ, List.getElem_toArray, List.getElem_cons_zero, List.getElem_cons_succ]
          refine wpAnyH_done (by kernel_rfl) ?_ _
          clear HSS
          go_wp2_with fail
          go_roundw
          case rel => exact ⟨m + 1, by omega, by go_num, HF.out⟩
          case measure => simp [intOf]; omega
        · obtain rfl : m = 3 := by omega
          have R1 := hid hrel
          clear hrel
          go_wp2_with fail
          go_roundw
          case rel => exact ⟨k + 1, by omega, by go_num, by rw [show 3 * (k + 1) = 3 * k + 3 by omega]; exact R1.out⟩
          case measure => simp [intOf]; omega
    · obtain rfl : k = 65 := by omega
      go_wp2_with fail
      refine ⟨rfl, _, results_none7 Tryz.results34, rfl, ?_⟩
      obtain ⟨g, h1, h2, h3⟩ := R1.out.pb
      exact ⟨g, h1, h2, h3, R1.out.o⟩
end Go.Proofs.YtdepkfdceidikaaGreatDoor
/-
  sync.Once on a permutation: the parts of its slow road, Do not yet done, Do done already.
-/
namespace Go.Proofs.YtdepkfdceidikaaGreatDoor
open Go.RowKit
set_option linter.unusedVariables false
set_option linter.unusedSimpArgs false

theorem raceDisable (w : World) : (callFunc 124 #[]).run Tryz.prog w = .ok (.value (.tuple #[])) w := run_call_mark0 Tryz.func124 (by kernel_rfl) (by kernel_rfl) (by kernel_rfl) .disable (by kernel_rfl) w
theorem raceEnable (w : World) : (callFunc 126 #[]).run Tryz.prog w = .ok (.value (.tuple #[])) w := run_call_mark0 Tryz.func126 (by kernel_rfl) (by kernel_rfl) (by kernel_rfl) .enable (by kernel_rfl) w
theorem raceAcquire (a : Addr) (w : World) : (callFunc 127 #[.pointer (some a)]).run Tryz.prog w = .ok (.value (.tuple #[])) w := run_call_marked Tryz.func127 (by kernel_rfl) (by kernel_rfl) (by kernel_rfl) .acquire (by kernel_rfl) a w
theorem raceRelease (a : Addr) (w : World) : (callFunc 129 #[.pointer (some a)]).run Tryz.prog w = .ok (.value (.tuple #[])) w := run_call_marked Tryz.func129 (by kernel_rfl) (by kernel_rfl) (by kernel_rfl) .releaseMerge (by kernel_rfl) a w
/-- '(*sync/atomic.Bool).Store(true)', entered as a deferred call: the cell holds 1. -/
theorem once_store (a : Addr) (x : Value) (u : FrameMode) (w : World) (hc : w.cell? a = some x) (hz : w.frozen? a = false) :
    CallsD Tryz.prog 91 #[.pointer (some a), .bool true] u w fun e u' w' => u' = u ∧ (e = .returned (.tuple #[]) ∧ w' = w.drew.setCell a (.int .u32 1)) := by
  have hc' : w.drew.cell? a = some x := by go_simp
  have hz' : w.drew.frozen? a = false := by go_simp
  have hst := run_call_store (P := Tryz.prog) Tryz.func115 (by kernel_rfl) (by kernel_rfl) (by kernel_rfl) (by kernel_rfl) (k := .u32) (y := 1) hc' hz'
  go_enter_d Tryz.func91, Tryz.ntmps91
  go_wp2
  go_region_calls
  all_goals (go_end0; exact ⟨rfl, rfl⟩)
set_option maxRecDepth 100000 in
set_option maxHeartbeats 1600000 in
/-- '(*sync.Mutex).Unlock', entered as a deferred call, the lock held and nobody waiting: the lock is free. -/
theorem once_unlock (a : Addr) (u : FrameMode) (w : World) (hc : w.cell? a = some (.int .i32 1)) (hz : w.frozen? a = false) :
    CallsD Tryz.prog 90 #[.pointer (some a)] u w fun e u' w' => u' = u ∧ (e = .returned (.tuple #[]) ∧ w' = w.setCell a (.int .i32 0)) := by
  have hd := raceDisable
  have he := raceEnable
  have hr := raceRelease
  have hadd := run_call_add (P := Tryz.prog) Tryz.func130 (by kernel_rfl) (by kernel_rfl) (by kernel_rfl) .i32 (by kernel_rfl) (y := -1) (s := 0) hc hz (by simp [go_sem]; rfl)
  have hcv := run_convert_to_unsafe (P := Tryz.prog) (src := 164) (dst := 168) Tryz.underlying164 Tryz.underlying168 (by kernel_rfl) hc
  go_enter_d Tryz.func90, Tryz.ntmps90
  go_wp2
  go_end0
  go_wp2
set_option maxRecDepth 100000 in
set_option maxHeartbeats 1600000 in
/-- '(*sync.Mutex).Lock', the lock free: it is held. -/
theorem once_lock (a : Addr) (w : World) (hc : w.cell? a = some (.int .i32 0)) (hz : w.frozen? a = false) :
    Calls Tryz.prog 89 #[.pointer (some a)] w fun e w' => e = .returned (.tuple #[]) ∧ w' = w.setCell a (.int .i32 1) := by
  have hd := raceDisable
  have he := raceEnable
  have ha := raceAcquire
  have hcas := run_call_cas_hit (P := Tryz.prog) Tryz.func125 (by kernel_rfl) (by kernel_rfl) (by kernel_rfl) .i32 (by kernel_rfl) (y := 1) hc hz
  have hc' : (w.setCell a (.int .i32 1)).cell? a = some (.int .i32 1) := World.cell?_setCell_same w a _ hc
  have hcv := run_convert_to_unsafe (P := Tryz.prog) (src := 164) (dst := 168) Tryz.underlying164 Tryz.underlying168 (by kernel_rfl) hc'
  go_enter Tryz.func89, Tryz.ntmps89
  go_wp2
  first | go_end0 | (simp only [Exit.inBlock, Exit.then]; refine bodyPost_ret (results_none rfl _ _ _) rfl ?_) | refine bodyPost_ret (results_none rfl _ _ _) rfl ?_
  go_wp2
set_option maxRecDepth 100000 in
set_option maxHeartbeats 1600000 in
/-- '(*sync.Once).doSlow' of find, not yet done and the lock free. -/
theorem once_slow (b : Nat) (f : Nat → Int) (w : World) (hB : PB w b 0 0 f) (hG : Glob w) (hlo : 0 < b ∧ 1 < b) :
    Calls Tryz.prog 64 #[.pointer (some ⟨b, 0, none⟩), .func (.func 34) #[.pointer (some ⟨b, 0, none⟩)] #[]] w fun e w' => e = .returned (.tuple #[]) ∧
      ∃ g, PB w' b 1 0 g ∧ CP 195 g ∧ MatZ (fun j => g (780 + j)) mzCauchy ∧ Only b w w' := by
  have h1 := hB.lock
  have f1 := BlkV.frozen hB 1
  have B1 := hid (hB.set1 1)
  have O1 : Hid (Only b w (w.setCell ⟨b, 1, none⟩ (.int .i32 1))) := hid ((Only.refl b w).set 1 _)
  have G1 : Hid (Glob (w.setCell ⟨b, 1, none⟩ (.int .i32 1))) := hid (O1.out.globF hG hlo)
  have hl := run_call_load (P := Tryz.prog) Tryz.func88 (by kernel_rfl) (by kernel_rfl) (by kernel_rfl) .u32 (by kernel_rfl) B1.out.done
  have hnot : ∀ (x : Bool) (w : World), (Op.unary .not (.bool x)).run Tryz.prog w = .ok (.bool (!x)) w := fun _ _ => rfl
  go_enter_defers Tryz.func64, Tryz.ntmps64
  go_wp2_with (first
    | (go_at_call 89; refine (once_lock ⟨b, 1, none⟩ _ h1 f1).mono ?_; rintro e w' ⟨rfl, rfl⟩)
    | (go_at_call 63; go_in)
    | fail)
  refine (find_c b f _ B1.out G1.out hlo).mono ?_
  rintro e w2 ⟨rfl, g, hg1, hg2, hg3, ho⟩
  have D2 := PB.done hg1
  have Z2 := BlkV.frozen hg1 0
  have B3 := PB.set0 (BlkV.drew hg1) 1
  have L3 := PB.lock B3
  have Z3 := BlkV.frozen B3 1
  have FIN : Hid (PB ((w2.drew.setCell ⟨b, 0, none⟩ (.int .u32 1)).setCell ⟨b, 1, none⟩ (.int .i32 0)) b 1 0 g ∧ CP 195 g ∧ MatZ (fun j => g (780 + j)) mzCauchy ∧ Only b w ((w2.drew.setCell ⟨b, 0, none⟩ (.int .u32 1)).setCell ⟨b, 1, none⟩ (.int .i32 0))) :=
    ⟨PB.set1 B3 0, hg2, hg3, (((O1.out.trans ho).drew).set 0 _).set 1 _⟩
  clear hg1 hg2 hg3 ho B1 O1 G1 hB hG hl B3
  go_wp2_with fail
  refine leaves_cons (f := 91) (args := #[.pointer (some ⟨b, 0, none⟩), .bool true]) (by simp) (by simp [go_sem]) ?_
  refine (once_store ⟨b, 0, none⟩ (.int .u32 0) .returning _ D2 Z2).mono ?_
  rintro e u' w3 ⟨rfl, rfl, rfl⟩
  refine leaves_cons (f := 90) (args := #[.pointer (some ⟨b, 1, none⟩)]) (by simp [settle]) (by simp [go_sem]) ?_
  refine (once_unlock ⟨b, 1, none⟩ _ _ L3 Z3).mono ?_
  rintro e u' w4 ⟨rfl, rfl, rfl⟩
  simp [Leaves, settle, results, Tryz.results64]
  exact ⟨g, FIN.out⟩
/-- '(*sync.Once).Do' of find, not yet done, the lock free. -/
theorem once_first (b : Nat) (f : Nat → Int) (w : World) (hB : PB w b 0 0 f) (hG : Glob w) (hlo : 0 < b ∧ 1 < b) :
    Calls Tryz.prog 33 #[.pointer (some ⟨b, 0, none⟩), .func (.func 34) #[.pointer (some ⟨b, 0, none⟩)] #[]] w fun e w' => e = .returned (.tuple #[]) ∧
      ∃ g, PB w' b 1 0 g ∧ CP 195 g ∧ MatZ (fun j => g (780 + j)) mzCauchy ∧ Only b w w' := by
  have hl := run_call_load (P := Tryz.prog) Tryz.func88 (by kernel_rfl) (by kernel_rfl) (by kernel_rfl) .u32 (by kernel_rfl) hB.done
  have hnot : ∀ (x : Bool) (w : World), (Op.unary .not (.bool x)).run Tryz.prog w = .ok (.bool (!x)) w := fun _ _ => rfl
  go_enter Tryz.func33, Tryz.ntmps33
  go_wp2_with (first
    | (go_at_call 64; refine (once_slow b f w hB hG hlo).mono ?_; rintro e w' ⟨rfl, g, hg⟩)
    | (go_at_call 63; go_in)
    | fail)
  go_end0
  exact ⟨rfl, g, hg⟩
/-- '(*sync.Once).Do', done already. -/
theorem once_again (b : Nat) (f : Nat → Int) (fv : Value) (w : World) (hB : PB w b 1 0 f) :
    Calls Tryz.prog 33 #[.pointer (some ⟨b, 0, none⟩), fv] w fun e w' => e = .returned (.tuple #[]) ∧ w' = w := by
  have hl := run_call_load (P := Tryz.prog) Tryz.func88 (by kernel_rfl) (by kernel_rfl) (by kernel_rfl) .u32 (by kernel_rfl) hB.done
  have hnot : ∀ (x : Bool) (w : World), (Op.unary .not (.bool x)).run Tryz.prog w = .ok (.bool (!x)) w := fun _ _ => rfl
  go_enter Tryz.func33, Tryz.ntmps33
  go_wp2_with (first
    | (go_at_call 63; go_in)
    | fail)
  go_end0
  exact ⟨rfl, rfl⟩
/-- '(*sync.Once).Do' of find: behind it all is found. -/
theorem once_do (b : Nat) (w : World) (hB : PI w b) (hG : Glob w) (hlo : 0 < b ∧ 1 < b) :
    Calls Tryz.prog 33 #[.pointer (some ⟨b, 0, none⟩), .func (.func 34) #[.pointer (some ⟨b, 0, none⟩)] #[]] w fun e w' => e = .returned (.tuple #[]) ∧
      ∃ g, PB w' b 1 0 g ∧ CP 195 g ∧ MatZ (fun j => g (780 + j)) mzCauchy ∧ Only b w w' ∧ Kp b w w' := by
  obtain ⟨d, f, h1, h2⟩ := hB
  rcases h2 with ⟨rfl, rfl⟩ | ⟨rfl, h3, h4⟩
  · refine (once_first b z0 w h1 hG hlo).mono ?_
    rintro e w' ⟨rfl, g, q1, q2, q3, q4⟩
    exact ⟨rfl, g, q1, q2, q3, q4, fun g' h' => absurd (PB.inj0 h1 h') (by decide)⟩
  · refine (once_again b f _ w h1).mono ?_
    rintro e w' ⟨rfl, rfl⟩
    exact ⟨rfl, f, h1, h3, h4, Only.refl _ _, Kp.refl _ _⟩
end Go.Proofs.YtdepkfdceidikaaGreatDoor
