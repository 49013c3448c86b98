import Derived.Test.YteogjnendkbjcaaDoorKRk
import Derived.StillTailTactics
/-
  Bits that are laid one after the other (fil), and what lies in memory meanwhile (BRel). Helpers for the walks of avouchref06.
-/
namespace Go.Proofs.YteogjnendkbjcaaDoor
open Go.RowKit
set_option linter.unusedVariables false

/-- The bits of g, as far as they are laid. -/
def fil (g : KB) (x y z : Nat) : KB := fun x' y' z' => if x' * 320 + y' * 64 + z' < x * 320 + y * 64 + z then g x' y' z' else false
theorem fil_set (g : KB) {x y z : Nat} (hx : x < 5) (hy : y < 5) (hz : z < 64) : KEq (kset (fil g x y z) x y z (g x y z)) (fil g x y (z + 1)) := fun x' y' z' hx' hy' hz' => by
  unfold kset
  split
  · next h =>
    obtain ⟨rfl, rfl, rfl⟩ := h
    unfold fil
    rw [if_pos (by omega)]
  · next h =>
    unfold fil
    by_cases c : x' * 320 + y' * 64 + z' < x * 320 + y * 64 + z
    · rw [if_pos c, if_pos (by omega)]
    · rw [if_neg c, if_neg (fun h' => h (by omega))]
theorem fil_y (g : KB) (x y : Nat) : KEq (fil g x y 64) (fil g x (y + 1) 0) := fun x' y' z' hx' hy' hz' => by
  unfold fil
  rw [show x * 320 + y * 64 + 64 = x * 320 + (y + 1) * 64 + 0 by omega]
theorem fil_x (g : KB) (x : Nat) : KEq (fil g x 5 0) (fil g (x + 1) 0 0) := fun x' y' z' hx' hy' hz' => by
  unfold fil
  rw [show x * 320 + 5 * 64 + 0 = (x + 1) * 320 + 0 * 64 + 0 by omega]
theorem fil_end (g : KB) : KEq (fil g 5 0 0) g := fun x' y' z' hx' hy' hz' => by
  unfold fil
  rw [if_pos (by omega)]
theorem fil_start (g : KB) : KEq kzero (fil g 0 0 0) := fun x' y' z' hx' hy' hz' => by
  unfold fil
  rw [if_neg (by omega)]
  rfl
structure BRel (w : World) (a c : KB) (wr : World) : Prop where
  o : BB wr (w.heap.size + 1 + 1) c
  z : BB wr (w.heap.size + 1) kzero
  s : BB wr w.heap.size a
  b : Below w.heap.size w wr
theorem BRel.eq {w : World} {a c d : KB} {wr : World} (h : BRel w a c wr) (e : KEq c d) : BRel w a d wr := ⟨h.o.eq e, h.z, h.s, h.b⟩
theorem BRel.set {w : World} {a c : KB} {wr : World} (h : BRel w a c wr) {x y z : Nat} (hx : x < 5) (hy : y < 5) (hz : z < 64) (v : Bool) : BRel w a (kset c x y z v) (wr.setCell ⟨w.heap.size + 1 + 1, x * 320 + y * 64 + z, none⟩ (.bool v)) :=
  ⟨h.o.setk hx hy hz v, h.z.other (by omega), h.s.other (by omega), h.b.setCell (by show w.heap.size ≤ w.heap.size + 1 + 1; omega) _⟩
theorem BRel.put {w : World} {a c : KB} {wr : World} (h : BRel w a c wr) {x y : Nat} (hx : x < 5) (hy : y < 5) (f : Nat → Bool) : BRel w a (klane c x y f) (wr.setCells (w.heap.size + 1 + 1) (x * 320 + y * 64) (bcell 64 f)) :=
  ⟨h.o.putL hx hy f, BlkV.put (by omega) _ _ _ h.z, BlkV.put (by omega) _ _ _ h.s, below_cells (by omega) _ _ _ h.b⟩
theorem BRel.drewN {w : World} {a c : KB} {wr : World} (h : BRel w a c wr) (n : Nat) : BRel w a c (wr.drewN n) := ⟨h.o.drewN n, h.z.drewN n, h.s.drewN n, below_drewN h.b n⟩
theorem BRel.start (w : World) (a : KB) : BRel w a kzero ((((w.alloc (oB a)).alloc (oB kzero)).alloc (oB kzero)).setCells (w.heap.size + 1 + 1) 0 (kcell kzero)) := by
  obtain ⟨h1, h2, h3, h4, h5⟩ := bootB w a
  exact ⟨h3, h2, h1, h4⟩
end Go.Proofs.YteogjnendkbjcaaDoor
/-
  avouchref06.pi: what the call does.
-/
namespace Go.Proofs.YteogjnendkbjcaaDoor
open Go.RowKit
set_option linter.unusedVariables false

/-- The lanes that pi has laid, behind x and y. -/
def pik (a : KB) (x y : Nat) : KB := fun x' y' z => if ((x' + 3 * y') % 5) * 5 + x' < x * 5 + y then kpi a x' y' z else false
theorem pik_put (a : KB) {x y : Nat} (hx : x < 5) (hy : y < 5) : KEq (klane (pik a x y) y ((2 * x + 3 * y) % 5) (a x y)) (pik a x (y + 1)) := fun x' y' z hx' hy' hz => by
  have key : ∀ x y x' y' : Fin 5, (decide (x'.val = y.val ∧ y'.val = (2 * x.val + 3 * y.val) % 5)) = decide (((x'.val + 3 * y'.val) % 5) * 5 + x'.val = x.val * 5 + y.val) := by decide +kernel
  have k := key ⟨x, hx⟩ ⟨y, hy⟩ ⟨x', hx'⟩ ⟨y', hy'⟩
  unfold klane
  by_cases c : x' = y ∧ y' = (2 * x + 3 * y) % 5
  · rw [decide_eq_true c] at k
    have k' := of_decide_eq_true k.symm
    simp only at k'
    rw [if_pos c]
    unfold pik
    rw [if_pos (by omega)]
    unfold kpi
    rw [show (x' + 3 * y') % 5 = x by omega, c.1]
  · rw [decide_eq_false c] at k
    have k' := of_decide_eq_false k.symm
    simp only at k'
    rw [if_neg c]
    unfold pik
    by_cases d : ((x' + 3 * y') % 5) * 5 + x' < x * 5 + y
    · rw [if_pos d, if_pos (by omega)]
    · rw [if_neg d, if_neg (by omega)]
theorem pik_x (a : KB) (x : Nat) : KEq (pik a x 5) (pik a (x + 1) 0) := fun x' y' z hx' hy' hz => by
  unfold pik
  rw [show x * 5 + 5 = (x + 1) * 5 + 0 by omega]
theorem pik_end (a : KB) : KEq (pik a 5 0) (kpi a) := fun x' y' z hx' hy' hz => by
  unfold pik
  rw [if_pos (by omega)]
theorem pik_start (a : KB) : KEq kzero (pik a 0 0) := fun x' y' z hx' hy' hz => by
  unfold pik
  rw [if_neg (by omega)]
  rfl

set_option maxRecDepth 20000 in
set_option maxHeartbeats 1000000 in
theorem pi6_c (a : KB) (w : World) :
    Calls Tryd.prog 34 #[bt a] w fun e w' => e = .returned (bt (kpi a)) ∧ Below w.heap.size w w' := by
  have hst := (bootB w a).2.2.2.2
  have R0 := hid ((BRel.start w a).eq (pik_start a))
  have hla := kcell_len a
  have hlz := kcell_len kzero
  have hzB := zeroB
  obtain ⟨L, eL⟩ : ∃ L, L = kpi a := ⟨_, rfl⟩
  have HLE := hid eL
  rw [← eL]
  clear eL
  unfold oB at hst R0
  rw [show bt a = .agg (kcell a).toArray from rfl]
  go_enter Tryd.func34, Tryd.ntmps34
  go_wp2_with fail
  clear hla hlz hzB hst
  generalize ((((w.alloc _).alloc _).alloc _).setCells _ _ _) = w0 at *
  go_loopw [4] (fun i wr => ∃ x : Nat, x ≤ 5 ∧ i = .int .i64 x ∧ BRel w a (pik a x 0) wr) (fun i _ => 5 - (intOf i).toNat)
  case atStart => exact ⟨0, by omega, rfl, R0.out⟩
  case round =>
    clear R0
    obtain ⟨x, hx, rfl, hrel⟩ := hrel
    by_cases hltx : x < 5
    · have i2 : (x : Int) < 5 := by omega
      have HR := hid hrel
      obtain ⟨w1, hw1⟩ : ∃ v, v = wr := ⟨wr, rfl⟩
      rw [← hw1] at HR ⊢
      clear hrel hw1
      go_wp2_with fail
      go_loopw [5] (fun i wr => ∃ y : Nat, y ≤ 5 ∧ i = .int .i64 y ∧ BRel w a (pik a x y) wr) (fun i _ => 5 - (intOf i).toNat)
      case atStart => exact ⟨0, by omega, rfl, HR.out⟩
      case round =>
        clear HR
        obtain ⟨y, hy, rfl, hrel⟩ := hrel
        by_cases hlty : y < 5
        · have k2 : (y : Int) < 5 := by omega
          obtain ⟨xa, hxa⟩ : ∃ n, n = 2 * x := ⟨_, rfl⟩
          obtain ⟨ya, hya⟩ : ∃ n, n = 3 * y := ⟨_, rfl⟩
          obtain ⟨s, hs⟩ : ∃ n, n = xa + ya := ⟨_, rfl⟩
          obtain ⟨q, hq⟩ : ∃ n, n = s % 5 := ⟨_, rfl⟩
          have a1 : IntKind.i64.wrap (2 * (x : Int)) = (xa : Int) := by rw [IntKind.wrap_i64]; omega
          have a2 : IntKind.i64.wrap (3 * (y : Int)) = (ya : Int) := by rw [IntKind.wrap_i64]; omega
          have a3 : IntKind.i64.wrap ((xa : Int) + (ya : Int)) = (s : Int) := by rw [IntKind.wrap_i64]; omega
          have a4 : (s : Int).tmod 5 = (q : Int) := by rw [hq, Int.tmod_eq_emod_of_nonneg (by omega)]; rfl
          have hq5 : q < 5 := by omega
          have q5 : (q : Int) < 5 := by omega
          have q0 : (0 : Int) ≤ (q : Int) := by omega
          have x0 : (0 : Int) ≤ (x : Int) := by omega
          have y0 : (0 : Int) ≤ (y : Int) := by omega
          have HQ : Hid (q = (2 * x + 3 * y) % 5) := by show _ = _; rw [hq, hs, hxa, hya]
          have HRG := hid (hrel.s.lane hltx hlty)
          have hst := storeBL (hrel.o.drewN 1) (x := y) (y := q) hlty hq5 (a x y)
          have hlenF := bcell_len 64 (a x y)
          have HSzF := hid (sizeL_f (a x y))
          have HST := hid (((hrel.drewN 1).put (x := y) (y := q) hlty hq5 (a x y)).eq (d := pik a x (y + 1)) (by rw [HQ.out]; exact pik_put a hltx hlty))
          clear hrel hq hs hxa hya
          go_wp2_with fail
          refine wp_region_still_tail 14 (by kernel_rfl) (by kernel_rfl) ?_
          simp only [List.take_succ_cons, List.take_zero, List.drop_succ_cons, List.drop_zero]
          repeat still_step
          refine still_load rfl 57 (.tmp 25) rfl w.heap.size (x * 320 + y * 64) rfl (bcell 64 (a x y)) _ HRG.out Tryd.underlying57 rfl HSzF.out ?_
          repeat still_step
          refine wpStill_nil ?_
          change wpList _ _ _ _ _ (wr.drewN 1)
          clear a1 a2 a3 a4
          go_wp2
          go_roundw
          case rel => exact ⟨y + 1, by omega, by go_num, HST.out⟩
          case measure => simp [intOf]; omega
        · have k2 : decide ((y : Int) < 5) = false := by simp; omega
          have HR5 := hid (hrel.eq (d := pik a (x + 1) 0) (by rw [show y = 5 by omega]; exact pik_x a x))
          clear hrel
          go_wp2
          go_roundw
          case rel => exact ⟨x + 1, by omega, by go_num, HR5.out⟩
          case measure => simp [intOf]; omega
    · obtain rfl : x = 5 := by omega
      have hrel := hrel.eq (pik_end a)
      rw [← HLE.out] at hrel
      have HO := hid hrel.o.range
      have hst := storeB L hrel.z
      have HZ := hid (hrel.z.over L)
      have HB := hid hrel.b
      have hlenL := kcell_len L
      have HSz := hid (sizeB_k L)
      clear hrel
      go_wp2_with (with_reducible refine wpList_load_mid rfl 60 (.tmp 3) rfl (w.heap.size + 1 + 1) 0 rfl (kcell L) _ HO.out Tryd.underlying60 rfl HSz.out ?_)
      refine bodyPost_ret (BB.bt_result HZ.out Tryd.results34 rfl) rfl ?_
      exact ⟨rfl, below_cells (by omega) _ _ _ HB.out⟩
end Go.Proofs.YteogjnendkbjcaaDoor
