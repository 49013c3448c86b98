/-
  avouchref06.theta: what the call does.
-/
import Derived.Test.YteogjnendkbjcaaDoorKRk
import Derived.StillTailTactics
namespace Go.Proofs.YteogjnendkbjcaaDoor
open Go.RowKit
set_option linter.unusedVariables false

/-- A count of bits over y. -/
def kcnt (a : KB) (x z : Nat) : Nat → Nat
  | 0 => 0
  | y + 1 => kcnt a x z y + if a x y z then 1 else 0
theorem kcnt_le (a : KB) (x z : Nat) : ∀ y, kcnt a x z y ≤ y
  | 0 => Nat.le_refl _
  | y + 1 => by
    have := kcnt_le a x z y
    unfold kcnt
    split <;> omega
theorem kcnt_par (a : KB) (x z : Nat) : (kcnt a x z 5 % 2 == 1) = kpar a x z := by
  have h := count5 (a x 0 z) (a x 1 z) (a x 2 z) (a x 3 z) (a x 4 z)
  unfold kpar
  rw [← h]
  simp only [kcnt, Nat.zero_add]
/-- The parities, behind x columns and z bits of the next. -/
def pk (a : KB) (x z : Nat) : Nat → Bool := fun k => if k < x * 64 + z then kpar a (k / 64) (k % 64) else false
/-- What theta has laid. -/
def thk (a : KB) (x y z : Nat) : KB := fun x' y' z' => if x' * 320 + y' * 64 + z' < x * 320 + y * 64 + z then kth a x' y' z' else false
theorem thk_set (a : KB) {x y z : Nat} (hx : x < 5) (hy : y < 5) (hz : z < 64) : KEq (kset (thk a x y z) x y z (kth a x y z)) (thk a x y (z + 1)) := fun x' y' z' hx' hy' hz' => by
  unfold kset
  split
  · next h =>
    obtain ⟨rfl, rfl, rfl⟩ := h
    unfold thk
    rw [if_pos (by omega)]
  · next h =>
    unfold thk
    by_cases c : x' * 320 + y' * 64 + z' < x * 320 + y * 64 + z
    · rw [if_pos c, if_pos (by omega)]
    · rw [if_neg c, if_neg (fun h' => h (by omega))]
theorem thk_y (a : KB) (x y : Nat) : KEq (thk a x y 64) (thk a x (y + 1) 0) := fun x' y' z' hx' hy' hz' => by
  unfold thk
  rw [show x * 320 + y * 64 + 64 = x * 320 + (y + 1) * 64 + 0 by omega]
theorem thk_x (a : KB) (x : Nat) : KEq (thk a x 5 0) (thk a (x + 1) 0 0) := fun x' y' z' hx' hy' hz' => by
  unfold thk
  rw [show x * 320 + 5 * 64 + 0 = (x + 1) * 320 + 0 * 64 + 0 by omega]
theorem thk_end (a : KB) : KEq (thk a 5 0 0) (kth a) := fun x' y' z' hx' hy' hz' => by
  unfold thk
  rw [if_pos (by omega)]
theorem thk_start (a : KB) : KEq kzero (thk a 0 0 0) := fun x' y' z' hx' hy' hz' => by
  unfold thk
  rw [if_neg (by omega)]
  rfl
structure Th1 (w : World) (a : KB) (f : Nat → Bool) (wr : World) : Prop where
  p : BF wr (w.heap.size + 1 + 1) 58 320 f
  z : BB wr (w.heap.size + 1) kzero
  s : BB wr w.heap.size a
  b : Below w.heap.size w wr
theorem Th1.set {w : World} {a : KB} {x z : Nat} {wr : World} (h : Th1 w a (pk a x z) wr) (hx : x < 5) (hz : z < 64) (v : Bool) (hv : v = kpar a x z) : Th1 w a (pk a x (z + 1)) (wr.setCell ⟨w.heap.size + 1 + 1, x * 64 + z, none⟩ (.bool v)) := by
  refine ⟨(h.p.setf (show x * 64 + z < 320 by omega) v).eq fun k hk => ?_, h.z.other (by omega), h.s.other (by omega), h.b.setCell (by show w.heap.size ≤ w.heap.size + 1 + 1; omega) _⟩
  unfold pk
  by_cases c : k = x * 64 + z
  · rw [if_pos c, if_pos (by omega), hv, show k / 64 = x by omega, show k % 64 = z by omega]
  · rw [if_neg c]
    by_cases d : k < x * 64 + z
    · rw [if_pos d, if_pos (by omega)]
    · rw [if_neg d, if_neg (by omega)]
theorem Th1.turn {w : World} {a : KB} {x : Nat} {wr : World} (h : Th1 w a (pk a x 64) wr) : Th1 w a (pk a (x + 1) 0) wr := by
  refine ⟨h.p.eq fun k hk => ?_, h.z, h.s, h.b⟩
  unfold pk
  rw [show x * 64 + 64 = (x + 1) * 64 + 0 by omega]
/-- A parity, when all are there. -/
theorem Th1.at_ {w : World} {a : KB} {wr : World} (h : BF wr (w.heap.size + 1 + 1) 58 320 (pk a 5 0)) {x z : Nat} (hx : x < 5) (hz : z < 64) : wr.cell? ⟨w.heap.size + 1 + 1, x * 64 + z, none⟩ = some (.bool (kpar a x z)) := by
  rw [h.cellf (show x * 64 + z < 320 by omega)]
  unfold pk
  rw [if_pos (by omega), show (x * 64 + z) / 64 = x by omega, show (x * 64 + z) % 64 = z by omega]
structure Th2 (w : World) (a c : KB) (bo : Nat) (wr : World) : Prop where
  o : BB wr bo c
  p : BF wr (w.heap.size + 1 + 1) 58 320 (pk a 5 0)
  z : BB wr (w.heap.size + 1) kzero
  s : BB wr w.heap.size a
  b : Below w.heap.size w wr
theorem Th2.eq {w : World} {a c d : KB} {bo : Nat} {wr : World} (h : Th2 w a c bo wr) (e : KEq c d) : Th2 w a d bo wr := ⟨h.o.eq e, h.p, h.z, h.s, h.b⟩
theorem Th2.set {w : World} {a c : KB} {bo : Nat} {wr : World} (h : Th2 w a c bo wr) (hb : w.heap.size + 1 + 1 < bo) {x y z : Nat} (hx : x < 5) (hy : y < 5) (hz : z < 64) (v : Bool) : Th2 w a (kset c x y z v) bo (wr.setCell ⟨bo, x * 320 + y * 64 + z, none⟩ (.bool v)) :=
  ⟨h.o.setk hx hy hz v, h.p.other (by omega), h.z.other (by omega), h.s.other (by omega), h.b.setCell (by show w.heap.size ≤ bo; omega) _⟩
theorem Th2.drewN {w : World} {a c : KB} {bo : Nat} {wr : World} (h : Th2 w a c bo wr) (n : Nat) : Th2 w a c bo (wr.drewN n) := ⟨h.o.drewN n, h.p.drewN n, h.z.drewN n, h.s.drewN n, below_drewN h.b n⟩

set_option maxRecDepth 20000 in
set_option maxHeartbeats 1000000 in
theorem theta6_c (a : KB) (w : World) :
    Calls Tryd.prog 36 #[bt a] w fun e w' => e = .returned (bt (kth a)) ∧ Below w.heap.size w w' := by
  have e1 : (w.alloc (oB a)).heap.size = w.heap.size + 1 := by simp
  have e2 : ((w.alloc (oB a)).alloc (oB kzero)).heap.size = w.heap.size + 1 + 1 := by simp
  have h1 := ((oB_new w a).alloc (oB kzero)).alloc (oF 58 320 f0)
  have h2 := (oB_new (w.alloc (oB a)) kzero).alloc (oF 58 320 f0)
  have h3 := oF_new ((w.alloc (oB a)).alloc (oB kzero)) 58 320 f0
  rw [e1] at h2
  rw [e2] at h3
  have hst := storeF f0 h3
  have R0 := hid (show Th1 w a (pk a 0 0) _ from ⟨(h3.over f0).eq fun k hk => by unfold pk; rw [if_neg (by omega)]; rfl, BlkV.put (by omega) _ _ _ h2, BlkV.put (by omega) _ _ _ h1, below_cells (by omega) _ _ _ ((((Below.refl _ _).alloc (Nat.le_refl _) _).alloc (by omega) _).alloc (by omega) _)⟩)
  have hla := kcell_len a
  have hlp := bcell_len 320 f0
  have hlz := kcell_len kzero
  have hzP := zeroP
  have hzB := zeroB
  have HEnd := hid (thk_end a)
  obtain ⟨L, eL⟩ : ∃ L, L = kth a := ⟨_, rfl⟩
  have HLE := hid eL
  rw [← eL] at HEnd ⊢
  clear e1 e2 h1 h2 h3 eL
  unfold oB oF at hst R0
  rw [show bt a = .agg (kcell a).toArray from rfl]
  go_enter Tryd.func36, Tryd.ntmps36
  go_wp2_with fail
  clear hlp hla hzP hst
  generalize ((((w.alloc _).alloc _).alloc _).setCells _ _ _) = w0 at *
  go_loopw [4] (fun i wr => ∃ x : Nat, x ≤ 5 ∧ i = .int .i64 x ∧ Th1 w a (pk a x 0) wr) (fun i _ => 5 - (intOf i).toNat)
  case atStart => exact ⟨0, by omega, rfl, R0.out⟩
  case round =>
    clear R0
    obtain ⟨x, hx, rfl, hrel⟩ := hrel
    by_cases hltx : x < 5
    · have i2 : (x : Int) < 5 := by omega
      have HR := hid hrel
      obtain ⟨w1, hw1⟩ : ∃ v, v = wr := ⟨wr, rfl⟩
      rw [← hw1] at HR ⊢
      clear hrel hw1
      go_wp2_with fail
      go_loopw [5] (fun i wr => ∃ z : Nat, z ≤ 64 ∧ i = .int .i64 z ∧ Th1 w a (pk a x z) wr) (fun i _ => 64 - (intOf i).toNat)
      case atStart => exact ⟨0, by omega, rfl, HR.out⟩
      case round =>
        clear HR
        obtain ⟨z, hz, rfl, hrel⟩ := hrel
        by_cases hltz : z < 64
        · have j2 : (z : Int) < 64 := by omega
          have HR := hid hrel
          have HS := hid hrel.s
          obtain ⟨w2, hw2⟩ : ∃ v, v = wr := ⟨wr, rfl⟩
          rw [← hw2] at HR HS ⊢
          clear hrel hw2
          go_wp2_with fail
          go_loop [6, 7] (fun n i => ∃ y c : Nat, y ≤ 5 ∧ Hid (c = kcnt a x z y) ∧ n = .int .i64 (c : Int) ∧ i = .int .i64 y) (fun _ i => 5 - (intOf i).toNat)
          case atStart => exact ⟨0, 0, by omega, hid (show 0 = kcnt a x z 0 from rfl), rfl, rfl⟩
          case round =>
            obtain ⟨y, c, hy, HC, rfl, rfl⟩ := hrel
            have hc5 : c ≤ 5 := by
              have := kcnt_le a x z y
              rw [← HC.out] at this
              omega
            by_cases hlty : y < 5
            · have k2 : (y : Int) < 5 := by omega
              have c1 := HS.out.cellk hltx hlty hltz
              cases hb : a x y z
              · rw [hb] at c1
                have HC2 : Hid (c = kcnt a x z (y + 1)) := by
                  show _ = _
                  unfold kcnt
                  rw [hb, if_neg (by simp), ← HC.out]
                  rfl
                clear hb
                go_wp2
                go_round
                case rel => exact ⟨y + 1, c, by omega, HC2, rfl, by go_num⟩
                case measure => simp [intOf]; omega
              · rw [hb] at c1
                have HC2 : Hid (c + 1 = kcnt a x z (y + 1)) := by
                  show _ = _
                  show _ = kcnt a x z y + if a x y z then 1 else 0
                  rw [hb, if_pos rfl, ← HC.out]
                clear hb
                go_wp2
                go_round
                case rel => exact ⟨y + 1, c + 1, by omega, HC2, by go_num, by go_num⟩
                case measure => simp [intOf]; omega
            · have k2 : decide ((y : Int) < 5) = false := by simp; omega
              have hv : ((c : Int).tmod 2 == 1) = kpar a x z := by
                rw [← kcnt_par a x z, show (5 : Nat) = y by omega, ← HC.out, Int.tmod_eq_emod_of_nonneg (by omega), Bool.eq_iff_iff]
                simp only [beq_iff_eq]
                omega
              have c1 := HR.out.p.cellf (show x * 64 + z < 320 by omega)
              have f1 := HR.out.p.frozen (x * 64 + z)
              have HST := hid (HR.out.set hltx hltz ((c : Int).tmod 2 == 1) hv)
              clear hv
              go_wp2
              go_roundw
              case rel => exact ⟨z + 1, by omega, by go_num, HST.out⟩
              case measure => simp [intOf]; omega
        · have j2 : decide ((z : Int) < 64) = false := by simp; omega
          have HR5 : Hid (Th1 w a (pk a (x + 1) 0) wr) := by
            have h := hrel
            rw [show z = 64 by omega] at h
            exact h.turn
          clear hrel
          go_wp2
          go_roundw
          case rel => exact ⟨x + 1, by omega, by go_num, HR5.out⟩
          case measure => simp [intOf]; omega
    · have i2 : decide ((x : Int) < 5) = false := by simp; omega
      rw [show x = 5 by omega] at hrel
      obtain ⟨n5, hn5⟩ : ∃ n, n = x := ⟨_, rfl⟩
      rw [← hn5] at i2 ⊢
      clear hn5 hltx hx x
      have hn := oB_new wr kzero
      have hst := storeB kzero hn
      have hlt := hrel.p.size
      have R1 := hid (show Th2 w a (thk a 0 0 0) wr.heap.size ((wr.alloc (oB kzero)).setCells wr.heap.size 0 (kcell kzero)) from
        ⟨(hn.over kzero).eq (thk_start a), BlkV.put (by omega) _ _ _ (hrel.p.alloc _), BlkV.put (by omega) _ _ _ (hrel.z.alloc _), BlkV.put (by omega) _ _ _ (hrel.s.alloc _), below_cells (by omega) _ _ _ (hrel.b.alloc (by omega) _)⟩)
      have LT := hid hlt
      clear hn hrel hlt
      unfold oB at hst R1
      go_wp2_with fail
      clear hst
      generalize ((wr.alloc _).setCells _ _ _) = w1 at *
      generalize hbo : wr.heap.size = bo at *
      have LT2 : w.heap.size + 1 + 1 < bo := LT.out
      clear hbo LT hzB hlz
      go_loopw [9] (fun i wr => ∃ x : Nat, x ≤ 5 ∧ i = .int .i64 x ∧ Th2 w a (thk a x 0 0) bo wr) (fun i _ => 5 - (intOf i).toNat)
      case atStart => exact ⟨0, by omega, rfl, R1.out⟩
      case round =>
        clear R1
        obtain ⟨x, hx, rfl, hrel⟩ := hrel
        by_cases hltx : x < 5
        · have i2 : (x : Int) < 5 := by omega
          have HR := hid hrel
          obtain ⟨w2, hw2⟩ : ∃ v, v = wr := ⟨wr, rfl⟩
          rw [← hw2] at HR ⊢
          clear hrel hw2
          go_wp2_with fail
          go_loopw [10] (fun i wr => ∃ y : Nat, y ≤ 5 ∧ i = .int .i64 y ∧ Th2 w a (thk a x y 0) bo wr) (fun i _ => 5 - (intOf i).toNat)
          case atStart => exact ⟨0, by omega, rfl, HR.out⟩
          case round =>
            clear HR
            obtain ⟨y, hy, rfl, hrel⟩ := hrel
            by_cases hlty : y < 5
            · have k2 : (y : Int) < 5 := by omega
              have HR := hid hrel
              obtain ⟨w3, hw3⟩ : ∃ v, v = wr := ⟨wr, rfl⟩
              rw [← hw3] at HR ⊢
              clear hrel hw3
              go_wp2_with fail
              go_loopw [11] (fun i wr => ∃ z : Nat, z ≤ 64 ∧ i = .int .i64 z ∧ Th2 w a (thk a x y z) bo wr) (fun i _ => 64 - (intOf i).toNat)
              case atStart => exact ⟨0, by omega, rfl, HR.out⟩
              case round =>
                clear HR
                obtain ⟨z, hz, rfl, hrel⟩ := hrel
                by_cases hltz : z < 64
                · have j2 : (z : Int) < 64 := by omega
                  obtain ⟨xa, hxa⟩ : ∃ n, n = x + 4 := ⟨_, rfl⟩
                  obtain ⟨xb, hxb⟩ : ∃ n, n = x + 1 := ⟨_, rfl⟩
                  obtain ⟨za, hza⟩ : ∃ n, n = z + 63 := ⟨_, rfl⟩
                  obtain ⟨p, hp⟩ : ∃ n, n = xa % 5 := ⟨_, rfl⟩
                  obtain ⟨q, hq⟩ : ∃ n, n = xb % 5 := ⟨_, rfl⟩
                  obtain ⟨r, hr⟩ : ∃ n, n = za % 64 := ⟨_, rfl⟩
                  have a1 : IntKind.i64.wrap ((x : Int) + 4) = (xa : Int) := by rw [IntKind.wrap_i64]; omega
                  have a2 : IntKind.i64.wrap ((x : Int) + 1) = (xb : Int) := by rw [IntKind.wrap_i64]; omega
                  have a0 : IntKind.i64.wrap ((z : Int) + 63) = (za : Int) := by rw [IntKind.wrap_i64]; omega
                  have a3 : (xa : Int).tmod 5 = (p : Int) := by rw [hp, Int.tmod_eq_emod_of_nonneg (by omega)]; rfl
                  have a4 : (xb : Int).tmod 5 = (q : Int) := by rw [hq, Int.tmod_eq_emod_of_nonneg (by omega)]; rfl
                  have a5 : (za : Int).tmod 64 = (r : Int) := by rw [hr, Int.tmod_eq_emod_of_nonneg (by omega)]; rfl
                  have p5 : (p : Int) < 5 := by omega
                  have q5 : (q : Int) < 5 := by omega
                  have r5 : (r : Int) < 64 := by omega
                  have p0 : (0 : Int) ≤ (p : Int) := by omega
                  have q0 : (0 : Int) ≤ (q : Int) := by omega
                  have r0 : (0 : Int) ≤ (r : Int) := by omega
                  have x0 : (0 : Int) ≤ (x : Int) := by omega
                  have y0 : (0 : Int) ≤ (y : Int) := by omega
                  have z0 : (0 : Int) ≤ (z : Int) := by omega
                  have c0 := Th1.at_ hrel.p (x := p) (by omega) hltz
                  have c1 := Th1.at_ hrel.p (x := q) (z := r) (by omega) (by omega)
                  obtain ⟨d, hd⟩ : ∃ d, (!(kpar a p z == kpar a q r)) = d := ⟨_, rfl⟩
                  have HKT : Hid ((a x y z != d) = L x y z) := by
                    show _ = _
                    rw [HLE.out, ← hd]
                    unfold kth
                    rw [← hxa, ← hxb, ← hza, ← hp, ← hq, ← hr]
                    cases a x y z <;> cases kpar a p z <;> cases kpar a q r <;> rfl
                  have HR := hid hrel
                  clear hrel hp hq hr hxa hxb hza
                  go_wp2_with fail
                  go_quiet (fail)
                  have HR1 := hid (HR.out.drewN nq)
                  obtain ⟨w4, hw4⟩ : ∃ v, v = wr.drewN nq := ⟨_, rfl⟩
                  rw [← hw4] at HR1 ⊢
                  have d0 := HR1.out.s.cellk hltx hlty hltz
                  have d1 := HR1.out.o.cellk hltx hlty hltz
                  have f1 := HR1.out.o.frozen (x * 320 + y * 64 + z)
                  have HST := hid ((HR1.out.set LT2 hltx hlty hltz (a x y z != d)).eq (c := kset (thk a x y z) x y z (a x y z != d)) (d := thk a x y (z + 1)) (by rw [HKT.out, HLE.out]; exact thk_set a hltx hlty hltz))
                  clear hw4 HR a0 a1 a2 a3 a4 a5 c0 c1 HR1
                  go_wp2
                  go_still_tail 15, (by kernel_rfl)
                  change wpList _ _ _ _ _ w4.drew
                  go_wp2
                  go_roundw
                  case rel => exact ⟨z + 1, by omega, by go_num, HST.out.drewN 1⟩
                  case measure => simp [intOf]; omega
                · have j2 : decide ((z : Int) < 64) = false := by simp; omega
                  have HR5 := hid (hrel.eq (d := thk a x (y + 1) 0) (by rw [show z = 64 by omega]; exact thk_y a x y))
                  clear hrel
                  go_wp2
                  go_roundw
                  case rel => exact ⟨y + 1, by omega, by go_num, HR5.out⟩
                  case measure => simp [intOf]; omega
            · have k2 : decide ((y : Int) < 5) = false := by simp; omega
              have HR5 := hid (hrel.eq (d := thk a (x + 1) 0 0) (by rw [show y = 5 by omega]; exact thk_x a x))
              clear hrel
              go_wp2
              go_roundw
              case rel => exact ⟨x + 1, by omega, by go_num, HR5.out⟩
              case measure => simp [intOf]; omega
        · obtain rfl : x = 5 := by omega
          have hrel := hrel.eq HEnd.out
          have HO := hid hrel.o.range
          have hst := storeB L hrel.z
          have HZ := hid (hrel.z.over L)
          have HB := hid hrel.b
          have hlenL := kcell_len L
          have HSz := hid (sizeB_k L)
          clear hrel
          go_wp2_with (with_reducible refine wpList_load_mid rfl 60 (.tmp 8) rfl bo 0 rfl (kcell L) _ HO.out Tryd.underlying60 rfl HSz.out ?_)
          refine bodyPost_ret (BB.bt_result HZ.out Tryd.results36 rfl) rfl ?_
          exact ⟨rfl, below_cells (by omega) _ _ _ HB.out⟩
end Go.Proofs.YteogjnendkbjcaaDoor
