/-
  avouchref06.Round, Permute: what each call does.
-/
import Derived.Test.YteogjnendkbjcaaDoorKRb
import Derived.Test.YteogjnendkbjcaaDoorKRc
import Derived.Test.YteogjnendkbjcaaDoorKRd
import Derived.Test.YteogjnendkbjcaaDoorKRf
import Derived.Test.YteogjnendkbjcaaDoorKRg
import Derived.Test.YteogjnendkbjcaaDoorKRo
import Derived.Test.YteogjnendkbjcaaDoorKRi
import Derived.Test.YteogjnendkbjcaaDoorKLb
namespace Go.Proofs.YteogjnendkbjcaaDoor
open Go.RowKit
set_option linter.unusedVariables false

theorem bt_eq {a b : KB} (h : KEq a b) : bt a = bt b := by unfold bt; rw [kcell_eq h]
/-- iota, behind z bits. -/
def ioz (c : Nat → Bool) (a : KB) (z : Nat) : KB := fun x y z' => if x = 0 ∧ y = 0 ∧ z' < z then a x y z' ^^ c z' else a x y z'
theorem ioz_start (c : Nat → Bool) (a : KB) : KEq a (ioz c a 0) := fun x y z' _ _ _ => by unfold ioz; rw [if_neg (by omega)]
theorem ioz_end (c : Nat → Bool) (a : KB) : KEq (ioz c a 64) (kio c a) := fun x y z' _ _ hz => by
  unfold ioz kio
  by_cases h : x = 0 ∧ y = 0
  · rw [if_pos ⟨h.1, h.2, hz⟩, if_pos h]
  · rw [if_neg (fun k => h ⟨k.1, k.2.1⟩), if_neg h]
theorem ioz_set (c : Nat → Bool) (a : KB) {z : Nat} : KEq (kset (ioz c a z) 0 0 z (a 0 0 z ^^ c z)) (ioz c a (z + 1)) := fun x y z' _ _ _ => by
  unfold kset ioz
  by_cases h : x = 0 ∧ y = 0 ∧ z' = z
  · rw [if_pos h, if_pos (by omega), h.1, h.2.1, h.2.2]
  · rw [if_neg h]
    by_cases k : x = 0 ∧ y = 0 ∧ z' < z
    · rw [if_pos k, if_pos (by omega)]
    · rw [if_neg k, if_neg (fun m => h (by omega))]
structure RRel (w : World) (a : KB) (c : Nat → Bool) (bc : Nat) (wr : World) : Prop where
  o : BB wr w.heap.size a
  z : BB wr (w.heap.size + 1) kzero
  c : BF wr bc 57 64 c
  b : Below w.heap.size w wr

set_option maxRecDepth 20000 in
set_option maxHeartbeats 1000000 in
theorem round6_c (a : KB) (r : Int) (w : World) :
    Calls Tryd.prog 26 #[bt a, .int .i64 r] w fun e w' => e = .returned (bt (krd (kcf r) a)) ∧ Below w.heap.size w w' := by
  have e1 : (w.alloc (oB a)).heap.size = w.heap.size + 1 := by simp
  have h1 := (oB_new w a).alloc (oB kzero)
  have h2 := oB_new (w.alloc (oB a)) kzero
  rw [e1] at h2
  have h4 := ((Below.refl w.heap.size w).alloc (Nat.le_refl _) (oB a)).alloc (by omega) (oB kzero)
  have HO0 := hid (BlkV.range h1)
  have HSz0 := hid (sizeB_k a)
  have H1 := hid h1
  have H2 := hid h2
  have H4 := hid h4
  have hla := kcell_len a
  have hlz := kcell_len kzero
  have hzB := zeroB
  obtain ⟨a1, q1⟩ : ∃ b, b = kth a := ⟨_, rfl⟩
  obtain ⟨a2, q2⟩ : ∃ b, b = krh a1 := ⟨_, rfl⟩
  obtain ⟨a3, q3⟩ : ∃ b, b = kpi a2 := ⟨_, rfl⟩
  obtain ⟨a4, q4⟩ : ∃ b, b = kch a3 := ⟨_, rfl⟩
  obtain ⟨C, qc⟩ : ∃ c, c = kcf r := ⟨_, rfl⟩
  obtain ⟨L, qL⟩ : ∃ L, L = kio C a4 := ⟨_, rfl⟩
  have eL : krd (kcf r) a = L := by unfold krd; rw [qL, qc, q4, q3, q2, q1]
  rw [eL]
  have E1 := hid q1
  have E2 := hid q2
  have E3 := hid q3
  have E4 := hid q4
  have EC := hid qc
  have EL := hid qL
  clear q1 q2 q3 q4 qc qL eL e1 h1 h2 h4
  unfold oB at HO0 H1 H2 H4
  rw [show bt a = .agg (kcell a).toArray from rfl]
  go_enter Tryd.func26, Tryd.ntmps26
  go_wp2_with (with_reducible refine wpList_load_mid rfl 60 (.tmp 2) rfl w.heap.size 0 rfl (kcell a) _ HO0.out Tryd.underlying60 rfl HSz0.out ?_)
  clear HO0 hla hlz hzB
  generalize ((w.alloc _).alloc _) = w0 at *
  refine (theta6_c a w0).mono ?_
  rintro e w1 ⟨rfl, b1⟩
  rw [← E1.out]
  go_wp2_with fail
  refine (rho6_c a1 w1).mono ?_
  rintro e w2 ⟨rfl, b2⟩
  rw [← E2.out]
  go_wp2_with fail
  refine (pi6_c a2 w2).mono ?_
  rintro e w3 ⟨rfl, b3⟩
  rw [← E3.out]
  go_wp2_with fail
  refine (chi6_c a3 w3).mono ?_
  rintro e w4 ⟨rfl, b4⟩
  rw [← E4.out]
  have b04 := bchain b1 (bchain b2 (bchain b3 b4))
  have n1 := BlkV.below H1.out b04 H1.out.size
  have n2 := BlkV.below H2.out b04 H2.out.size
  have n4 := bchain H4.out b04
  have hst := storeB a4 n1
  have hl4 := kcell_len a4
  have m1 := hid (BB.over a4 n1)
  have m2 := hid (BlkV.put (show w.heap.size + 1 ≠ w.heap.size by omega) (kcell a4) 0 _ n2)
  have m4 := hid (below_cells (Nat.le_refl w.heap.size) (kcell a4) 0 _ n4)
  clear b1 b2 b3 b4 b04 n1 n2 n4 H1 H2 H4
  unfold bt
  go_wp2_with fail
  clear hst
  generalize (w4.setCells _ _ _) = w5 at *
  refine (const6_c r w5).mono ?_
  rintro e w6 ⟨rfl, b6⟩
  rw [← EC.out]
  have n1 := BlkV.below m1.out b6 m1.out.size
  have n2 := BlkV.below m2.out b6 m2.out.size
  have n4 := m4.out.trans (b6.mono m4.out.size)
  have hlt := n2.size
  have hn := oF_new w6 57 64 f0
  have hst := storeF C hn
  have hlC := bcell_len 64 C
  have hl0 := bcell_len 64 f0
  have hzL := zeroL
  have R0 := hid (show RRel w (ioz C a4 0) C w6.heap.size ((w6.alloc (oF 57 64 f0)).setCells w6.heap.size 0 (bcell 64 C)) from
    ⟨BB.eq (BlkV.put (by omega) _ _ _ (BlkV.alloc n1 _)) (ioz_start C a4), BlkV.put (by omega) _ _ _ (BlkV.alloc n2 _), BF.over C hn, below_cells (by omega) _ _ _ (n4.alloc (by omega) _)⟩)
  have LT := hid hlt
  clear n1 n2 n4 hn hlt b6 m1 m2 m4
  unfold oF at hst R0
  go_wp2_with fail
  clear hst hlC hl0 hzL hl4
  generalize ((w6.alloc _).setCells _ _ _) = w7 at *
  generalize hbc : w6.heap.size = bc at *
  have LT2 : w.heap.size + 1 < bc := LT.out
  clear hbc LT
  go_loopw [6] (fun i wr => ∃ z : Nat, z ≤ 64 ∧ i = .int .i64 z ∧ RRel w (ioz C a4 z) C bc wr) (fun i _ => 64 - (intOf i).toNat)
  case atStart => exact ⟨0, by omega, rfl, R0.out⟩
  case round =>
    clear R0
    obtain ⟨z, hz, rfl, hrel⟩ := hrel
    by_cases hlt : z < 64
    · have i2 : (z : Int) < 64 := by omega
      have z0 : (0 : Int) ≤ (z : Int) := by omega
      have c0 := hrel.o.cellk (x := 0) (y := 0) (by decide) (by decide) hlt
      have ha : ioz C a4 z 0 0 z = a4 0 0 z := by unfold ioz; rw [if_neg (by omega)]
      rw [ha, show 0 * 320 + 0 * 64 + z = z by omega] at c0
      have f0' := hrel.o.frozen z
      have c1 := BF.cellf hrel.c hlt
      have hs := hrel.o.setk (x := 0) (y := 0) (z := z) (by decide) (by decide) hlt (a4 0 0 z != C z)
      rw [show 0 * 320 + 0 * 64 + z = z by omega] at hs
      have HST := hid (show RRel w (ioz C a4 (z + 1)) C bc (wr.setCell ⟨w.heap.size, z, none⟩ (.bool (a4 0 0 z != C z))) from
        ⟨hs.eq (ioz_set C a4), BlkV.other hrel.z (by omega), BlkV.other hrel.c (by omega), hrel.b.setCell (Nat.le_refl _) _⟩)
      clear hrel ha hs
      go_wp2_with fail
      go_still_tail 13, (by kernel_rfl)
      change wpList _ _ _ _ _ wr.drew
      go_wp2
      go_roundw
      case rel => exact ⟨z + 1, by omega, by go_num, ⟨BlkV.drew HST.out.o, BlkV.drew HST.out.z, BlkV.drew HST.out.c, HST.out.b.drew⟩⟩
      case measure => simp [intOf]; omega
    · have i2 : decide ((z : Int) < 64) = false := decide_eq_false (by omega)
      have e1 : BB wr w.heap.size L := hrel.o.eq (by rw [show z = 64 by omega, EL.out]; exact ioz_end C a4)
      have HO := hid (BlkV.range e1)
      have hst := storeB L hrel.z
      have HZ := hid (BB.over L hrel.z)
      have HB := hid hrel.b
      have hlenL := kcell_len L
      have HSz := hid (sizeB_k L)
      clear hrel e1
      go_wp2_with (with_reducible refine wpList_load_mid rfl 60 (.tmp 2) rfl w.heap.size 0 rfl (kcell L) _ HO.out Tryd.underlying60 rfl HSz.out ?_)
      refine bodyPost_ret (BB.bt_result HZ.out Tryd.results26 rfl) rfl ?_
      exact ⟨rfl, below_cells (by omega) _ _ _ HB.out⟩

/-- The same, of lanes. -/
theorem round6_l (l : List Nat) (r : Int) (w : World) (hl : Lanes l) :
    Calls Tryd.prog 26 #[bt (kbits l), .int .i64 r] w fun e w' => e = .returned (bt (kbits (lrd (kc r) l))) ∧ Below w.heap.size w w' := by
  rw [bt_eq (lrd_bits (c := kc r) hl)]
  exact round6_c (kbits l) r w

set_option maxRecDepth 20000 in
set_option maxHeartbeats 1000000 in
theorem permute6_c (l : List Nat) (w : World) (hl : Lanes l) :
    Calls Tryd.prog 18 #[st l] w fun e w' => e = .returned (st (lperm l)) ∧ Below w.heap.size w w' := by
  have e1 : (w.alloc (oW 30 l)).heap.size = w.heap.size + 1 := by simp
  have h1 := (oW_new w 30 l hl.all).alloc (zS 30)
  have h2 := zS_new (w.alloc (oW 30 l)) 30
  rw [e1] at h2
  have h4 := ((Below.refl w.heap.size w).alloc (Nat.le_refl _) (oW 30 l)).alloc (by omega) (zS 30)
  have HO0 := hid h1.range
  have HSz0 := hid (w_size hl)
  have H2 := hid h2
  have H4 := hid h4
  have hlen := st_len hl
  have HL := hid hl
  have HLL := hid (lperm_lanes hl)
  have HEnd := hid (lpk_end l)
  have HPK := hid (fun k => lpk_lanes hl k)
  obtain ⟨L, eL⟩ : ∃ L, L = lperm l := ⟨_, rfl⟩
  rw [← eL] at HLL HEnd ⊢
  clear e1 h1 h2 h4 hl eL
  unfold oW zS at HO0 H2 H4
  rw [show st l = .agg (cellsOf64 l).toArray from rfl]
  go_enter Tryd.func18, Tryd.ntmps18
  go_wp2_with (with_reducible refine wpList_load_mid rfl 30 (.tmp 1) rfl w.heap.size 0 rfl (cellsOf64 l) _ HO0.out Tryd.underlying30 rfl HSz0.out ?_)
  clear HO0 hlen
  generalize ((w.alloc _).alloc _) = w0 at *
  refine (ofWords_c l w0 HL.out).mono ?_
  rintro e w1 ⟨rfl, b1⟩
  have n2 := H2.out.below b1 H2.out.size
  have n4 := bchain H4.out b1
  have hlt := n2.size
  have hn := oB_new w1 kzero
  have hst := storeB (kbits l) hn
  have hlk := kcell_len (kbits l)
  have hlz := kcell_len kzero
  have hzB := zeroB
  have R0 := hid (show BB ((w1.alloc (oB kzero)).setCells w1.heap.size 0 (kcell (kbits l))) w1.heap.size (kbits (lpk l 0)) ∧ BlkW ((w1.alloc (oB kzero)).setCells w1.heap.size 0 (kcell (kbits l))) (w.heap.size + 1) 30 l0 ∧ Below w.heap.size w ((w1.alloc (oB kzero)).setCells w1.heap.size 0 (kcell (kbits l))) from
    ⟨BB.over (kbits l) hn, (n2.alloc _).putC (by omega) _ _, below_cells (by omega) _ _ _ (n4.alloc (by omega) _)⟩)
  have LT := hid hlt
  clear n2 n4 hn hlt b1 H2 H4
  unfold oB at hst R0
  unfold bt
  go_wp2_with fail
  clear hst hlk hlz hzB
  generalize ((w1.alloc _).setCells _ _ _) = w2 at *
  generalize hbc : w1.heap.size = bc at *
  have LT2 : w.heap.size + 1 < bc := LT.out
  clear hbc LT
  go_loopw [4] (fun i wr => ∃ k : Nat, k ≤ 24 ∧ i = .int .i64 k ∧ BB wr bc (kbits (lpk l k)) ∧ BlkW wr (w.heap.size + 1) 30 l0 ∧ Below w.heap.size w wr) (fun i _ => 24 - (intOf i).toNat)
  case atStart => exact ⟨0, by omega, rfl, R0.out⟩
  case round =>
    clear R0
    obtain ⟨k, hk, rfl, h1, h2, h4⟩ := hrel
    by_cases hlt : k < 24
    · have i2 : (k : Int) < 24 := by omega
      have HM := hid (HPK.out k)
      have HS : Hid (lrd (kc (k : Int)) (lpk l k) = lpk l (k + 1)) := by rw [kc_nat hlt]; exact rfl
      obtain ⟨m, hm⟩ : ∃ m, m = lpk l k := ⟨_, rfl⟩
      have HP1 := hid (HPK.out (k + 1))
      obtain ⟨m1, hm1⟩ : ∃ m, m = lpk l (k + 1) := ⟨_, rfl⟩
      rw [← hm, ← hm1] at HS
      rw [← hm] at h1 HM
      have HO := hid (BlkV.range h1)
      have HSz := hid (sizeB_k (kbits m))
      have H1 := hid h1
      have H2 := hid h2
      have H4 := hid h4
      have HM1 := hid hm1
      clear h1 h2 h4 hm hm1 HP1
      go_wp2_with (with_reducible refine wpList_load_mid rfl 60 (.tmp 3) rfl bc 0 rfl (kcell (kbits m)) _ HO.out Tryd.underlying60 rfl HSz.out ?_)
      refine (round6_l m (k : Int) wr HM.out).mono ?_
      rintro e w3 ⟨rfl, b3⟩
      rw [HS.out]
      have n1 := BlkV.below H1.out b3 H1.out.size
      have hst := storeB (kbits m1) n1
      have hlm := kcell_len (kbits m1)
      have N1 : Hid (BB (w3.setCells bc 0 (kcell (kbits m1))) bc (kbits (lpk l (k + 1)))) := by
        rw [← HM1.out]
        exact BB.over (kbits m1) n1
      have N2 := hid ((H2.out.below b3 H2.out.size).putC (show w.heap.size + 1 ≠ bc by omega) (kcell (kbits m1)) 0)
      have N4 := hid (below_cells (show w.heap.size ≤ bc by omega) (kcell (kbits m1)) 0 w3 (H4.out.trans (b3.mono H4.out.size)))
      clear b3 n1 H1 H2 H4
      unfold bt
      go_wp2
      go_roundw
      case rel => exact ⟨k + 1, by omega, by go_num, N1.out, N2.out, N4.out⟩
      case measure => simp [intOf]; omega
    · have i2 : decide ((k : Int) < 24) = false := decide_eq_false (by omega)
      rw [show k = 24 by omega, HEnd.out] at h1
      have HO := hid (BlkV.range h1)
      have HSz := hid (sizeB_k (kbits L))
      have H2 := hid h2
      have H4 := hid h4
      clear h1 h2 h4
      go_wp2_with (with_reducible refine wpList_load_mid rfl 60 (.tmp 3) rfl bc 0 rfl (kcell (kbits L)) _ HO.out Tryd.underlying60 rfl HSz.out ?_)
      refine (words6_c L wr HLL.out).mono ?_
      rintro e w3 ⟨rfl, b3⟩
      have e2 := H2.out.below b3 H2.out.size
      have HB := hid (H4.out.trans (b3.mono H4.out.size))
      obtain ⟨hst, HR⟩ := w_stored HLL.out e2
      have hlenL := st_len HLL.out
      clear e2 b3 H2 H4
      unfold st
      go_wp2
      refine bodyPost_ret (w_result HLL.out Tryd.results18 rfl HR) rfl ?_
      exact ⟨rfl, below_cells (by omega) _ _ _ HB.out⟩
end Go.Proofs.YteogjnendkbjcaaDoor
