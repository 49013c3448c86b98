/-
  field.FromUint64, FromWide: what each call does.
-/
import Derived.Test.YtjkellpfoogomaaDoorFldE
namespace Go.Proofs.YtjkellpfoogomaaDoor
open Go.RowKit
set_option linter.unusedVariables false

theorem rdw_one (w : World) (v : Nat) (hv : v < 18446744073709551616) : Rd (w.alloc (.cells #[.int .u64 (v : Int)] 23)) (w.heap.size + 1) (some ⟨w.heap.size, 0, none⟩) 1 [v] := by
  refine ⟨rfl, fun x hx => by simp at hx; omega, fun _ => ⟨w.heap.size, 0, rfl, by omega, fun i hi => ?_⟩⟩
  have : i = 0 := by omega
  subst this
  rw [cell_of_row _ w.heap.size 0 #[.int .u64 (v : Int)] 23 (0, 0) (heap_alloc_new w _)]
  rfl

set_option maxRecDepth 20000 in
set_option maxHeartbeats 1000000 in
theorem fromUint64_c (v : Nat) (w : World) (hv : v < 18446744073709551616) (hG : Glob w) :
    Calls Tryd.prog 19 #[.int .u64 (v : Int)] w fun e w' => ∃ r, e = .returned r ∧ El r v ∧ Below w.heap.size w w' := by
  have hl0 : Below w.heap.size w ((w.alloc (o4 27 0 0 0 0)).alloc (.cells #[.int .u64 (v : Int)] 23)) := ((Below.refl w.heap.size w).alloc (Nat.le_refl _) _).alloc (by simp) _
  have hz0 := (o4_new w 27 0 0 0 0).alloc (.cells #[.int .u64 (v : Int)] 23)
  have hr0 := rdw_one (w.alloc (o4 27 0 0 0 0)) v hv
  have hG0 := hG.up hl0
  have e1 : (w.alloc (o4 27 0 0 0 0)).heap.size = w.heap.size + 1 := by simp
  have e2 : ((w.alloc (o4 27 0 0 0 0)).alloc (.cells #[.int .u64 (v : Int)] 23)).heap.size = w.heap.size + 1 + 1 := by simp
  rw [e1] at hr0
  have hr1 : Rd ((w.alloc (o4 27 0 0 0 0)).alloc (.cells #[.int .u64 (v : Int)] 23)) ((w.alloc (o4 27 0 0 0 0)).alloc (.cells #[.int .u64 (v : Int)] 23)).heap.size (some ⟨w.heap.size + 1, 0, none⟩) 1 [v] := by rw [e2]; exact hr0
  have hval : val 18446744073709551616 [v] = v := by simp [val, pv]
  have hp : Hid (val 18446744073709551616 [v] < pN) := hid (by rw [hval]; exact Nat.lt_trans hv (by decide))
  have HV := hid hval
  have HZ := hid hz0
  have HL := hid hl0
  clear hr0 e1 e2 hval hz0 hl0
  unfold o4 at *
  go_enter Tryd.func19, Tryd.ntmps19
  go_wp2_with fail
  refine (ofRest_c _ 1 _ [v] _ hr1 (by omega) hp hG0).mono ?_
  rintro e w1 ⟨r, rfl, hr, hb1⟩
  rw [HV.out] at hr
  have hz1 := HZ.out.below hb1 HZ.out.size
  have hl1 := HL.out.trans (hb1.mono HL.out.size)
  have R := hid hr
  obtain ⟨r0, r1, r2, r3, rfl, -, -, -⟩ := hr
  have z0 := hz1.c0
  have z1 := hz1.c1
  have z2 := hz1.c2
  have z3 := hz1.c3
  have fz := hz1.frozen
  clear hb1 hz1 hG0 hr1 HL HZ
  unfold w4
  go_wp2
  refine bodyPost_ret (by simp [results, Tryd.results19, go_sem, z0, z1, z2, z3]; rfl) rfl ?_
  exact ⟨_, rfl, R.out, by go_grown⟩

theorem rt_prime : Rt (l4 4891460686036598785 2896914383306846353 13281191951274694749 3486998266802970665) := rtB_of (by decide)
theorem val_prime : val 18446744073709551616 (l4 4891460686036598785 2896914383306846353 13281191951274694749 3486998266802970665) = pN := by decide

set_option maxRecDepth 20000 in
set_option maxHeartbeats 2000000 in
theorem fromWide_c (A : Option Addr) (n c : Nat) (b : List Nat) (w : World) (ha : Rd8 w w.heap.size A n b) (hn : n ≤ 1000) (hG : Glob w) :
    Calls Tryd.prog 16 #[.slice A n c] w fun e w' => ∃ r, e = .returned r ∧ El r (val 256 b % pN) ∧ Below w.heap.size w w' := by
  have hl0 : Below w.heap.size w ((w.alloc (o4 27 0 0 0 0)).alloc (o4 25 4891460686036598785 2896914383306846353 13281191951274694749 3486998266802970665)) := ((Below.refl w.heap.size w).alloc (Nat.le_refl _) _).alloc (by simp) _
  have hz0 := (o4_new w 27 0 0 0 0).alloc (o4 25 4891460686036598785 2896914383306846353 13281191951274694749 3486998266802970665)
  have hp0 := o4_new (w.alloc (o4 27 0 0 0 0)) 25 4891460686036598785 2896914383306846353 13281191951274694749 3486998266802970665
  rw [show (w.alloc (o4 27 0 0 0 0)).heap.size = w.heap.size + 1 by simp] at hp0
  have hr0 := hp0.rd prime4 hp0.size
  have HG := hid hG
  have HZ := hid hz0
  have HL := hid hl0
  have HR := hid hr0
  have g0 := hG.p0
  have g1 := hG.p1
  have g2 := hG.p2
  have g3 := hG.p3
  have szP := hG.sizeP
  clear hz0 hl0 hp0 hr0 hG
  unfold o4 at *
  go_enter Tryd.func16, Tryd.ntmps16
  go_wp2_with fail
  refine (new_some _ 4 4 _ _ HR.out rt_prime).mono ?_
  rintro e w1 ⟨p, rfl, hp, hM, hb1⟩
  have hz1 := HZ.out.below hb1 HZ.out.size
  have hl1 := HL.out.trans (hb1.mono HL.out.size)
  have ra1 := ha.up hl1 (Nat.le_refl _)
  clear g0 g1 g2 g3 HR HL HZ hb1 hp
  go_wp2_with fail
  refine (limbWords_c A n c b w1 ra1 hn).mono ?_
  rintro e w2 ⟨Ar, cr, lr, rfl, hcr, hr2, hv2, hb2⟩
  have hM2 := hM.keep hb2 hM.lt
  have hl2 := hl1.trans (hb2.mono hl1.size)
  have hz2 := hz1.below hb2 hz1.size
  have HV2 := hid hv2
  have HN : Hid ((n + 7) / 8 ≤ 5000) := hid (by omega)
  clear hv2 hM ra1 hb2 hz1
  generalize (n + 7) / 8 = m at *
  go_wp2_with fail
  refine (reduce_c Ar m cr p lr _ w2 hr2 hM2 HN.out).mono ?_
  rintro e w3 ⟨Ar3, cr3, lr3, rfl, hcr3, hr3, hv3, hb3⟩
  have hl3 := hl2.trans (hb3.mono hl2.size)
  have hz3 := hz2.below hb3 hz2.size
  have hG3 := HG.out.up hl3
  rw [HV2.out, val_prime] at hv3
  have HV3 := hid hv3
  have hp3 : Hid (val 18446744073709551616 lr3 < pN) := hid (by rw [hv3]; exact Nat.mod_lt _ pN_pos)
  clear hv3 hM2 hr2 hb3 hz2 hcr hcr3
  change Rd w3 _ Ar3 4 lr3 at hr3
  go_wp2_with fail
  refine (ofRest_c Ar3 4 cr3 lr3 w3 hr3 (Nat.le_refl _) hp3 hG3).mono ?_
  rintro e w4 ⟨r, rfl, hr, hb4⟩
  rw [HV3.out] at hr
  have hz4 := hz3.below hb4 hz3.size
  have hl4 := hl3.trans (hb4.mono hl3.size)
  have R := hid hr
  obtain ⟨r0, r1, r2, r3, rfl, -, -, -⟩ := hr
  have z0 := hz4.c0
  have z1 := hz4.c1
  have z2 := hz4.c2
  have z3 := hz4.c3
  have fz := hz4.frozen
  clear hb4 hz4 hz3 hG3 hr3 hl1 hl2 hl3
  unfold Go.Proofs.YtjkellpfoogomaaDoor.w4
  go_wp2
  refine bodyPost_ret (by simp [results, Tryd.results16, go_sem, z0, z1, z2, z3]; rfl) rfl ?_
  exact ⟨_, rfl, R.out, by go_grown⟩
end Go.Proofs.YtjkellpfoogomaaDoor
