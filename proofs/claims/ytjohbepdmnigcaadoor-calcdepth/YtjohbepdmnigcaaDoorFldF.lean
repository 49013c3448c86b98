/-
  field.FromUint64, FromWide: what each call does.
-/
import Derived.Test.YtjohbepdmnigcaaDoorFldE
namespace Go.Proofs.YtjohbepdmnigcaaDoor
open Go.RowKit
set_option linter.unusedVariables false

theorem rdw_one (w : World) (v : Nat) (hv : v < 18446744073709551616) : Rd (w.alloc (.cells #[.int .u64 (v : Int)] 37)) (w.heap.size + 1) (some ⟨w.heap.size, 0, none⟩) 1 [v] := by
  refine ⟨rfl, fun x hx => by simp at hx; omega, fun _ => ⟨w.heap.size, 0, rfl, by omega, fun i hi => ?_⟩⟩
  have : i = 0 := by omega
  subst this
  rw [cell_of_row _ w.heap.size 0 #[.int .u64 (v : Int)] 37 (0, 0) (heap_alloc_new w _)]
  rfl

set_option maxRecDepth 20000 in
set_option maxHeartbeats 1000000 in
theorem fromUint64_c (v : Nat) (w : World) (hv : v < 18446744073709551616) (hG : Glob w) :
    Calls Tryd.prog 14 #[.int .u64 (v : Int)] w fun e w' => ∃ r, e = .returned r ∧ El r v ∧ Below w.heap.size w w' := by
  have hl0 : Below w.heap.size w ((w.alloc (o4 40 0 0 0 0)).alloc (.cells #[.int .u64 (v : Int)] 37)) := ((Below.refl w.heap.size w).alloc (Nat.le_refl _) _).alloc (by simp) _
  have hz0 := (o4_new w 40 0 0 0 0).alloc (.cells #[.int .u64 (v : Int)] 37)
  have hr0 := rdw_one (w.alloc (o4 40 0 0 0 0)) v hv
  have hG0 := hG.up hl0
  have e1 : (w.alloc (o4 40 0 0 0 0)).heap.size = w.heap.size + 1 := by simp
  have e2 : ((w.alloc (o4 40 0 0 0 0)).alloc (.cells #[.int .u64 (v : Int)] 37)).heap.size = w.heap.size + 1 + 1 := by simp
  rw [e1] at hr0
  have hr1 : Rd ((w.alloc (o4 40 0 0 0 0)).alloc (.cells #[.int .u64 (v : Int)] 37)) ((w.alloc (o4 40 0 0 0 0)).alloc (.cells #[.int .u64 (v : Int)] 37)).heap.size (some ⟨w.heap.size + 1, 0, none⟩) 1 [v] := by rw [e2]; exact hr0
  have hval : val 18446744073709551616 [v] = v := by simp [val, pv]
  have hp : Hid (val 18446744073709551616 [v] < pN) := hid (by rw [hval]; exact Nat.lt_trans hv (by decide))
  have HV := hid hval
  have HZ := hid hz0
  have HL := hid hl0
  clear hr0 e1 e2 hval hz0 hl0
  unfold o4 at *
  go_enter Tryd.func14, Tryd.ntmps14
  go_wp2_with fail
  refine (ofRest_c _ 1 _ [v] _ hr1 (by omega) hp hG0).mono ?_
  rintro e w1 ⟨r, rfl, hr, hb1⟩
  rw [HV.out] at hr
  have hz1 := HZ.out.below hb1 HZ.out.size
  have hl1 := HL.out.trans (hb1.mono HL.out.size)
  have R := hid hr
  obtain ⟨r0, r1, r2, r3, rfl, -, -, -⟩ := hr
  have z0 := hz1.c0
  have z1 := hz1.c1
  have z2 := hz1.c2
  have z3 := hz1.c3
  have fz := hz1.frozen
  clear hb1 hz1 hG0 hr1 HL HZ
  unfold w4
  go_wp2
  refine bodyPost_ret (by simp [results, Tryd.results14, go_sem, z0, z1, z2, z3]; rfl) rfl ?_
  exact ⟨_, rfl, R.out, by go_grown⟩

theorem rt_prime : Rt (l4 4891460686036598785 2896914383306846353 13281191951274694749 3486998266802970665) := rtB_of (by decide)
theorem val_prime : val 18446744073709551616 (l4 4891460686036598785 2896914383306846353 13281191951274694749 3486998266802970665) = pN := by decide

end Go.Proofs.YtjohbepdmnigcaaDoor
