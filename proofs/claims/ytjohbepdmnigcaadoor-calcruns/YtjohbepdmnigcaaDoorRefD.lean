import Derived.Test.YtjohbepdmnigcaaDoorFldE
import Derived.Test.YtjohbepdmnigcaaDoorLOps
import Derived.Deep.RegionLaw
import Derived.BigRegion
/-
  field.FromUint64, FromWide: what each call does.
-/
namespace Go.Proofs.YtjohbepdmnigcaaDoor
open Go.RowKit
set_option linter.unusedVariables false

theorem rdw_one (w : World) (v : Nat) (hv : v < 18446744073709551616) : Rd (w.alloc (.cells #[.int .u64 (v : Int)] 37)) (w.heap.size + 1) (some ⟨w.heap.size, 0, none⟩) 1 [v] := by
  refine ⟨rfl, fun x hx => by simp at hx; omega, fun _ => ⟨w.heap.size, 0, rfl, by omega, fun i hi => ?_⟩⟩
  have : i = 0 := by omega
  subst this
  rw [cell_of_row _ w.heap.size 0 #[.int .u64 (v : Int)] 37 (0, 0) (heap_alloc_new w _)]
  rfl

set_option maxRecDepth 20000 in
set_option maxHeartbeats 1000000 in
theorem fromUint64_c (v : Nat) (w : World) (hv : v < 18446744073709551616) (hG : Glob w) :
    Calls Tryd.prog 14 #[.int .u64 (v : Int)] w fun e w' => ∃ r, e = .returned r ∧ El r v ∧ Below w.heap.size w w' := by
  have hl0 : Below w.heap.size w ((w.alloc (o4 40 0 0 0 0)).alloc (.cells #[.int .u64 (v : Int)] 37)) := ((Below.refl w.heap.size w).alloc (Nat.le_refl _) _).alloc (by simp) _
  have hz0 := (o4_new w 40 0 0 0 0).alloc (.cells #[.int .u64 (v : Int)] 37)
  have hr0 := rdw_one (w.alloc (o4 40 0 0 0 0)) v hv
  have hG0 := hG.up hl0
  have e1 : (w.alloc (o4 40 0 0 0 0)).heap.size = w.heap.size + 1 := by simp
  have e2 : ((w.alloc (o4 40 0 0 0 0)).alloc (.cells #[.int .u64 (v : Int)] 37)).heap.size = w.heap.size + 1 + 1 := by simp
  rw [e1] at hr0
  have hr1 : Rd ((w.alloc (o4 40 0 0 0 0)).alloc (.cells #[.int .u64 (v : Int)] 37)) ((w.alloc (o4 40 0 0 0 0)).alloc (.cells #[.int .u64 (v : Int)] 37)).heap.size (some ⟨w.heap.size + 1, 0, none⟩) 1 [v] := by rw [e2]; exact hr0
  have hval : val 18446744073709551616 [v] = v := by simp [val, pv]
  have hp : Hid (val 18446744073709551616 [v] < pN) := hid (by rw [hval]; exact Nat.lt_trans hv (by decide))
  have HV := hid hval
  have HZ := hid hz0
  have HL := hid hl0
  clear hr0 e1 e2 hval hz0 hl0
  unfold o4 at *
  go_enter Tryd.func14, Tryd.ntmps14
  go_wp2_with fail
  refine (ofRest_c _ 1 _ [v] _ hr1 (by omega) hp hG0).mono ?_
  rintro e w1 ⟨r, rfl, hr, hb1⟩
  rw [HV.out] at hr
  have hz1 := HZ.out.below hb1 HZ.out.size
  have hl1 := HL.out.trans (hb1.mono HL.out.size)
  have R := hid hr
  obtain ⟨r0, r1, r2, r3, rfl, -, -, -⟩ := hr
  have z0 := hz1.c0
  have z1 := hz1.c1
  have z2 := hz1.c2
  have z3 := hz1.c3
  have fz := hz1.frozen
  clear hb1 hz1 hG0 hr1 HL HZ
  unfold w4
  go_wp2
  refine bodyPost_ret (by simp [results, Tryd.results14, go_sem, z0, z1, z2, z3]; rfl) rfl ?_
  exact ⟨_, rfl, R.out, by go_grown⟩

theorem rt_prime : Rt (l4 4891460686036598785 2896914383306846353 13281191951274694749 3486998266802970665) := rtB_of (by decide)
theorem val_prime : val 18446744073709551616 (l4 4891460686036598785 2896914383306846353 13281191951274694749 3486998266802970665) = pN := by decide

end Go.Proofs.YtjohbepdmnigcaaDoor
/-
  avouchref01.Digits, Sub: what each call does.
-/
namespace Go.Proofs.YtjohbepdmnigcaaDoor
open Go.RowKit
set_option linter.unusedVariables false

theorem digits_step (p x P : Nat) : p + x % 4294967296 * P + x / 4294967296 * (P * 4294967296) = p + x * P := by
  have : (x % 4294967296 + 4294967296 * (x / 4294967296)) * P = x * P := by rw [Nat.mod_add_div]
  grind

theorem two_cells (w : World) (X Y : Int) (m n : Nat) (hX : X = (m : Int)) (hY : Y = (n : Int)) (i : Nat) (hi : i < [m, n].length) :
    (w.alloc (.cells #[.int .u64 X, .int .u64 Y] 37)).drew.cell? ⟨w.heap.size, i, none⟩ = some (.int .u64 (at64 [m, n] i)) := by
  subst hX hY
  show (w.alloc (.cells #[.int .u64 (m : Int), .int .u64 (n : Int)] 37)).cell? ⟨w.heap.size, i, none⟩ = _
  have : i = 0 ∨ i = 1 := by simp at hi; omega
  rcases this with rfl | rfl <;> simp [at64]

set_option maxHeartbeats 400000 in
theorem digits_c (A : Option Addr) (n c : Nat) (l : List Nat) (w : World) (ha : Rd w w.heap.size A n l) (hn : n ≤ 2000) :
    Calls Tryd.prog 24 #[.slice A n c] w fun e w' => Dig w e w' (val 18446744073709551616 l) := by
  have hmk := make64I 0 (2 * n) (Nat.zero_le _) (by omega) 0 (2 * (n : Int)) rfl (by omega)
  go_enter Tryd.func24, Tryd.ntmps24
  go_wp2
  clear hmk
  go_loopw [3, 4] (fun v i wr => ∃ k : Nat, ∃ d : List Nat, k ≤ n ∧ i = .int .i64 k ∧ Hid (d.length = 2 * k) ∧ OwnW wr w.heap.size v d ∧ Hid (D32 d) ∧ Below w.heap.size w wr ∧ Hid (val 4294967296 d = pv 18446744073709551616 l k)) (fun _ i _ => n - (intOf i).toNat)
  case atStart => exact ⟨0, [], Nat.zero_le _, rfl, rfl, own_made w (2 * n) (by omega), fun x hx => by simp at hx, (Below.refl _ _).alloc (Nat.le_refl _) _, rfl⟩
  case round =>
    obtain ⟨k, d, hk, rfl, HL, hown, HD, hbl, HE⟩ := hrel
    by_cases hlt : k < n
    · have ra := ha.below hbl (Nat.le_refl _)
      obtain ⟨ba, oa, rfl, hba, hca⟩ := ra.at_ hlt
      have h1 := at64_nonneg l k
      have h1' := at64_lt ha.lt k
      have hsz := hbl.size
      have hl' : d.length ≤ 100000 := by rw [HL.out]; omega
      have hi0 : (0 : Int) ≤ (k : Int) := by omega
      have hi1 : (k : Int) < (n : Int) := by omega
      have HX : Hid ((at64 l k).tmod 4294967296 = ((l.getD k 0 % 4294967296 : Nat) : Int)) := by
        show _ = _; rw [Int.tmod_eq_emod_of_nonneg h1]; unfold at64; omega
      have HY : Hid (IntKind.u64.wrap ((at64 l k).tdiv 4294967296) = ((l.getD k 0 / 4294967296 : Nat) : Int)) := by
        show _ = _; rw [Int.tdiv_eq_ediv_of_nonneg h1, IntKind.wrap_u64]; unfold at64 at h1' ⊢; omega
      have HNL : Hid (allLt [l.getD k 0 % 4294967296, l.getD k 0 / 4294967296]) := by
        have : l.getD k 0 < 18446744073709551616 := by unfold at64 at h1'; omega
        intro x hx
        simp only [List.mem_cons, List.not_mem_nil, or_false] at hx; omega
      go_wp2
      go_region_law (refine step_append_words rfl (.tmp 15) (.tmp 26) rfl w.heap.size u3 d (by simp [Act.eval]) (by exact (hown.alloc _).drew) wr.heap.size 2 [l.getD k 0 % 4294967296, l.getD k 0 / 4294967296] HNL.out (by simp [Act.eval]) (two_cells wr _ _ _ _ HX.out HY.out) (by simp; omega) (by simp; omega) ?_; intro v' w' hown' hb')
      all_goals
        have hb2 : Below w.heap.size w w' := (hbl.alloc hsz _).drew.trans hb'
        have HL2 : Hid ((d ++ [l.getD k 0 % 4294967296, l.getD k 0 / 4294967296]).length = 2 * (k + 1)) := by
          show _ = _; rw [List.length_append, HL.out]; simp; omega
        have HD2 : Hid (D32 (d ++ [l.getD k 0 % 4294967296, l.getD k 0 / 4294967296])) := by
          have : l.getD k 0 < 18446744073709551616 := by unfold at64 at h1'; omega
          intro x hx
          rcases List.mem_append.1 hx with h | h
          · exact HD.out x h
          · simp only [List.mem_cons, List.not_mem_nil, or_false] at h; omega
        have HE2 : Hid (val 4294967296 (d ++ [l.getD k 0 % 4294967296, l.getD k 0 / 4294967296]) = pv 18446744073709551616 l (k + 1)) := by
          show _ = _
          rw [show d ++ [l.getD k 0 % 4294967296, l.getD k 0 / 4294967296] = (d ++ [l.getD k 0 % 4294967296]) ++ [l.getD k 0 / 4294967296] by simp]
          rw [val_append, val_append, List.length_append, HL.out, pv_succ, HE.out, pow64, List.length_singleton, Nat.pow_succ]
          exact digits_step _ _ _
        go_wp2
        go_roundw
        case rel => exact ⟨k + 1, _, by omega, by go_num, HL2, hown', HD2, hb2, HE2⟩
        case measure => simp [intOf]; omega
    · have hkn : k = n := by omega
      have HV : Hid (val 4294967296 d = val 18446744073709551616 l) := by
        show _ = _
        rw [HE.out, hkn, pv_out _ _ _ (by rw [ha.len]; omega)]
      have hl' : d.length ≤ 100000 := by rw [HL.out]; omega
      clear hkn
      go_wp2_with fail
      refine (trim_own (w := w) hown HD.out hbl hl').mono ?_
      rintro e w' hD
      rw [HV.out] at hD
      obtain ⟨A', c', l', rfl, r'⟩ := hD
      have R := hid r'
      clear r'
      go_wp2
      go_ret
      exact ⟨A', c', l', rfl, R.out⟩
end Go.Proofs.YtjohbepdmnigcaaDoor
