import Derived.Test.YtjkellpfoogomaaDoorFldG
import Derived.Test.YtjkellpfoogomaaDoorRefC
import Derived.Deep.RegionLaw
import Derived.BigRegion
/-
  field.Prime, (Element).Bytes: what each call does.
-/
namespace Go.Proofs.YtjkellpfoogomaaDoor
open Go.RowKit
set_option linter.unusedVariables false

set_option maxRecDepth 20000 in
set_option maxHeartbeats 2000000 in
theorem prime_c (w : World) (hG : Glob w) :
    Calls Tryd.prog 11 #[] w fun e w' => ∃ r, e = .returned r ∧ By r pN ∧ Below w.heap.size w w' := by
  have hZ0 := o32_new w 34
  have hl0 := (Below.refl w.heap.size w).alloc (Nat.le_refl _) (o32 34)
  have hG0 := hG.up hl0
  have g0 := hG.p0
  have g1 := hG.p1
  have g2 := hG.p2
  have g3 := hG.p3
  have szP := hG.sizeP
  have HZ := hid hZ0
  have HL := hid hl0
  clear hZ0 hl0 hG0 hG
  go_enter Tryd.func11, Tryd.ntmps11
  go_wp2_with fail
  refine (bytesOf_c _ _ _ _ _ prime4 pN (hid (n4_prime.trans prm_eq))).mono ?_
  rintro e w1 ⟨r, rfl, hr, hb1⟩
  have hl1 := HL.out.trans (Below.mono (B' := w.heap.size) hb1 HL.out.size)
  have hZ1 : BlkB w1 w.heap.size 34 (List.replicate 32 0) := HZ.out.below hb1 HZ.out.size
  have HR := hid hr
  obtain ⟨lr, rfl, hl, _, _⟩ := hr
  have hlen : (cells8 lr).length = 32 := by simp [cells8, hl]
  have hth := hZ1.there
  have hran := hid (World.rangeAt_setCells_same w1 w.heap.size 0 (cells8 lr) (by rw [hlen]; exact hth))
  have hst := store8 w.heap.size lr w1 (by rw [hl]; exact hth)
  have HE := hid hlen
  clear hb1 hZ1 hth HL HZ g0 g1 g2 g3 hl
  go_wp2
  refine bodyPost_ret (results_cell1 Tryd.results11 ⟨w.heap.size, 0, none⟩ _ rfl (run_loadVar_mid _ w.heap.size 0 34 (cells8 lr) _ hran.out Tryd.underlying34 rfl (size32.trans (congrArg some HE.out.symm)))) rfl ?_
  exact ⟨_, rfl, HR.out, below_cells (Nat.le_refl _) _ _ _ hl1⟩

theorem one4 : W4 1 0 0 0 := ⟨⟨by decide, by decide⟩, ⟨by decide, by decide⟩, ⟨by decide, by decide⟩, ⟨by decide, by decide⟩⟩
theorem el_back {r0 r1 r2 r3 : Int} {x : Nat} {A : Int} (hx : x < pN) (hW : W4 r0 r1 r2 r3) (h1 : n4 r0 r1 r2 r3 < prm) (hA : A = ((mo x : Nat) : Int))
    (h : ∃ T : Int, n4 r0 r1 r2 r3 * 115792089237316195423570985008687907853269984665640564039457584007913129639936 = A * n4 1 0 0 0 + prm * T) : n4 r0 r1 r2 r3 = (x : Int) := by
  obtain ⟨n, e, hn⟩ := nat_of (n4_nonneg hW) h1
  obtain ⟨T, h⟩ := h
  rw [e, hA, show n4 1 0 0 0 = ((1 : Nat) : Int) by decide] at h
  rw [e]
  exact_mod_cast mo_back hn hx (int_mod h)

set_option maxRecDepth 20000 in
set_option maxHeartbeats 2000000 in
theorem ebytes_c (u : Value) (x : Nat) (w : World) (hu : El u x) (hG : Glob w) :
    Calls Tryd.prog 15 #[u] w fun e w' => ∃ r, e = .returned r ∧ By r x ∧ Below w.heap.size w w' := by
  obtain ⟨a0, a1, a2, a3, rfl, ha, hx, ea⟩ := hu
  have EA := hid ea
  have pa : Hid (n4 a0 a1 a2 a3 < prm) := hid (by rw [ea]; exact mo_prm x)
  have HX := hid hx
  have hZ0 := o32_new (w.alloc (o4 27 a0 a1 a2 a3)) 34
  have hl0 := ((Below.refl w.heap.size w).alloc (Nat.le_refl _) (o4 27 a0 a1 a2 a3)).alloc (by simp) (o32 34)
  rw [show (w.alloc (o4 27 a0 a1 a2 a3)).heap.size = w.heap.size + 1 by simp] at hZ0
  have hG0 := hG.up hl0
  have HZ := hid hZ0
  have HL := hid hl0
  clear ea hx hZ0 hl0
  unfold w4
  go_enter Tryd.func15, Tryd.ntmps15
  go_wp2_with fail
  refine (product_c a0 a1 a2 a3 1 0 0 0 _ ha one4 hG0 pa).mono ?_
  rintro e w1 ⟨r0, r1, r2, r3, rfl, hr, hlt, hT, hb1⟩
  have HB := hid (el_back HX.out hr hlt EA.out hT)
  have hl1 := HL.out.trans (Below.mono (B' := w.heap.size) hb1 HL.out.size)
  have hZ1 : BlkB w1 (w.heap.size + 1) 34 (List.replicate 32 0) := HZ.out.below hb1 HZ.out.size
  clear hlt hT hb1 hG0 ha HZ HL
  unfold w4
  go_wp2_with fail
  refine (bytesOf_c r0 r1 r2 r3 w1 hr x HB).mono ?_
  rintro e w2 ⟨r, rfl, hr2, hb2⟩
  have hl2 := hl1.trans (hb2.mono hl1.size)
  have hZ2 : BlkB w2 (w.heap.size + 1) 34 (List.replicate 32 0) := hZ1.below hb2 hZ1.size
  have HR := hid hr2
  obtain ⟨lr, rfl, hl, _, _⟩ := hr2
  have hlen : (cells8 lr).length = 32 := by simp [cells8, hl]
  have hth := hZ2.there
  have hran := hid (World.rangeAt_setCells_same w2 (w.heap.size + 1) 0 (cells8 lr) (by rw [hlen]; exact hth))
  have hst := store8 (w.heap.size + 1) lr w2 (by rw [hl]; exact hth)
  have HE := hid hlen
  clear hb2 hZ1 hZ2 hth hl hr hl1
  go_wp2
  refine bodyPost_ret (results_cell1 Tryd.results15 ⟨w.heap.size + 1, 0, none⟩ _ rfl (run_loadVar_mid _ (w.heap.size + 1) 0 34 (cells8 lr) _ hran.out Tryd.underlying34 rfl (size32.trans (congrArg some HE.out.symm)))) rfl ?_
  exact ⟨_, rfl, HR.out, below_cells (by omega) _ _ _ hl2⟩
end Go.Proofs.YtjkellpfoogomaaDoor
/-
  avouchref01.Digits, Sub: what each call does.
-/
namespace Go.Proofs.YtjkellpfoogomaaDoor
open Go.RowKit
set_option linter.unusedVariables false

theorem digits_step (p x P : Nat) : p + x % 4294967296 * P + x / 4294967296 * (P * 4294967296) = p + x * P := by
  have : (x % 4294967296 + 4294967296 * (x / 4294967296)) * P = x * P := by rw [Nat.mod_add_div]
  grind

theorem two_cells (w : World) (X Y : Int) (m n : Nat) (hX : X = (m : Int)) (hY : Y = (n : Int)) (i : Nat) (hi : i < [m, n].length) :
    (w.alloc (.cells #[.int .u64 X, .int .u64 Y] 23)).drew.cell? ⟨w.heap.size, i, none⟩ = some (.int .u64 (at64 [m, n] i)) := by
  subst hX hY
  show (w.alloc (.cells #[.int .u64 (m : Int), .int .u64 (n : Int)] 23)).cell? ⟨w.heap.size, i, none⟩ = _
  have : i = 0 ∨ i = 1 := by simp at hi; omega
  rcases this with rfl | rfl <;> simp [at64]

set_option maxHeartbeats 400000 in
theorem digits_c (A : Option Addr) (n c : Nat) (l : List Nat) (w : World) (ha : Rd w w.heap.size A n l) (hn : n ≤ 2000) :
    Calls Tryd.prog 35 #[.slice A n c] w fun e w' => Dig w e w' (val 18446744073709551616 l) := by
  have hmk := make64I 0 (2 * n) (Nat.zero_le _) (by omega) 0 (2 * (n : Int)) rfl (by omega)
  go_enter Tryd.func35, Tryd.ntmps35
  go_wp2
  clear hmk
  go_loopw [3, 4] (fun v i wr => ∃ k : Nat, ∃ d : List Nat, k ≤ n ∧ i = .int .i64 k ∧ Hid (d.length = 2 * k) ∧ OwnW wr w.heap.size v d ∧ Hid (D32 d) ∧ Below w.heap.size w wr ∧ Hid (val 4294967296 d = pv 18446744073709551616 l k)) (fun _ i _ => n - (intOf i).toNat)
  case atStart => exact ⟨0, [], Nat.zero_le _, rfl, rfl, own_made w (2 * n) (by omega), fun x hx => by simp at hx, (Below.refl _ _).alloc (Nat.le_refl _) _, rfl⟩
  case round =>
    obtain ⟨k, d, hk, rfl, HL, hown, HD, hbl, HE⟩ := hrel
    by_cases hlt : k < n
    · have ra := ha.below hbl (Nat.le_refl _)
      obtain ⟨ba, oa, rfl, hba, hca⟩ := ra.at_ hlt
      have h1 := at64_nonneg l k
      have h1' := at64_lt ha.lt k
      have hsz := hbl.size
      have hl' : d.length ≤ 100000 := by rw [HL.out]; omega
      have hi0 : (0 : Int) ≤ (k : Int) := by omega
      have hi1 : (k : Int) < (n : Int) := by omega
      have HX : Hid ((at64 l k).tmod 4294967296 = ((l.getD k 0 % 4294967296 : Nat) : Int)) := by
        show _ = _; rw [Int.tmod_eq_emod_of_nonneg h1]; unfold at64; omega
      have HY : Hid (IntKind.u64.wrap ((at64 l k).tdiv 4294967296) = ((l.getD k 0 / 4294967296 : Nat) : Int)) := by
        show _ = _; rw [Int.tdiv_eq_ediv_of_nonneg h1, IntKind.wrap_u64]; unfold at64 at h1' ⊢; omega
      have HNL : Hid (allLt [l.getD k 0 % 4294967296, l.getD k 0 / 4294967296]) := by
        have : l.getD k 0 < 18446744073709551616 := by unfold at64 at h1'; omega
        intro x hx
        simp only [List.mem_cons, List.not_mem_nil, or_false] at hx; omega
      go_wp2
      go_region_law (refine step_append_words rfl (.tmp 15) (.tmp 26) rfl w.heap.size u3 d (by simp [Act.eval]) (by exact (hown.alloc _).drew) wr.heap.size 2 [l.getD k 0 % 4294967296, l.getD k 0 / 4294967296] HNL.out (by simp [Act.eval]) (two_cells wr _ _ _ _ HX.out HY.out) (by simp; omega) (by simp; omega) ?_; intro v' w' hown' hb')
      all_goals
        have hb2 : Below w.heap.size w w' := (hbl.alloc hsz _).drew.trans hb'
        have HL2 : Hid ((d ++ [l.getD k 0 % 4294967296, l.getD k 0 / 4294967296]).length = 2 * (k + 1)) := by
          show _ = _; rw [List.length_append, HL.out]; simp; omega
        have HD2 : Hid (D32 (d ++ [l.getD k 0 % 4294967296, l.getD k 0 / 4294967296])) := by
          have : l.getD k 0 < 18446744073709551616 := by unfold at64 at h1'; omega
          intro x hx
          rcases List.mem_append.1 hx with h | h
          · exact HD.out x h
          · simp only [List.mem_cons, List.not_mem_nil, or_false] at h; omega
        have HE2 : Hid (val 4294967296 (d ++ [l.getD k 0 % 4294967296, l.getD k 0 / 4294967296]) = pv 18446744073709551616 l (k + 1)) := by
          show _ = _
          rw [show d ++ [l.getD k 0 % 4294967296, l.getD k 0 / 4294967296] = (d ++ [l.getD k 0 % 4294967296]) ++ [l.getD k 0 / 4294967296] by simp]
          rw [val_append, val_append, List.length_append, HL.out, pv_succ, HE.out, pow64, List.length_singleton, Nat.pow_succ]
          exact digits_step _ _ _
        go_wp2
        go_roundw
        case rel => exact ⟨k + 1, _, by omega, by go_num, HL2, hown', HD2, hb2, HE2⟩
        case measure => simp [intOf]; omega
    · have hkn : k = n := by omega
      have HV : Hid (val 4294967296 d = val 18446744073709551616 l) := by
        show _ = _
        rw [HE.out, hkn, pv_out _ _ _ (by rw [ha.len]; omega)]
      have hl' : d.length ≤ 100000 := by rw [HL.out]; omega
      clear hkn
      go_wp2_with fail
      refine (trim_own (w := w) hown HD.out hbl hl').mono ?_
      rintro e w' hD
      rw [HV.out] at hD
      obtain ⟨A', c', l', rfl, r'⟩ := hD
      have R := hid r'
      clear r'
      go_wp2
      go_ret
      exact ⟨A', c', l', rfl, R.out⟩
end Go.Proofs.YtjkellpfoogomaaDoor
