import Derived.Test.YtfonpmahcdmajaaDoorRefC
import Derived.Deep.RegionLaw
import Derived.BigRegion
/-
  avouchref01.Digits, Sub: what each call does.
-/
namespace Go.Proofs.YtfonpmahcdmajaaDoor
open Go.RowKit
set_option linter.unusedVariables false

theorem digits_step (p x P : Nat) : p + x % 4294967296 * P + x / 4294967296 * (P * 4294967296) = p + x * P := by
  have : (x % 4294967296 + 4294967296 * (x / 4294967296)) * P = x * P := by rw [Nat.mod_add_div]
  grind

theorem two_cells (w : World) (X Y : Int) (m n : Nat) (hX : X = (m : Int)) (hY : Y = (n : Int)) (i : Nat) (hi : i < [m, n].length) :
    (w.alloc (.cells #[.int .u64 X, .int .u64 Y] 22)).drew.cell? ⟨w.heap.size, i, none⟩ = some (.int .u64 (at64 [m, n] i)) := by
  subst hX hY
  show (w.alloc (.cells #[.int .u64 (m : Int), .int .u64 (n : Int)] 22)).cell? ⟨w.heap.size, i, none⟩ = _
  have : i = 0 ∨ i = 1 := by simp at hi; omega
  rcases this with rfl | rfl <;> simp [at64]

set_option maxHeartbeats 400000 in
theorem digits_c (A : Option Addr) (n c : Nat) (l : List Nat) (w : World) (ha : Rd w w.heap.size A n l) (hn : n ≤ 2000) :
    Calls Tryd.prog 69 #[.slice A n c] w fun e w' => Dig w e w' (val 18446744073709551616 l) := by
  have hmk := make64I 0 (2 * n) (Nat.zero_le _) (by omega) 0 (2 * (n : Int)) rfl (by omega)
  go_enter Tryd.func69, Tryd.ntmps69
  go_wp2
  clear hmk
  go_loopw [3, 4] (fun v i wr => ∃ k : Nat, ∃ d : List Nat, k ≤ n ∧ i = .int .i64 k ∧ Hid (d.length = 2 * k) ∧ OwnW wr w.heap.size v d ∧ Hid (D32 d) ∧ Below w.heap.size w wr ∧ Hid (val 4294967296 d = pv 18446744073709551616 l k)) (fun _ i _ => n - (intOf i).toNat)
  case atStart => exact ⟨0, [], Nat.zero_le _, rfl, rfl, own_made w (2 * n) (by omega), fun x hx => by simp at hx, (Below.refl _ _).alloc (Nat.le_refl _) _, rfl⟩
  case round =>
    obtain ⟨k, d, hk, rfl, HL, hown, HD, hbl, HE⟩ := hrel
    by_cases hlt : k < n
    · have ra := ha.below hbl (Nat.le_refl _)
      obtain ⟨ba, oa, rfl, hba, hca⟩ := ra.at_ hlt
      have h1 := at64_nonneg l k
      have h1' := at64_lt ha.lt k
      have hsz := hbl.size
      have hl' : d.length ≤ 100000 := by rw [HL.out]; omega
      have hi0 : (0 : Int) ≤ (k : Int) := by omega
      have hi1 : (k : Int) < (n : Int) := by omega
      have HX : Hid ((at64 l k).tmod 4294967296 = ((l.getD k 0 % 4294967296 : Nat) : Int)) := by
        show _ = _; rw [Int.tmod_eq_emod_of_nonneg h1]; unfold at64; omega
      have HY : Hid (IntKind.u64.wrap ((at64 l k).tdiv 4294967296) = ((l.getD k 0 / 4294967296 : Nat) : Int)) := by
        show _ = _; rw [Int.tdiv_eq_ediv_of_nonneg h1, IntKind.wrap_u64]; unfold at64 at h1' ⊢; omega
      have HNL : Hid (allLt [l.getD k 0 % 4294967296, l.getD k 0 / 4294967296]) := by
        have : l.getD k 0 < 18446744073709551616 := by unfold at64 at h1'; omega
        intro x hx
        simp only [List.mem_cons, List.not_mem_nil, or_false] at hx; omega
      go_wp2
      go_region_law (refine step_append_words rfl (.tmp 15) (.tmp 26) rfl w.heap.size u3 d (by simp [Act.eval]) (by exact (hown.alloc _).drew) wr.heap.size 2 [l.getD k 0 % 4294967296, l.getD k 0 / 4294967296] HNL.out (by simp [Act.eval]) (two_cells wr _ _ _ _ HX.out HY.out) (by simp; omega) (by simp; omega) ?_; intro v' w' hown' hb')
      all_goals
        have hb2 : Below w.heap.size w w' := (hbl.alloc hsz _).drew.trans hb'
        have HL2 : Hid ((d ++ [l.getD k 0 % 4294967296, l.getD k 0 / 4294967296]).length = 2 * (k + 1)) := by
          show _ = _; rw [List.length_append, HL.out]; simp; omega
        have HD2 : Hid (D32 (d ++ [l.getD k 0 % 4294967296, l.getD k 0 / 4294967296])) := by
          have : l.getD k 0 < 18446744073709551616 := by unfold at64 at h1'; omega
          intro x hx
          rcases List.mem_append.1 hx with h | h
          · exact HD.out x h
          · simp only [List.mem_cons, List.not_mem_nil, or_false] at h; omega
        have HE2 : Hid (val 4294967296 (d ++ [l.getD k 0 % 4294967296, l.getD k 0 / 4294967296]) = pv 18446744073709551616 l (k + 1)) := by
          show _ = _
          rw [show d ++ [l.getD k 0 % 4294967296, l.getD k 0 / 4294967296] = (d ++ [l.getD k 0 % 4294967296]) ++ [l.getD k 0 / 4294967296] by simp]
          rw [val_append, val_append, List.length_append, HL.out, pv_succ, HE.out, pow64, List.length_singleton, Nat.pow_succ]
          exact digits_step _ _ _
        go_wp2
        go_roundw
        case rel => exact ⟨k + 1, _, by omega, by go_num, HL2, hown', HD2, hb2, HE2⟩
        case measure => simp [intOf]; omega
    · have hkn : k = n := by omega
      have HV : Hid (val 4294967296 d = val 18446744073709551616 l) := by
        show _ = _
        rw [HE.out, hkn, pv_out _ _ _ (by rw [ha.len]; omega)]
      have hl' : d.length ≤ 100000 := by rw [HL.out]; omega
      clear hkn
      go_wp2_with fail
      refine (trim_own (w := w) hown HD.out hbl hl').mono ?_
      rintro e w' hD
      rw [HV.out] at hD
      obtain ⟨A', c', l', rfl, r'⟩ := hD
      have R := hid r'
      clear r'
      go_wp2
      go_ret
      exact ⟨A', c', l', rfl, R.out⟩
end Go.Proofs.YtfonpmahcdmajaaDoor
/-
  avouchref01.Sub: what the call does.
-/
namespace Go.Proofs.YtfonpmahcdmajaaDoor
open Go.RowKit
set_option linter.unusedVariables false

theorem rsub_word (x y c : Nat) (hx : x < 4294967296) (hy : y < 4294967296) (hc : c ≤ 1) :
    (4294967296 + x - y - c) % 4294967296 + y + c = x + (1 - (4294967296 + x - y - c) / 4294967296) * 4294967296 ∧ 1 - (4294967296 + x - y - c) / 4294967296 ≤ 1 := by omega

set_option maxHeartbeats 400000 in
theorem refSub_c (A B : Option Addr) (na nb ca cb : Nat) (la lb : List Nat) (w : World) (ha : Rd w w.heap.size A na la) (hb : Rd w w.heap.size B nb lb) (da : D32 la) (db : D32 lb) (hna : na ≤ 10000)
    (hle : val 4294967296 lb ≤ val 4294967296 la) :
    Calls Tryd.prog 38 #[.slice A na ca, .slice B nb cb] w fun e w' => Dig w e w' (val 4294967296 la - val 4294967296 lb) := by
  have hmk := make64I 0 na (Nat.zero_le _) (by omega) 0 (na : Int) rfl rfl
  go_enter Tryd.func38, Tryd.ntmps38
  go_wp2
  clear hmk
  go_loopw [5, 6, 7] (fun v c i wr => ∃ k q : Nat, ∃ l : List Nat, k ≤ na ∧ i = .int .i64 k ∧ c = .int .u64 q ∧ Hid (l.length = k) ∧ OwnW wr w.heap.size v l ∧ Hid (D32 l) ∧ Below w.heap.size w wr ∧ q ≤ 1 ∧
    Hid (val 4294967296 l + pv 4294967296 lb k = pv 4294967296 la k + q * 4294967296 ^ k)) (fun _ _ i _ => na - (intOf i).toNat)
  case atStart => exact ⟨0, 0, [], Nat.zero_le _, rfl, rfl, rfl, own_made w _ (by omega), fun x hx => by simp at hx, (Below.refl _ _).alloc (Nat.le_refl _) _, by omega, by show _ = _; simp [pv, val]⟩
  case round =>
    obtain ⟨k, q, l, hk, rfl, rfl, HL, hown, HD, hbl, hq, HE⟩ := hrel
    by_cases hlt : k < na
    · have ra := ha.below hbl (Nat.le_refl _)
      have rb := hb.below hbl (Nat.le_refl _)
      obtain ⟨ba, oa, rfl, hba, hca⟩ := ra.at_ hlt
      have h1 := at64_nonneg la k
      have h1' := at64_d32 da k
      have h2 := at64_nonneg lb k
      have h2' := at64_d32 db k
      have hsz := hbl.size
      have hl' : l.length ≤ 100000 := by rw [HL.out]; omega
      have hi0 : (0 : Int) ≤ (k : Int) := by omega
      have hi1 : (k : Int) < (na : Int) := by omega
      obtain ⟨g1, g2⟩ := rsub_word (la.getD k 0) (lb.getD k 0) q (by unfold at64 at h1'; omega) (by unfold at64 at h2'; omega) hq
      have HG := hid g1
      have HG2 := hid g2
      have e1 : IntKind.u64.wrap (4294967296 + at64 la k) = 4294967296 + at64 la k := by rw [IntKind.wrap_u64]; omega
      have e2 : IntKind.u64.wrap (4294967296 + at64 la k - at64 lb k) = 4294967296 + at64 la k - at64 lb k := by rw [IntKind.wrap_u64]; omega
      have e3 : IntKind.u64.wrap (4294967296 + at64 la k - at64 lb k - q) = 4294967296 + at64 la k - at64 lb k - q := by rw [IntKind.wrap_u64]; omega
      have hs0 : 0 ≤ 4294967296 + at64 la k - at64 lb k - q := by omega
      clear g1 g2
      go_wp2
      go_quiet ((go_at_call 73; exact Calls.quiet_of_same (get_s B nb cb _ lb k _ (rb.drewN _))))
      clear e1 e2 e3
      have hown2 := hown.drewN nq
      have hbl2 := below_drewN hbl nq
      have hsz2 : w.heap.size ≤ (wr.drewN nq).heap.size := hsz
      generalize wr.drewN nq = w2 at hown2 hbl2 hsz2 ⊢
      have HS : Hid (4294967296 + at64 la k - at64 lb k - q = ((4294967296 + la.getD k 0 - lb.getD k 0 - q : Nat) : Int)) := by show _ = _; unfold at64 at h1 h1' h2 h2' ⊢; omega
      have hs1 : 4294967296 + at64 la k - at64 lb k - q < 8589934592 := by omega
      generalize 4294967296 + at64 la k - at64 lb k - (q : Int) = S at hs0 HS hs1 ⊢
      clear hown hbl hsz
      have hs2 : S / 4294967296 ≤ 1 := by omega
      have hs3 : 0 ≤ S / 4294967296 := by omega
      go_wp2_with (at_builtin; refine append_word rfl (.tmp 29) (.tmp 32) rfl w.heap.size _ l rfl hown2 _ ((4294967296 + la.getD k 0 - lb.getD k 0 - q) % 4294967296) ?e1 ?e2 rfl hl' hsz2 ?_)
      case e1 => rw [HS.out]; omega
      case e2 => omega
      intro v' w' hown' hb'
      have hb2 := hbl2.trans hb'
      have HL2 : Hid ((l ++ [(4294967296 + la.getD k 0 - lb.getD k 0 - q) % 4294967296]).length = k + 1) := by show _ = _; rw [List.length_append, HL.out]; rfl
      have HD2 : Hid (D32 (l ++ [(4294967296 + la.getD k 0 - lb.getD k 0 - q) % 4294967296])) := by
        intro x hx
        rcases List.mem_append.1 hx with h | h
        · exact HD.out x h
        · simp only [List.mem_cons, List.not_mem_nil, or_false] at h; omega
      have HE2 : Hid (val 4294967296 (l ++ [(4294967296 + la.getD k 0 - lb.getD k 0 - q) % 4294967296]) + pv 4294967296 lb (k + 1) = pv 4294967296 la (k + 1) + (1 - (4294967296 + la.getD k 0 - lb.getD k 0 - q) / 4294967296) * 4294967296 ^ (k + 1)) := by
        show _ = _
        rw [val_append, HL.out, pv_succ, pv_succ, Nat.pow_succ]
        exact sub_step _ _ _ _ q _ _ _ _ _ HE.out HG.out
      go_wp2
      go_roundw
      case rel => exact ⟨k + 1, _, _, by omega, by go_num, (by have hN : 4294967296 + la.getD k 0 - lb.getD k 0 - q < 8589934592 := (by unfold at64 at h1'; omega); rw [HS.out]; go_num), HL2, hown', HD2, hb2, HG2.out, HE2⟩
      case measure => simp [intOf]; omega
    · have hkn : k = na := by omega
      have HV : Hid (val 4294967296 l = val 4294967296 la - val 4294967296 lb) := by
        show _ = _
        have h := HE.out
        have b1 := val_lt _ (by decide) l HD.out
        have b2 := val_lt _ (by decide) la da
        rw [HL.out] at b1
        rw [ha.len] at b2
        have hl2 : la.length = na := ha.len
        rw [pv_mod _ (by decide) lb db, hkn, pv_out _ la na (by omega), Nat.mod_eq_of_lt (by omega)] at h
        rw [hkn] at b1
        rcases Nat.eq_zero_or_pos q with h0 | h0
        · subst h0; rw [Nat.zero_mul] at h; omega
        · have : q = 1 := by omega
          subst this; rw [Nat.one_mul] at h; omega
      have hl' : l.length ≤ 100000 := by rw [HL.out]; omega
      clear hkn
      go_wp2_with fail
      refine (trim_own (w := w) hown HD.out hbl hl').mono ?_
      rintro e w' hD
      rw [HV.out] at hD
      obtain ⟨A', c', l', rfl, r'⟩ := hD
      have R := hid r'
      clear r'
      go_wp2
      go_ret
      exact ⟨A', c', l', rfl, R.out⟩
end Go.Proofs.YtfonpmahcdmajaaDoor
