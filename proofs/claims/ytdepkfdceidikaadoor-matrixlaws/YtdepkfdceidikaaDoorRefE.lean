import Derived.Test.YtdepkfdceidikaaDoorRefA
import Derived.Test.YtdepkfdceidikaaDoorLSub
import Derived.Deep.RegionLaw
import Derived.BigRegion
/-
  avouchref01.Same, Cmp, Words: what each call does.
-/
namespace Go.Proofs.YtdepkfdceidikaaDoor
open Go.RowKit
set_option linter.unusedVariables false

/-- No block has turned, at any number. -/
def Still (w w' : World) : Prop := ∀ B, Below B w w'
theorem Still.refl (w : World) : Still w w := fun B => Below.refl B w
theorem Still.drewN {w w' : World} (h : Still w w') (n : Nat) : Still w (w'.drewN n) := fun B => below_drewN (h B) n
theorem Still.trans {a b c : World} (h : Still a b) (k : Still b c) : Still a c := fun B => (h B).trans (k B)

theorem same_of_all {la lb : List Nat} (hl : la.length = lb.length) (h : ∀ j, j < la.length → la.getD j 0 = lb.getD j 0) : la = lb := by
  apply List.ext_getElem hl
  intro i h1 h2
  have := h i h1
  simpa [List.getD_eq_getElem?_getD, List.getElem?_eq_getElem h1, List.getElem?_eq_getElem h2] using this

set_option maxHeartbeats 800000 in
theorem refCmp_c (A B : Option Addr) (na nb ca cb : Nat) (la lb : List Nat) (w : World) (C : Nat) (ha : Rd w C A na la) (hb : Rd w C B nb lb) (da : D32 la) (db : D32 lb) (hna : na ≤ 100000) (hnb : nb ≤ 100000) :
    Calls Tryd.prog 76 #[.slice A na ca, .slice B nb cb] w fun e w' => e = .returned (.int .i64 (cmpN (val 4294967296 la) (val 4294967296 lb))) ∧ w = w' := by
  have hla : la.length ≤ na + nb + 1 := by rw [ha.len]; omega
  have hlb : lb.length ≤ na + nb + 1 := by rw [hb.len]; omega
  go_enter Tryd.func76, Tryd.ntmps76
  go_wp2
  go_loop [5] (fun i => ∃ k : Nat, k ≤ na + nb + 1 ∧ i = .int .i64 ((k : Int) - 1) ∧ Hid (∀ j, k ≤ j → la.getD j 0 = lb.getD j 0)) (fun i => (intOf i + 1).toNat)
  case atStart =>
    refine ⟨na + nb + 1, Nat.le_refl _, by go_num, fun j hj => ?_⟩
    rw [getD_out la j (by omega), getD_out lb j (by omega)]
  case round =>
    obtain ⟨k, hk, rfl, H⟩ := hrel
    rcases k with _ | k
    · have HV : Hid (cmpN (val 4294967296 la) (val 4294967296 lb) = 0) := by
        show _ = _
        rw [← pv_out _ la _ hla, ← pv_out _ lb _ hlb, pv_congr _ la lb _ (fun i _ => H.out i (Nat.zero_le _)), cmpN_eq]
      go_wp2
      go_ret
      exact ⟨ret_int HV.out.symm, rfl⟩
    · have e1 : (((k + 1 : Nat) : Int) - 1) = (k : Int) := by omega
      rw [e1]
      have hk' : (k : Int) ≤ 200000 := by omega
      rcases Nat.lt_trichotomy (la.getD k 0) (lb.getD k 0) with hq | hq | hq
      · have hq' : at64 la k < at64 lb k := by unfold at64; omega
        have HV : Hid (cmpN (val 4294967296 la) (val 4294967296 lb) = -1) := by
          show _ = _
          rw [← pv_out _ la _ hla, ← pv_out _ lb _ hlb]
          exact cmpN_lt (pv_less _ (by decide) la lb da k _ (fun j hj => H.out j hj) hq (by omega))
        clear hq e1
        go_wp2_with (go_at_call 91; (first | (with_reducible refine (get_c A na ca _ la k _ ha).mono ?_) | (with_reducible refine (get_c B nb cb _ lb k _ hb).mono ?_)); rintro e w' ⟨rfl, rfl⟩)
        go_ret
        exact ⟨ret_int HV.out.symm, rfl⟩
      · have hq' : at64 la k = at64 lb k := by unfold at64; omega
        have hq1 : ¬ at64 la k < at64 lb k := by omega
        have hq2 : ¬ at64 lb k < at64 la k := by omega
        have H2 : Hid (∀ j, k ≤ j → la.getD j 0 = lb.getD j 0) := by
          intro j hj
          by_cases h : j = k
          · subst h; exact hq
          · exact H.out j (by omega)
        clear hq e1 hq'
        go_wp2_with (go_at_call 91; (first | (with_reducible refine (get_c A na ca _ la k _ ha).mono ?_) | (with_reducible refine (get_c B nb cb _ lb k _ hb).mono ?_)); rintro e w' ⟨rfl, rfl⟩)
        go_round
        case rel => exact ⟨k, by omega, rfl, H2⟩
        case measure => simp [intOf]
      · have hq' : at64 lb k < at64 la k := by unfold at64; omega
        have hq1 : ¬ at64 la k < at64 lb k := by omega
        have HV : Hid (cmpN (val 4294967296 la) (val 4294967296 lb) = 1) := by
          show _ = _
          rw [← pv_out _ la _ hla, ← pv_out _ lb _ hlb]
          exact cmpN_gt (pv_less _ (by decide) lb la db k _ (fun j hj => (H.out j hj).symm) hq (by omega))
        clear hq e1
        go_wp2_with (go_at_call 91; (first | (with_reducible refine (get_c A na ca _ la k _ ha).mono ?_) | (with_reducible refine (get_c B nb cb _ lb k _ hb).mono ?_)); rintro e w' ⟨rfl, rfl⟩)
        go_ret
        exact ⟨ret_int HV.out.symm, rfl⟩
end Go.Proofs.YtdepkfdceidikaaDoor
/-
  avouchref01.Words, Digits, Sub: what each call does.
-/
namespace Go.Proofs.YtdepkfdceidikaaDoor
open Go.RowKit
set_option linter.unusedVariables false

theorem Rd.drewN {w : World} {B n : Nat} {A : Option Addr} {l : List Nat} (h : Rd w B A n l) (k : Nat) : Rd (w.drewN k) B A n l := ⟨h.len, h.lt, h.cells⟩
theorem get_ci (A : Option Addr) (n c B : Nat) (l : List Nat) (k : Nat) (i : Int) (hi : i = (k : Int)) (w : World) (h : Rd w B A n l) :
    Calls Tryd.prog 91 #[.slice A n c, .int .i64 i] w fun e w' => e = .returned (.int .u64 (at64 l k)) ∧ w = w' := by
  subst hi; exact get_c A n c B l k w h
theorem get_s (A : Option Addr) (n c B : Nat) (l : List Nat) (k : Nat) (w : World) (h : Rd w B A n l) :
    Calls Tryd.prog 91 #[.slice A n c, .int .i64 k] w fun e w' => e = .returned (.int .u64 (at64 l k)) ∧ w' = w :=
  (get_c A n c B l k w h).mono fun _ _ ⟨h1, h2⟩ => ⟨h1, h2.symm⟩

/-- The slice of e is new, has n words, and reads as a list whose number is X. -/
def Wds (w : World) (e : Ending) (w' : World) (n X : Nat) : Prop :=
  ∃ A c l, e = .returned (.slice A n c) ∧ n ≤ c ∧ Rd w' w'.heap.size A n l ∧ val 18446744073709551616 l = X ∧ Below w.heap.size w w'

theorem pv_mod (W : Nat) (hW : 0 < W) (l : List Nat) (h : ∀ x ∈ l, x < W) (k : Nat) : pv W l k = val W l % W ^ k := by
  by_cases hk : l.length ≤ k
  · have b := val_lt W hW l h
    have : W ^ l.length ≤ W ^ k := Nat.pow_le_pow_right hW hk
    rw [pv_out W l k hk, Nat.mod_eq_of_lt (by omega)]
  · have e := pv_drop W l k (l.length - k)
    rw [show k + (l.length - k) = l.length by omega] at e
    have b := pv_lt W hW l h k
    unfold val
    rw [e, Nat.add_mul_mod_self_left, Nat.mod_eq_of_lt b]

theorem words_step (v p x y P : Nat) (h : v = p) : v + (x + y * 4294967296) * P = (p + x * P) + y * (P * 4294967296) := by subst h; grind
theorem pow64 (k : Nat) : 18446744073709551616 ^ k = 4294967296 ^ (2 * k) := by
  rw [Nat.pow_mul]

end Go.Proofs.YtdepkfdceidikaaDoor
/-
  avouchref01.Digits, Sub: what each call does.
-/
namespace Go.Proofs.YtdepkfdceidikaaDoor
open Go.RowKit
set_option linter.unusedVariables false

theorem digits_step (p x P : Nat) : p + x % 4294967296 * P + x / 4294967296 * (P * 4294967296) = p + x * P := by
  have : (x % 4294967296 + 4294967296 * (x / 4294967296)) * P = x * P := by rw [Nat.mod_add_div]
  grind

theorem two_cells (w : World) (X Y : Int) (m n : Nat) (hX : X = (m : Int)) (hY : Y = (n : Int)) (i : Nat) (hi : i < [m, n].length) :
    (w.alloc (.cells #[.int .u64 X, .int .u64 Y] 24)).drew.cell? ⟨w.heap.size, i, none⟩ = some (.int .u64 (at64 [m, n] i)) := by
  subst hX hY
  show (w.alloc (.cells #[.int .u64 (m : Int), .int .u64 (n : Int)] 24)).cell? ⟨w.heap.size, i, none⟩ = _
  have : i = 0 ∨ i = 1 := by simp at hi; omega
  rcases this with rfl | rfl <;> simp [at64]

end Go.Proofs.YtdepkfdceidikaaDoor
/-
  avouchref01.Sub: what the call does.
-/
namespace Go.Proofs.YtdepkfdceidikaaDoor
open Go.RowKit
set_option linter.unusedVariables false

theorem rsub_word (x y c : Nat) (hx : x < 4294967296) (hy : y < 4294967296) (hc : c ≤ 1) :
    (4294967296 + x - y - c) % 4294967296 + y + c = x + (1 - (4294967296 + x - y - c) / 4294967296) * 4294967296 ∧ 1 - (4294967296 + x - y - c) / 4294967296 ≤ 1 := by omega

set_option maxHeartbeats 400000 in
theorem refSub_c (A B : Option Addr) (na nb ca cb : Nat) (la lb : List Nat) (w : World) (ha : Rd w w.heap.size A na la) (hb : Rd w w.heap.size B nb lb) (da : D32 la) (db : D32 lb) (hna : na ≤ 10000)
    (hle : val 4294967296 lb ≤ val 4294967296 la) :
    Calls Tryd.prog 77 #[.slice A na ca, .slice B nb cb] w fun e w' => Dig w e w' (val 4294967296 la - val 4294967296 lb) := by
  have hmk := make64I 0 na (Nat.zero_le _) (by omega) 0 (na : Int) rfl rfl
  go_enter Tryd.func77, Tryd.ntmps77
  go_wp2
  clear hmk
  go_loopw [5, 6, 7] (fun v c i wr => ∃ k q : Nat, ∃ l : List Nat, k ≤ na ∧ i = .int .i64 k ∧ c = .int .u64 q ∧ Hid (l.length = k) ∧ OwnW wr w.heap.size v l ∧ Hid (D32 l) ∧ Below w.heap.size w wr ∧ q ≤ 1 ∧
    Hid (val 4294967296 l + pv 4294967296 lb k = pv 4294967296 la k + q * 4294967296 ^ k)) (fun _ _ i _ => na - (intOf i).toNat)
  case atStart => exact ⟨0, 0, [], Nat.zero_le _, rfl, rfl, rfl, own_made w _ (by omega), fun x hx => by simp at hx, (Below.refl _ _).alloc (Nat.le_refl _) _, by omega, by show _ = _; simp [pv, val]⟩
  case round =>
    obtain ⟨k, q, l, hk, rfl, rfl, HL, hown, HD, hbl, hq, HE⟩ := hrel
    by_cases hlt : k < na
    · have ra := ha.below hbl (Nat.le_refl _)
      have rb := hb.below hbl (Nat.le_refl _)
      obtain ⟨ba, oa, rfl, hba, hca⟩ := ra.at_ hlt
      have h1 := at64_nonneg la k
      have h1' := at64_d32 da k
      have h2 := at64_nonneg lb k
      have h2' := at64_d32 db k
      have hsz := hbl.size
      have hl' : l.length ≤ 100000 := by rw [HL.out]; omega
      have hi0 : (0 : Int) ≤ (k : Int) := by omega
      have hi1 : (k : Int) < (na : Int) := by omega
      obtain ⟨g1, g2⟩ := rsub_word (la.getD k 0) (lb.getD k 0) q (by unfold at64 at h1'; omega) (by unfold at64 at h2'; omega) hq
      have HG := hid g1
      have HG2 := hid g2
      have e1 : IntKind.u64.wrap (4294967296 + at64 la k) = 4294967296 + at64 la k := by rw [IntKind.wrap_u64]; omega
      have e2 : IntKind.u64.wrap (4294967296 + at64 la k - at64 lb k) = 4294967296 + at64 la k - at64 lb k := by rw [IntKind.wrap_u64]; omega
      have e3 : IntKind.u64.wrap (4294967296 + at64 la k - at64 lb k - q) = 4294967296 + at64 la k - at64 lb k - q := by rw [IntKind.wrap_u64]; omega
      have hs0 : 0 ≤ 4294967296 + at64 la k - at64 lb k - q := by omega
      clear g1 g2
      go_wp2
      go_quiet ((go_at_call 91; exact Calls.quiet_of_same (get_s B nb cb _ lb k _ (rb.drewN _))))
      clear e1 e2 e3
      have hown2 := hown.drewN nq
      have hbl2 := below_drewN hbl nq
      have hsz2 : w.heap.size ≤ (wr.drewN nq).heap.size := hsz
      generalize wr.drewN nq = w2 at hown2 hbl2 hsz2 ⊢
      have HS : Hid (4294967296 + at64 la k - at64 lb k - q = ((4294967296 + la.getD k 0 - lb.getD k 0 - q : Nat) : Int)) := by show _ = _; unfold at64 at h1 h1' h2 h2' ⊢; omega
      have hs1 : 4294967296 + at64 la k - at64 lb k - q < 8589934592 := by omega
      generalize 4294967296 + at64 la k - at64 lb k - (q : Int) = S at hs0 HS hs1 ⊢
      clear hown hbl hsz
      have hs2 : S / 4294967296 ≤ 1 := by omega
      have hs3 : 0 ≤ S / 4294967296 := by omega
      go_wp2_with (at_builtin; refine append_word rfl (.tmp 29) (.tmp 32) rfl w.heap.size _ l rfl hown2 _ ((4294967296 + la.getD k 0 - lb.getD k 0 - q) % 4294967296) ?e1 ?e2 rfl hl' hsz2 ?_)
      case e1 => rw [HS.out]; omega
      case e2 => omega
      intro v' w' hown' hb'
      have hb2 := hbl2.trans hb'
      have HL2 : Hid ((l ++ [(4294967296 + la.getD k 0 - lb.getD k 0 - q) % 4294967296]).length = k + 1) := by show _ = _; rw [List.length_append, HL.out]; rfl
      have HD2 : Hid (D32 (l ++ [(4294967296 + la.getD k 0 - lb.getD k 0 - q) % 4294967296])) := by
        intro x hx
        rcases List.mem_append.1 hx with h | h
        · exact HD.out x h
        · simp only [List.mem_cons, List.not_mem_nil, or_false] at h; omega
      have HE2 : Hid (val 4294967296 (l ++ [(4294967296 + la.getD k 0 - lb.getD k 0 - q) % 4294967296]) + pv 4294967296 lb (k + 1) = pv 4294967296 la (k + 1) + (1 - (4294967296 + la.getD k 0 - lb.getD k 0 - q) / 4294967296) * 4294967296 ^ (k + 1)) := by
        show _ = _
        rw [val_append, HL.out, pv_succ, pv_succ, Nat.pow_succ]
        exact sub_step _ _ _ _ q _ _ _ _ _ HE.out HG.out
      go_wp2
      go_roundw
      case rel => exact ⟨k + 1, _, _, by omega, by go_num, (by have hN : 4294967296 + la.getD k 0 - lb.getD k 0 - q < 8589934592 := (by unfold at64 at h1'; omega); rw [HS.out]; go_num), HL2, hown', HD2, hb2, HG2.out, HE2⟩
      case measure => simp [intOf]; omega
    · have hkn : k = na := by omega
      have HV : Hid (val 4294967296 l = val 4294967296 la - val 4294967296 lb) := by
        show _ = _
        have h := HE.out
        have b1 := val_lt _ (by decide) l HD.out
        have b2 := val_lt _ (by decide) la da
        rw [HL.out] at b1
        rw [ha.len] at b2
        have hl2 : la.length = na := ha.len
        rw [pv_mod _ (by decide) lb db, hkn, pv_out _ la na (by omega), Nat.mod_eq_of_lt (by omega)] at h
        rw [hkn] at b1
        rcases Nat.eq_zero_or_pos q with h0 | h0
        · subst h0; rw [Nat.zero_mul] at h; omega
        · have : q = 1 := by omega
          subst this; rw [Nat.one_mul] at h; omega
      have hl' : l.length ≤ 100000 := by rw [HL.out]; omega
      clear hkn
      go_wp2_with fail
      refine (trim_own (w := w) hown HD.out hbl hl').mono ?_
      rintro e w' hD
      rw [HV.out] at hD
      obtain ⟨A', c', l', rfl, r'⟩ := hD
      have R := hid r'
      clear r'
      go_wp2
      go_ret
      exact ⟨A', c', l', rfl, R.out⟩
end Go.Proofs.YtdepkfdceidikaaDoor
