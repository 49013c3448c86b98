/-
  avouchref01.Same, Cmp, Words: what each call does.
-/
import Derived.Test.YtpjjobophplleaaDoorRefA
import Derived.Test.YtpjjobophplleaaDoorLSub
namespace Go.Proofs.YtpjjobophplleaaDoor
open Go.RowKit
set_option linter.unusedVariables false

/-- No block has turned, at any number. -/
def Still (w w' : World) : Prop := ∀ B, Below B w w'
theorem Still.refl (w : World) : Still w w := fun B => Below.refl B w
theorem Still.drewN {w w' : World} (h : Still w w') (n : Nat) : Still w (w'.drewN n) := fun B => below_drewN (h B) n
theorem Still.trans {a b c : World} (h : Still a b) (k : Still b c) : Still a c := fun B => (h B).trans (k B)

theorem same_of_all {la lb : List Nat} (hl : la.length = lb.length) (h : ∀ j, j < la.length → la.getD j 0 = lb.getD j 0) : la = lb := by
  apply List.ext_getElem hl
  intro i h1 h2
  have := h i h1
  simpa [List.getD_eq_getElem?_getD, List.getElem?_eq_getElem h1, List.getElem?_eq_getElem h2] using this

set_option maxHeartbeats 800000 in
theorem refCmp_c (A B : Option Addr) (na nb ca cb : Nat) (la lb : List Nat) (w : World) (C : Nat) (ha : Rd w C A na la) (hb : Rd w C B nb lb) (da : D32 la) (db : D32 lb) (hna : na ≤ 100000) (hnb : nb ≤ 100000) :
    Calls Tryd.prog 21 #[.slice A na ca, .slice B nb cb] w fun e w' => e = .returned (.int .i64 (cmpN (val 4294967296 la) (val 4294967296 lb))) ∧ w = w' := by
  have hla : la.length ≤ na + nb + 1 := by rw [ha.len]; omega
  have hlb : lb.length ≤ na + nb + 1 := by rw [hb.len]; omega
  go_enter Tryd.func21, Tryd.ntmps21
  go_wp2
  go_loop [5] (fun i => ∃ k : Nat, k ≤ na + nb + 1 ∧ i = .int .i64 ((k : Int) - 1) ∧ Hid (∀ j, k ≤ j → la.getD j 0 = lb.getD j 0)) (fun i => (intOf i + 1).toNat)
  case atStart =>
    refine ⟨na + nb + 1, Nat.le_refl _, by go_num, fun j hj => ?_⟩
    rw [getD_out la j (by omega), getD_out lb j (by omega)]
  case round =>
    obtain ⟨k, hk, rfl, H⟩ := hrel
    rcases k with _ | k
    · have HV : Hid (cmpN (val 4294967296 la) (val 4294967296 lb) = 0) := by
        show _ = _
        rw [← pv_out _ la _ hla, ← pv_out _ lb _ hlb, pv_congr _ la lb _ (fun i _ => H.out i (Nat.zero_le _)), cmpN_eq]
      go_wp2
      go_ret
      exact ⟨ret_int HV.out.symm, rfl⟩
    · have e1 : (((k + 1 : Nat) : Int) - 1) = (k : Int) := by omega
      rw [e1]
      have hk' : (k : Int) ≤ 200000 := by omega
      rcases Nat.lt_trichotomy (la.getD k 0) (lb.getD k 0) with hq | hq | hq
      · have hq' : at64 la k < at64 lb k := by unfold at64; omega
        have HV : Hid (cmpN (val 4294967296 la) (val 4294967296 lb) = -1) := by
          show _ = _
          rw [← pv_out _ la _ hla, ← pv_out _ lb _ hlb]
          exact cmpN_lt (pv_less _ (by decide) la lb da k _ (fun j hj => H.out j hj) hq (by omega))
        clear hq e1
        go_wp2_with (go_at_call 30; (first | (with_reducible refine (get_c A na ca _ la k _ ha).mono ?_) | (with_reducible refine (get_c B nb cb _ lb k _ hb).mono ?_)); rintro e w' ⟨rfl, rfl⟩)
        go_ret
        exact ⟨ret_int HV.out.symm, rfl⟩
      · have hq' : at64 la k = at64 lb k := by unfold at64; omega
        have hq1 : ¬ at64 la k < at64 lb k := by omega
        have hq2 : ¬ at64 lb k < at64 la k := by omega
        have H2 : Hid (∀ j, k ≤ j → la.getD j 0 = lb.getD j 0) := by
          intro j hj
          by_cases h : j = k
          · subst h; exact hq
          · exact H.out j (by omega)
        clear hq e1 hq'
        go_wp2_with (go_at_call 30; (first | (with_reducible refine (get_c A na ca _ la k _ ha).mono ?_) | (with_reducible refine (get_c B nb cb _ lb k _ hb).mono ?_)); rintro e w' ⟨rfl, rfl⟩)
        go_round
        case rel => exact ⟨k, by omega, rfl, H2⟩
        case measure => simp [intOf]
      · have hq' : at64 lb k < at64 la k := by unfold at64; omega
        have hq1 : ¬ at64 la k < at64 lb k := by omega
        have HV : Hid (cmpN (val 4294967296 la) (val 4294967296 lb) = 1) := by
          show _ = _
          rw [← pv_out _ la _ hla, ← pv_out _ lb _ hlb]
          exact cmpN_gt (pv_less _ (by decide) lb la db k _ (fun j hj => (H.out j hj).symm) hq (by omega))
        clear hq e1
        go_wp2_with (go_at_call 30; (first | (with_reducible refine (get_c A na ca _ la k _ ha).mono ?_) | (with_reducible refine (get_c B nb cb _ lb k _ hb).mono ?_)); rintro e w' ⟨rfl, rfl⟩)
        go_ret
        exact ⟨ret_int HV.out.symm, rfl⟩
end Go.Proofs.YtpjjobophplleaaDoor
