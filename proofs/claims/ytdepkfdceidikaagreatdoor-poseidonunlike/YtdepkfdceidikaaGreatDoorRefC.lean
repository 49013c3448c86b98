import Derived.Test.YtdepkfdceidikaaGreatDoorLNew
import Derived.StillTailTactics
import Derived.Deep.QuietTactic
import Derived.BigQuiet
import Derived.Test.YtdepkfdceidikaaGreatDoorLMul
/-
  avouchref01.get, Trim, Same, Words, Digits, Add: what each call does.
-/
namespace Go.Proofs.YtdepkfdceidikaaGreatDoor
open Go.RowKit
set_option linter.unusedVariables false

theorem get_c (A : Option Addr) (n c B : Nat) (l : List Nat) (k : Nat) (w : World) (h : Rd w B A n l) :
    Calls Tryz.prog 79 #[.slice A n c, .int .i64 k] w fun e w' => e = .returned (.int .u64 (at64 l k)) ∧ w = w' := by
  by_cases hk : k < n
  · obtain ⟨b, off, rfl, hb, hc⟩ := h.at_ hk
    go_enter Tryz.func79, Tryz.ntmps79
    go_wp2
    go_ret
    exact ⟨rfl, rfl⟩
  · have e := at64_out (l := l) (i := k) (by rw [h.len]; omega)
    rw [e]
    go_enter Tryz.func79, Tryz.ntmps79
    go_wp2
    go_ret
    exact ⟨rfl, rfl⟩

/-- No digit that is 0 at the end. -/
def Tr (l : List Nat) : Prop := l = [] ∨ l.getD (l.length - 1) 0 ≠ 0
def D32 (l : List Nat) : Prop := ∀ x ∈ l, x < 4294967296

theorem Rd.take {w : World} {B n : Nat} {A : Option Addr} {l : List Nat} (h : Rd w B A n l) (m : Nat) (hm : m ≤ n) : Rd w B A m (l.take m) := by
  refine ⟨by simp [h.len]; omega, fun x hx => h.lt x (List.mem_of_mem_take hx), fun hp => ?_⟩
  obtain ⟨b, off, e, hb, hc⟩ := h.cells (by omega)
  refine ⟨b, off, e, hb, fun i hi => ?_⟩
  rw [hc i (by omega)]
  simp [at64, List.getD_eq_getElem?_getD, hi]

set_option maxHeartbeats 400000 in
theorem trim_c (A : Option Addr) (n c B : Nat) (l : List Nat) (w : World) (h : Rd w B A n l) (hn : n ≤ 100000) (hc : n ≤ c) :
    Calls Tryz.prog 58 #[.slice A n c] w fun e w' => ∃ m, m ≤ n ∧ e = .returned (.slice A m c) ∧ w = w' ∧ Tr (l.take m) ∧ ∀ j, m ≤ j → l.getD j 0 = 0 := by
  go_enter Tryz.func58, Tryz.ntmps58
  go_wp2
  go_loop [3] (fun i => ∃ k : Nat, k ≤ n ∧ i = .int .i64 k ∧ Hid (∀ j, k ≤ j → l.getD j 0 = 0)) (fun i => (intOf i).toNat)
  case atStart => exact ⟨n, Nat.le_refl _, rfl, fun j hj => getD_out l j (by rw [h.len]; exact hj)⟩
  case round =>
    obtain ⟨k, hk, rfl, H⟩ := hrel
    rcases k with _ | k
    · go_wp2
      go_ret
      exact ⟨0, Nat.zero_le _, rfl, rfl, .inl (by simp), H.out⟩
    · obtain ⟨b, off, rfl, hb, hcell⟩ := h.at_ (k := k) (by omega)
      have e1 : ((k + 1 : Nat) : Int) = (k : Int) + 1 := by omega
      rw [e1]
      by_cases hz : l.getD k 0 = 0
      · have hz' : (at64 l k == 0) = true := by unfold at64; rw [hz]; rfl
        have H2 : Hid (∀ j, k ≤ j → l.getD j 0 = 0) := by
          intro j hj
          by_cases hj' : j = k
          · subst hj'; exact hz
          · exact H.out j (by omega)
        clear hz
        go_wp2
        go_round
        case rel => exact ⟨k, by omega, by go_num, H2⟩
        case measure => simp [intOf]
      · have hz' : (at64 l k == 0) = false := by unfold at64; simpa using hz
        have HT : Hid (Tr (l.take (k + 1))) := by
          refine Or.inr ?_
          have hl : (l.take (k + 1)).length = k + 1 := by simp [h.len]; omega
          rw [hl]
          simpa [List.getD_eq_getElem?_getD] using hz
        clear hz
        go_wp2
        go_ret
        exact ⟨k + 1, hk, rfl, rfl, HT.out, H.out⟩

/-- The slice of e is the digits of X: those ahead of zeros at the end. -/
def Dig (w : World) (e : Ending) (w' : World) (X : Nat) : Prop :=
  ∃ A c l, e = .returned (.slice A l.length c) ∧ l.length ≤ c ∧ Rd w' w'.heap.size A l.length l ∧ D32 l ∧ Tr l ∧ val 4294967296 l = X ∧ Below w.heap.size w w'

theorem val_take_zeros (W : Nat) (l : List Nat) (m : Nat) (hm : m ≤ l.length) (h : ∀ j, m ≤ j → l.getD j 0 = 0) : val W (l.take m) = val W l := by
  have e1 : (l.take m).length = m := by simp; omega
  have : pv W l l.length + pv W (l.take m) m = pv W (l.take m) l.length + pv W l m := by
    refine pv_tail W l (l.take m) m l.length (fun j hj => ?_) hm
    rw [h j hj, getD_out _ _ (by omega)]
  rw [pv_take _ _ _ _ (Nat.le_refl _), pv_out _ (l.take m) l.length (by omega)] at this
  unfold val at *
  omega

/-- Behind Trim of a list of digits: the digits of its number. -/
theorem dig_of_trim {w w1 w' : World} {A : Option Addr} {m n c : Nat} {l : List Nat} {e : Ending} (h : Rd w1 w1.heap.size A n l) (hd : D32 l) (hb : Below w.heap.size w w1) (hm : m ≤ n) (hc : n ≤ c)
    (he : e = .returned (.slice A m c)) (hw : w1 = w') (ht : Tr (l.take m)) (hz : ∀ j, m ≤ j → l.getD j 0 = 0) : Dig w e w' (val 4294967296 l) := by
  subst hw
  have e1 : (l.take m).length = m := by simp [h.len]; omega
  refine ⟨A, c, l.take m, by rw [e1]; exact he, by omega, by rw [e1]; exact h.take m hm, fun x hx => hd x (List.mem_of_mem_take hx), ht, val_take_zeros _ _ _ (by rw [h.len]; exact hm) hz, hb⟩

/-- Walk to a call of Trim of an own row of digits, at a function's end. -/
theorem trim_own {w w1 : World} {v : Value} {l : List Nat} {base : Nat} (h : OwnW w1 base v l) (hd : D32 l) (hb : Below w.heap.size w w1) (hl : l.length ≤ 100000) :
    Calls Tryz.prog 58 #[v] w1 fun e w' => Dig w e w' (val 4294967296 l) := by
  obtain ⟨A, c, rfl, hc, hr⟩ := h.rd
  refine (trim_c A l.length c _ l w1 hr hl hc).mono ?_
  rintro e w' ⟨m, hm, he, hw, ht, hz⟩
  exact dig_of_trim hr hd hb hm hc he hw ht hz

theorem val_append (W : Nat) (l : List Nat) (x : Nat) : val W (l ++ [x]) = val W l + x * W ^ l.length := by
  unfold val
  rw [List.length_append, List.length_singleton, pv_succ]
  congr 1
  · exact pv_congr W _ _ _ fun i hi => by simp [List.getD_eq_getElem?_getD, List.getElem?_append_left hi]
  · simp [List.getD_eq_getElem?_getD]

/-- The relation of Add's loop. -/
def RAddRel (w : World) (la lb : List Nat) (v : Value) (wr : World) (k c : Nat) : Prop :=
  ∃ l : List Nat, l.length = k ∧ OwnW wr w.heap.size v l ∧ D32 l ∧ Below w.heap.size w wr ∧ c ≤ 1 ∧ val 4294967296 l + c * 4294967296 ^ k = pv 4294967296 la k + pv 4294967296 lb k

theorem at64_d32 {l : List Nat} (h : D32 l) (i : Nat) : at64 l i < 4294967296 := by
  have := getD_lt _ (by decide) l h i
  unfold at64; omega

theorem RAddRel.step {w wr w' : World} {la lb l : List Nat} {v' : Value} {k c : Nat} (da : D32 la) (db : D32 lb) (hlen : l.length = k) (hd : D32 l) (hbl : Below w.heap.size w wr) (hc : c ≤ 1)
    (he : val 4294967296 l + c * 4294967296 ^ k = pv 4294967296 la k + pv 4294967296 lb k) (hl : OwnW w' w.heap.size v' (l ++ [(la.getD k 0 + lb.getD k 0 + c) % 4294967296]))
    (hb : Below w.heap.size wr w') : RAddRel w la lb v' w' (k + 1) ((la.getD k 0 + lb.getD k 0 + c) / 4294967296) := by
  have h1 := getD_lt _ (by decide) la da k
  have h2 := getD_lt _ (by decide) lb db k
  refine ⟨l ++ [(la.getD k 0 + lb.getD k 0 + c) % 4294967296], by simp [hlen], hl, ?_, hbl.trans hb, by omega, ?_⟩
  · intro x hx
    rcases List.mem_append.1 hx with h' | h'
    · exact hd x h'
    · simp at h'; omega
  · rw [val_append, hlen, pv_succ, pv_succ, Nat.pow_succ]
    exact add_step _ _ _ _ c _ _ _ _ _ he (by rw [Nat.mul_comm]; exact Nat.mod_add_div _ _)

set_option maxHeartbeats 400000 in
theorem refAdd_n (n : Nat) (A B : Option Addr) (na nb ca cb : Nat) (la lb : List Nat) (w : World) (ha : Rd w w.heap.size A na la) (hb : Rd w w.heap.size B nb lb) (da : D32 la) (db : D32 lb) (hna : na ≤ 10000) (hnb : nb ≤ 10000)
    (hn : (na < nb ∧ n = nb) ∨ (¬ na < nb ∧ n = na)) :
    Calls Tryz.prog 67 #[.slice A na ca, .slice B nb cb] w fun e w' => Dig w e w' (val 4294967296 la + val 4294967296 lb) := by
  have hla : la.length ≤ n := by rw [ha.len]; omega
  have hlb : lb.length ≤ n := by rw [hb.len]; omega
  have hn1 : n ≤ 10000 := by omega
  have hmk := make64I 0 (n + 1) (Nat.zero_le _) (by omega) 0 ((n : Int) + 1) rfl (by omega)
  rcases hn with ⟨hlt, rfl⟩ | ⟨hlt, rfl⟩
  all_goals
    go_enter Tryz.func67, Tryz.ntmps67
    go_wp2
    clear hmk
    go_loopw [6, 7, 8] (fun v c i wr => ∃ k q : Nat, k ≤ n + 1 ∧ i = .int .i64 k ∧ c = .int .u64 q ∧ RAddRel w la lb v wr k q) (fun _ _ i _ => n + 1 - (intOf i).toNat)
    case atStart => exact ⟨0, 0, Nat.zero_le _, rfl, rfl, [], rfl, own_made w _ (by omega), fun x hx => by simp at hx, (Below.refl _ _).alloc (Nat.le_refl _) _, by omega, by simp [pv, val]⟩
    case round =>
      obtain ⟨k, q, hk, rfl, rfl, hrel⟩ := hrel
      obtain ⟨l, hlen, hown, hd, hbl, hq, he⟩ := id hrel
      by_cases hlt2 : k ≤ n
      · have ra := ha.below hbl (Nat.le_refl _)
        have rb := hb.below hbl (Nat.le_refl _)
        have h1 := at64_nonneg la k
        have h1' := at64_d32 da k
        have h2 := at64_nonneg lb k
        have h2' := at64_d32 db k
        have hsz := hbl.size
        have HE := hid he
        have HL := hid hlen
        have hl' : l.length ≤ 100000 := by omega
        clear he hlen
        go_wp2_with fail
        refine (get_c A _ ca _ la k _ ra).mono ?_
        rintro e w' ⟨rfl, rfl⟩
        go_wp2_with fail
        refine (get_c B _ cb _ lb k _ rb).mono ?_
        rintro e w' ⟨rfl, rfl⟩
        go_wp2_with (at_builtin; refine append_word rfl (.tmp 35) (.tmp 38) rfl w.heap.size _ l rfl hown _ ((la.getD k 0 + lb.getD k 0 + q) % 4294967296) ?e1 ?e2 rfl hl' hsz ?_)
        case e1 => unfold at64; omega
        case e2 => omega
        intro v' w' hown' hb'
        have hst := RAddRel.step (w := w) da db HL.out hd hbl hq HE.out hown' hb'
        go_wp2
        go_roundw
        case rel => exact ⟨k + 1, _, by omega, by go_num, (by unfold at64; go_num), hst⟩
        case measure => simp [intOf]; omega
      · have hk1 : k = n + 1 := by omega
        have HV : Hid (val 4294967296 l = val 4294967296 la + val 4294967296 lb) := by
          have b1 : pv 4294967296 la k < 4294967296 ^ n := by
            rw [pv_out _ la k (by omega), ← pv_out _ la n hla]; exact pv_lt _ (by decide) la da n
          have b2 : pv 4294967296 lb k < 4294967296 ^ n := by
            rw [pv_out _ lb k (by omega), ← pv_out _ lb n hlb]; exact pv_lt _ (by decide) lb db n
          have b3 : q = 0 := by
            rw [hk1, Nat.pow_succ] at he
            rw [hk1] at b1 b2
            rcases Nat.eq_zero_or_pos q with h | h
            · exact h
            · have : q = 1 := by omega
              subst this
              omega
          subst b3
          rw [← pv_out _ la k (by omega), ← pv_out _ lb k (by omega)]
          rw [Nat.zero_mul, Nat.add_zero] at he
          exact he
        have hl' : l.length ≤ 100000 := by omega
        have HL := hid hlen
        have HE := hid he
        have hkn : ¬ k ≤ n := hlt2
        have HK := hid hk1
        clear hlen he hk1
        go_wp2_with fail
        refine (trim_own (w := w) hown hd hbl hl').mono ?_
        rintro e w' hD
        rw [HV.out] at hD
        obtain ⟨A', c', l', rfl, r'⟩ := hD
        have R := hid r'
        clear r'
        go_wp2
        go_ret
        exact ⟨A', c', l', rfl, R.out⟩
theorem refAdd_c (A B : Option Addr) (na nb ca cb : Nat) (la lb : List Nat) (w : World) (ha : Rd w w.heap.size A na la) (hb : Rd w w.heap.size B nb lb) (da : D32 la) (db : D32 lb) (hna : na ≤ 10000) (hnb : nb ≤ 10000) :
    Calls Tryz.prog 67 #[.slice A na ca, .slice B nb cb] w fun e w' => Dig w e w' (val 4294967296 la + val 4294967296 lb) := by
  by_cases h : na < nb
  · exact refAdd_n nb A B na nb ca cb la lb w ha hb da db hna hnb (.inl ⟨h, rfl⟩)
  · exact refAdd_n na A B na nb ca cb la lb w ha hb da db hna hnb (.inr ⟨h, rfl⟩)
end Go.Proofs.YtdepkfdceidikaaGreatDoor
/-
  avouchref01.Same, Cmp, Words: what each call does.
-/
namespace Go.Proofs.YtdepkfdceidikaaGreatDoor
open Go.RowKit
set_option linter.unusedVariables false

/-- No block has turned, at any number. -/
def Still (w w' : World) : Prop := ∀ B, Below B w w'
theorem Still.refl (w : World) : Still w w := fun B => Below.refl B w
theorem Still.drewN {w w' : World} (h : Still w w') (n : Nat) : Still w (w'.drewN n) := fun B => below_drewN (h B) n
theorem Still.trans {a b c : World} (h : Still a b) (k : Still b c) : Still a c := fun B => (h B).trans (k B)

theorem same_of_all {la lb : List Nat} (hl : la.length = lb.length) (h : ∀ j, j < la.length → la.getD j 0 = lb.getD j 0) : la = lb := by
  apply List.ext_getElem hl
  intro i h1 h2
  have := h i h1
  simpa [List.getD_eq_getElem?_getD, List.getElem?_eq_getElem h1, List.getElem?_eq_getElem h2] using this

set_option maxHeartbeats 800000 in
theorem refCmp_c (A B : Option Addr) (na nb ca cb : Nat) (la lb : List Nat) (w : World) (C : Nat) (ha : Rd w C A na la) (hb : Rd w C B nb lb) (da : D32 la) (db : D32 lb) (hna : na ≤ 100000) (hnb : nb ≤ 100000) :
    Calls Tryz.prog 56 #[.slice A na ca, .slice B nb cb] w fun e w' => e = .returned (.int .i64 (cmpN (val 4294967296 la) (val 4294967296 lb))) ∧ w = w' := by
  have hla : la.length ≤ na + nb + 1 := by rw [ha.len]; omega
  have hlb : lb.length ≤ na + nb + 1 := by rw [hb.len]; omega
  go_enter Tryz.func56, Tryz.ntmps56
  go_wp2
  go_loop [5] (fun i => ∃ k : Nat, k ≤ na + nb + 1 ∧ i = .int .i64 ((k : Int) - 1) ∧ Hid (∀ j, k ≤ j → la.getD j 0 = lb.getD j 0)) (fun i => (intOf i + 1).toNat)
  case atStart =>
    refine ⟨na + nb + 1, Nat.le_refl _, by go_num, fun j hj => ?_⟩
    rw [getD_out la j (by omega), getD_out lb j (by omega)]
  case round =>
    obtain ⟨k, hk, rfl, H⟩ := hrel
    rcases k with _ | k
    · have HV : Hid (cmpN (val 4294967296 la) (val 4294967296 lb) = 0) := by
        show _ = _
        rw [← pv_out _ la _ hla, ← pv_out _ lb _ hlb, pv_congr _ la lb _ (fun i _ => H.out i (Nat.zero_le _)), cmpN_eq]
      go_wp2
      go_ret
      exact ⟨ret_int HV.out.symm, rfl⟩
    · have e1 : (((k + 1 : Nat) : Int) - 1) = (k : Int) := by omega
      rw [e1]
      have hk' : (k : Int) ≤ 200000 := by omega
      rcases Nat.lt_trichotomy (la.getD k 0) (lb.getD k 0) with hq | hq | hq
      · have hq' : at64 la k < at64 lb k := by unfold at64; omega
        have HV : Hid (cmpN (val 4294967296 la) (val 4294967296 lb) = -1) := by
          show _ = _
          rw [← pv_out _ la _ hla, ← pv_out _ lb _ hlb]
          exact cmpN_lt (pv_less _ (by decide) la lb da k _ (fun j hj => H.out j hj) hq (by omega))
        clear hq e1
        go_wp2_with (go_at_call 79; (first | (with_reducible refine (get_c A na ca _ la k _ ha).mono ?_) | (with_reducible refine (get_c B nb cb _ lb k _ hb).mono ?_)); rintro e w' ⟨rfl, rfl⟩)
        go_ret
        exact ⟨ret_int HV.out.symm, rfl⟩
      · have hq' : at64 la k = at64 lb k := by unfold at64; omega
        have hq1 : ¬ at64 la k < at64 lb k := by omega
        have hq2 : ¬ at64 lb k < at64 la k := by omega
        have H2 : Hid (∀ j, k ≤ j → la.getD j 0 = lb.getD j 0) := by
          intro j hj
          by_cases h : j = k
          · subst h; exact hq
          · exact H.out j (by omega)
        clear hq e1 hq'
        go_wp2_with (go_at_call 79; (first | (with_reducible refine (get_c A na ca _ la k _ ha).mono ?_) | (with_reducible refine (get_c B nb cb _ lb k _ hb).mono ?_)); rintro e w' ⟨rfl, rfl⟩)
        go_round
        case rel => exact ⟨k, by omega, rfl, H2⟩
        case measure => simp [intOf]
      · have hq' : at64 lb k < at64 la k := by unfold at64; omega
        have hq1 : ¬ at64 la k < at64 lb k := by omega
        have HV : Hid (cmpN (val 4294967296 la) (val 4294967296 lb) = 1) := by
          show _ = _
          rw [← pv_out _ la _ hla, ← pv_out _ lb _ hlb]
          exact cmpN_gt (pv_less _ (by decide) lb la db k _ (fun j hj => (H.out j hj).symm) hq (by omega))
        clear hq e1
        go_wp2_with (go_at_call 79; (first | (with_reducible refine (get_c A na ca _ la k _ ha).mono ?_) | (with_reducible refine (get_c B nb cb _ lb k _ hb).mono ?_)); rintro e w' ⟨rfl, rfl⟩)
        go_ret
        exact ⟨ret_int HV.out.symm, rfl⟩
end Go.Proofs.YtdepkfdceidikaaGreatDoor
/-
  avouchref01.Words, Digits, Sub: what each call does.
-/
namespace Go.Proofs.YtdepkfdceidikaaGreatDoor
open Go.RowKit
set_option linter.unusedVariables false

theorem Rd.drewN {w : World} {B n : Nat} {A : Option Addr} {l : List Nat} (h : Rd w B A n l) (k : Nat) : Rd (w.drewN k) B A n l := ⟨h.len, h.lt, h.cells⟩
theorem get_ci (A : Option Addr) (n c B : Nat) (l : List Nat) (k : Nat) (i : Int) (hi : i = (k : Int)) (w : World) (h : Rd w B A n l) :
    Calls Tryz.prog 79 #[.slice A n c, .int .i64 i] w fun e w' => e = .returned (.int .u64 (at64 l k)) ∧ w = w' := by
  subst hi; exact get_c A n c B l k w h
theorem get_s (A : Option Addr) (n c B : Nat) (l : List Nat) (k : Nat) (w : World) (h : Rd w B A n l) :
    Calls Tryz.prog 79 #[.slice A n c, .int .i64 k] w fun e w' => e = .returned (.int .u64 (at64 l k)) ∧ w' = w :=
  (get_c A n c B l k w h).mono fun _ _ ⟨h1, h2⟩ => ⟨h1, h2.symm⟩

/-- The slice of e is new, has n words, and reads as a list whose number is X. -/
def Wds (w : World) (e : Ending) (w' : World) (n X : Nat) : Prop :=
  ∃ A c l, e = .returned (.slice A n c) ∧ n ≤ c ∧ Rd w' w'.heap.size A n l ∧ val 18446744073709551616 l = X ∧ Below w.heap.size w w'

theorem pv_mod (W : Nat) (hW : 0 < W) (l : List Nat) (h : ∀ x ∈ l, x < W) (k : Nat) : pv W l k = val W l % W ^ k := by
  by_cases hk : l.length ≤ k
  · have b := val_lt W hW l h
    have : W ^ l.length ≤ W ^ k := Nat.pow_le_pow_right hW hk
    rw [pv_out W l k hk, Nat.mod_eq_of_lt (by omega)]
  · have e := pv_drop W l k (l.length - k)
    rw [show k + (l.length - k) = l.length by omega] at e
    have b := pv_lt W hW l h k
    unfold val
    rw [e, Nat.add_mul_mod_self_left, Nat.mod_eq_of_lt b]

theorem words_step (v p x y P : Nat) (h : v = p) : v + (x + y * 4294967296) * P = (p + x * P) + y * (P * 4294967296) := by subst h; grind
theorem pow64 (k : Nat) : 18446744073709551616 ^ k = 4294967296 ^ (2 * k) := by
  rw [Nat.pow_mul]

set_option maxHeartbeats 400000 in
theorem words_c (A : Option Addr) (nd cd : Nat) (d : List Nat) (n : Nat) (N : Int) (hN : N = (n : Int)) (w : World) (ha : Rd w w.heap.size A nd d) (dd : D32 d) (hn : n ≤ 10000) :
    Calls Tryz.prog 73 #[.slice A nd cd, .int .i64 N] w fun e w' => Wds w e w' n (val 4294967296 d % 18446744073709551616 ^ n) := by
  subst hN
  have hmk := make64I 0 n (Nat.zero_le _) (by omega) 0 (n : Int) rfl rfl
  go_enter Tryz.func73, Tryz.ntmps73
  go_wp2
  clear hmk
  go_loopw [5, 6] (fun v i wr => ∃ k : Nat, ∃ l : List Nat, k ≤ n ∧ i = .int .i64 k ∧ Hid (l.length = k) ∧ OwnW wr w.heap.size v l ∧ Below w.heap.size w wr ∧ Hid (val 18446744073709551616 l = pv 4294967296 d (2 * k))) (fun _ i _ => n - (intOf i).toNat)
  case atStart => exact ⟨0, [], Nat.zero_le _, rfl, rfl, own_made w n (by omega), (Below.refl _ _).alloc (Nat.le_refl _) _, rfl⟩
  case round =>
    obtain ⟨k, l, hk, rfl, HL, hown, hbl, HE⟩ := hrel
    by_cases hlt : k < n
    · have ra := ha.below hbl (Nat.le_refl _)
      have h1 := at64_nonneg d (2 * k)
      have h1' := at64_d32 dd (2 * k)
      have h2 := at64_nonneg d (2 * k + 1)
      have h2' := at64_d32 dd (2 * k + 1)
      have hsz := hbl.size
      have hl' : l.length ≤ 100000 := by rw [HL.out]; omega
      go_wp2_with fail
      refine (get_ci A nd cd _ d (2 * k) _ (by omega) _ ra).mono ?_
      rintro e w' ⟨rfl, rfl⟩
      go_wp2_with fail
      refine (get_ci A nd cd _ d (2 * k + 1) _ (by omega) _ ra).mono ?_
      rintro e w' ⟨rfl, rfl⟩
      go_wp2_with (at_builtin; refine append_word rfl (.tmp 14) (.tmp 26) rfl w.heap.size _ l rfl hown _ (d.getD (2 * k) 0 + d.getD (2 * k + 1) 0 * 4294967296) ?e1 ?e2 rfl hl' hsz ?_)
      case e1 => unfold at64; omega
      case e2 => unfold at64 at h1' h2'; omega
      intro v' w' hown' hb'
      have hb2 := hbl.trans hb'
      have HL2 : Hid ((l ++ [d.getD (2 * k) 0 + d.getD (2 * k + 1) 0 * 4294967296]).length = k + 1) := by show _ = _; rw [List.length_append, HL.out]; rfl
      have HE2 : Hid (val 18446744073709551616 (l ++ [d.getD (2 * k) 0 + d.getD (2 * k + 1) 0 * 4294967296]) = pv 4294967296 d (2 * (k + 1))) := by
        show _ = _
        rw [val_append, HL.out, show 2 * (k + 1) = 2 * k + 1 + 1 by omega, pv_succ, pv_succ, Nat.pow_succ, pow64]
        exact words_step _ _ _ _ _ HE.out
      go_wp2
      go_roundw
      case rel => exact ⟨k + 1, _, by omega, by go_num, HL2, hown', hb2, HE2⟩
      case measure => simp [intOf]; omega
    · have hkn : k = n := by omega
      have HV : Hid (val 18446744073709551616 l = val 4294967296 d % 18446744073709551616 ^ n) := by
        show _ = _
        rw [HE.out, pow64, ← pv_mod _ (by decide) d dd, hkn]
      have HN : Hid (l.length = n) := by show _ = _; rw [HL.out, hkn]
      clear hkn
      obtain ⟨A', c', rfl, hc', rd'⟩ := hown.rd
      rw [HN.out] at rd' hc' ⊢
      go_wp2
      go_ret
      exact ⟨A', c', l, rfl, hc', rd', HV.out, hbl⟩
end Go.Proofs.YtdepkfdceidikaaGreatDoor
