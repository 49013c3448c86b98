import Derived.Test.YtlpccdbcaffmmaaDoorPrims
import Derived.Test.YtlpccdbcaffmmaaDoorRefA
import Derived.Deep.RegionLaw
import Derived.BigRegion
/-
  limb.wordAt, limb.Add, limb.Sub: what each call does.
-/
namespace Go.Proofs.YtlpccdbcaffmmaaDoor
open Go.RowKit
set_option linter.unusedVariables false

theorem wordAt_c (A : Option Addr) (n c B : Nat) (l : List Nat) (k : Nat) (w : World) (h : Rd w B A n l) :
    Calls Tryd.prog 90 #[.slice A n c, .int .i64 k] w fun e w' => e = .returned (.int .u64 (at64 l k)) ∧ w = w' := by
  by_cases hk : k < n
  · obtain ⟨b, off, rfl, hb, hc⟩ := h.at_ hk
    go_enter Tryd.func90, Tryd.ntmps90
    go_wp2
    go_ret
    exact ⟨rfl, rfl⟩
  · have e := at64_out (l := l) (i := k) (by rw [h.len]; omega)
    rw [e]
    go_enter Tryd.func90, Tryd.ntmps90
    go_wp2
    go_ret
    exact ⟨rfl, rfl⟩

/-- The relation of Add's loop. -/
def AddRel (w : World) (b n : Nat) (la lb : List Nat) (wr : World) (k c : Nat) : Prop :=
  ∃ ws : List Nat, ws.length = n ∧ BlkW wr b 27 ws ∧ Below b w wr ∧ c ≤ 1 ∧ pv 18446744073709551616 ws k + c * 18446744073709551616 ^ k = pv 18446744073709551616 la k + pv 18446744073709551616 lb k

theorem AddRel.step {w wr : World} {b n k c : Nat} {la lb : List Nat} (ha : allLt la) (hb : allLt lb) (h : AddRel w b n la lb wr k c) (hk : k < n) :
    AddRel w b n la lb (wr.setCell ⟨b, k, none⟩ (.int .u64 ((at64 la k + at64 lb k + (c : Int)) % 18446744073709551616))) (k + 1) ((la.getD k 0 + lb.getD k 0 + c) / 18446744073709551616) := by
  obtain ⟨ws, hl, hB, hb', hc, he⟩ := h
  have h1 := getD_lt _ (by decide) la ha k
  have h2 := getD_lt _ (by decide) lb hb k
  refine ⟨ws.set k ((la.getD k 0 + lb.getD k 0 + c) % 18446744073709551616), by simp [hl], hB.setI k _ _ (Nat.mod_lt _ (by decide)) ?_, hb'.setCell (Nat.le_refl _) _, by omega, ?_⟩
  · unfold at64; omega
  · rw [pv_set_succ _ _ _ _ (by omega), pv_succ, pv_succ, Nat.pow_succ]
    exact add_step _ _ _ _ c _ _ _ _ _ he (by rw [Nat.mul_comm]; exact Nat.mod_add_div _ _)

end Go.Proofs.YtlpccdbcaffmmaaDoor
/-
  limb.Sub, limb.Cmp: what each call does.
-/
namespace Go.Proofs.YtlpccdbcaffmmaaDoor
open Go.RowKit
set_option linter.unusedVariables false

def borN (x y : Nat) : Nat := if x < y then 1 else 0
theorem bor_nat (x y : Nat) : bor (x : Int) (y : Int) = ((borN x y : Nat) : Int) := by unfold bor borN; split <;> split <;> omega
theorem borN_le (x y : Nat) : borN x y ≤ 1 := by unfold borN; split <;> omega
theorem sub_word (x y c : Nat) (hx : x < 18446744073709551616) (hy : y < 18446744073709551616) (hc : c ≤ 1) :
    (x + 18446744073709551616 - y - c) % 18446744073709551616 + y + c = x + borN x (y + c) * 18446744073709551616 := by
  unfold borN; split <;> omega
theorem sub_step (W p q r c s c' x y P : Nat) (h : r + q = p + c * P) (e : s + y + c = x + c' * W) : (r + s * P) + (q + y * P) = (p + x * P) + c' * (P * W) := by
  have : (s + y + c) * P = (x + c' * W) * P := by rw [e]
  grind

/-- The relation of Sub's loop. -/
def SubRel (w : World) (b n : Nat) (la lb : List Nat) (wr : World) (k c : Nat) : Prop :=
  ∃ ws : List Nat, ws.length = n ∧ BlkW wr b 27 ws ∧ Below b w wr ∧ c ≤ 1 ∧ pv 18446744073709551616 ws k + pv 18446744073709551616 lb k = pv 18446744073709551616 la k + c * 18446744073709551616 ^ k

theorem SubRel.step {w wr : World} {b n k c : Nat} {la lb : List Nat} (ha : allLt la) (hb : allLt lb) (h : SubRel w b n la lb wr k c) (hk : k < n) :
    SubRel w b n la lb (wr.setCell ⟨b, k, none⟩ (.int .u64 ((at64 la k - at64 lb k - (c : Int)) % 18446744073709551616))) (k + 1) (borN (la.getD k 0) (lb.getD k 0 + c)) := by
  obtain ⟨ws, hl, hB, hb', hc, he⟩ := h
  have h1 := getD_lt _ (by decide) la ha k
  have h2 := getD_lt _ (by decide) lb hb k
  refine ⟨ws.set k ((la.getD k 0 + 18446744073709551616 - lb.getD k 0 - c) % 18446744073709551616), by simp [hl], hB.setI k _ _ (Nat.mod_lt _ (by decide)) ?_, hb'.setCell (Nat.le_refl _) _, borN_le _ _, ?_⟩
  · unfold at64; omega
  · rw [pv_set_succ _ _ _ _ (by omega), pv_succ, pv_succ, Nat.pow_succ]
    exact sub_step _ _ _ _ c _ _ _ _ _ he (sub_word _ _ _ h1 h2 hc)

set_option maxHeartbeats 400000 in
theorem sub_c (A B : Option Addr) (na nb ca cb : Nat) (la lb : List Nat) (w : World) (ha : Rd w w.heap.size A na la) (hb : Rd w w.heap.size B nb lb) (hna : na ≤ 100000) (hnb : nb ≤ 100000) :
    Calls Tryd.prog 70 #[.slice A na ca, .slice B nb cb] w fun e w' => ∃ c, e = .returned (.tuple #[.slice (some ⟨w.heap.size, 0, none⟩) (max na nb) (max na nb), .int .u64 ((c : Nat) : Int)]) ∧ SubRel w w.heap.size (max na nb) la lb w' (max na nb) c := by
  obtain ⟨n, hn⟩ : ∃ n : Nat, n = max na nb := ⟨_, rfl⟩
  rw [← hn]
  have hmax : max (na : Int) (nb : Int) = (n : Int) := by omega
  have hn1 : n ≤ 100000 := by omega
  have HN := hid hn
  clear hn
  have hmk := make64 n n (Nat.le_refl _) (by omega)
  go_enter Tryd.func70, Tryd.ntmps70
  go_wp2
  clear hmk hmax
  go_loopw [7, 17] (fun c i wr => ∃ k q : Nat, k ≤ n ∧ i = .int .i64 k ∧ c = .int .u64 q ∧ SubRel w w.heap.size n la lb wr k q) (fun _ i _ => n - (intOf i).toNat)
  case atStart =>
    refine ⟨0, 0, Nat.zero_le _, rfl, rfl, List.replicate n 0, by simp, blk_zeros w n, (Below.refl _ _).alloc (Nat.le_refl _) _, by omega, by simp [pv]⟩
  case round =>
    obtain ⟨k, q, hk, rfl, rfl, hrel⟩ := hrel
    obtain ⟨ws, hl, hB, hbl, hq, he⟩ := id hrel
    by_cases hlt : k < n
    · have hcell := hB.cell (i := k) (by omega)
      have hfz := hB.frozen k
      have h1 := at64_nonneg la k
      have h2 := at64_nonneg lb k
      have h3 := at64_lt hb.lt k
      have hst := hrel.step ha.lt hb.lt hlt
      have ra := ha.below hbl (Nat.le_refl _)
      have rb := hb.below hbl (Nat.le_refl _)
      have q0 : (0 : Int) ≤ q := by omega
      have q1 : (q : Int) ≤ 1 := by omega
      have HL := hid hl
      have HE := hid he
      clear hl he
      go_wp2_with fail
      refine (wordAt_c A na ca _ la k _ ra).mono ?_
      rintro e w' ⟨rfl, rfl⟩
      go_wp2_with fail
      refine (wordAt_c B nb cb _ lb k _ rb).mono ?_
      rintro e w' ⟨rfl, rfl⟩
      go_wp2_with (simp only [sub64 _ _ _ h1 h2 h3 q0 q1])
      go_roundw
      case rel =>
        exact ⟨k + 1, _, by omega, by go_num, (by rw [← bor_nat]; unfold at64; go_num), hst⟩
      case measure => simp [intOf]; omega
    · have : k = n := by omega
      subst this
      go_wp2
      go_ret2
      exact ⟨q, rfl, hrel⟩

/-- -1, 0 or 1. -/
def cmpN (x y : Nat) : Int := if x < y then -1 else if y < x then 1 else 0
def cmpI (x y : Int) : Int := if x < y then -1 else if y < x then 1 else 0
theorem cmpI_nat (x y : Nat) : cmpI x y = cmpN x y := by unfold cmpI cmpN; split <;> split <;> (try split) <;> omega

theorem cmpN_lt {x y : Nat} (h : x < y) : cmpN x y = -1 := by unfold cmpN; rw [if_pos h]
theorem cmpN_gt {x y : Nat} (h : y < x) : cmpN x y = 1 := by unfold cmpN; rw [if_neg (by omega), if_pos h]
theorem cmpN_eq (x : Nat) : cmpN x x = 0 := by unfold cmpN; rw [if_neg (by omega), if_neg (by omega)]
theorem cmp_words (la lb : List Nat) (ha : allLt la) (hb : allLt lb) (k n : Nat) (h : ∀ j, k < j → la.getD j 0 = lb.getD j 0) (hk : k < n) (hna : la.length ≤ n) (hnb : lb.length ≤ n)
    (hne : cmpN (la.getD k 0) (lb.getD k 0) ≠ 0) : cmpN (la.getD k 0) (lb.getD k 0) = cmpN (val 18446744073709551616 la) (val 18446744073709551616 lb) := by
  rw [← pv_out _ la n hna, ← pv_out _ lb n hnb]
  rcases Nat.lt_trichotomy (la.getD k 0) (lb.getD k 0) with h' | h' | h'
  · rw [cmpN_lt h', cmpN_lt (pv_less _ (by decide) la lb ha k n h h' hk)]
  · rw [h', cmpN_eq] at hne; exact absurd rfl hne
  · rw [cmpN_gt h', cmpN_gt (pv_less _ (by decide) lb la hb k n (fun j hj => (h j hj).symm) h' hk)]
theorem cmpN_zero {x y : Nat} (h : cmpN x y = 0) : x = y := by
  rcases Nat.lt_trichotomy x y with h' | h' | h'
  · rw [cmpN_lt h'] at h; omega
  · exact h'
  · rw [cmpN_gt h'] at h; omega

end Go.Proofs.YtlpccdbcaffmmaaDoor
/-
  avouchref01.Same, Cmp, Words: what each call does.
-/
namespace Go.Proofs.YtlpccdbcaffmmaaDoor
open Go.RowKit
set_option linter.unusedVariables false

/-- No block has turned, at any number. -/
def Still (w w' : World) : Prop := ∀ B, Below B w w'
theorem Still.refl (w : World) : Still w w := fun B => Below.refl B w
theorem Still.drewN {w w' : World} (h : Still w w') (n : Nat) : Still w (w'.drewN n) := fun B => below_drewN (h B) n
theorem Still.trans {a b c : World} (h : Still a b) (k : Still b c) : Still a c := fun B => (h B).trans (k B)

theorem same_of_all {la lb : List Nat} (hl : la.length = lb.length) (h : ∀ j, j < la.length → la.getD j 0 = lb.getD j 0) : la = lb := by
  apply List.ext_getElem hl
  intro i h1 h2
  have := h i h1
  simpa [List.getD_eq_getElem?_getD, List.getElem?_eq_getElem h1, List.getElem?_eq_getElem h2] using this

set_option maxHeartbeats 800000 in
theorem refCmp_c (A B : Option Addr) (na nb ca cb : Nat) (la lb : List Nat) (w : World) (C : Nat) (ha : Rd w C A na la) (hb : Rd w C B nb lb) (da : D32 la) (db : D32 lb) (hna : na ≤ 100000) (hnb : nb ≤ 100000) :
    Calls Tryd.prog 61 #[.slice A na ca, .slice B nb cb] w fun e w' => e = .returned (.int .i64 (cmpN (val 4294967296 la) (val 4294967296 lb))) ∧ w = w' := by
  have hla : la.length ≤ na + nb + 1 := by rw [ha.len]; omega
  have hlb : lb.length ≤ na + nb + 1 := by rw [hb.len]; omega
  go_enter Tryd.func61, Tryd.ntmps61
  go_wp2
  go_loop [5] (fun i => ∃ k : Nat, k ≤ na + nb + 1 ∧ i = .int .i64 ((k : Int) - 1) ∧ Hid (∀ j, k ≤ j → la.getD j 0 = lb.getD j 0)) (fun i => (intOf i + 1).toNat)
  case atStart =>
    refine ⟨na + nb + 1, Nat.le_refl _, by go_num, fun j hj => ?_⟩
    rw [getD_out la j (by omega), getD_out lb j (by omega)]
  case round =>
    obtain ⟨k, hk, rfl, H⟩ := hrel
    rcases k with _ | k
    · have HV : Hid (cmpN (val 4294967296 la) (val 4294967296 lb) = 0) := by
        show _ = _
        rw [← pv_out _ la _ hla, ← pv_out _ lb _ hlb, pv_congr _ la lb _ (fun i _ => H.out i (Nat.zero_le _)), cmpN_eq]
      go_wp2
      go_ret
      exact ⟨ret_int HV.out.symm, rfl⟩
    · have e1 : (((k + 1 : Nat) : Int) - 1) = (k : Int) := by omega
      rw [e1]
      have hk' : (k : Int) ≤ 200000 := by omega
      rcases Nat.lt_trichotomy (la.getD k 0) (lb.getD k 0) with hq | hq | hq
      · have hq' : at64 la k < at64 lb k := by unfold at64; omega
        have HV : Hid (cmpN (val 4294967296 la) (val 4294967296 lb) = -1) := by
          show _ = _
          rw [← pv_out _ la _ hla, ← pv_out _ lb _ hlb]
          exact cmpN_lt (pv_less _ (by decide) la lb da k _ (fun j hj => H.out j hj) hq (by omega))
        clear hq e1
        go_wp2_with (go_at_call 87; (first | (with_reducible refine (get_c A na ca _ la k _ ha).mono ?_) | (with_reducible refine (get_c B nb cb _ lb k _ hb).mono ?_)); rintro e w' ⟨rfl, rfl⟩)
        go_ret
        exact ⟨ret_int HV.out.symm, rfl⟩
      · have hq' : at64 la k = at64 lb k := by unfold at64; omega
        have hq1 : ¬ at64 la k < at64 lb k := by omega
        have hq2 : ¬ at64 lb k < at64 la k := by omega
        have H2 : Hid (∀ j, k ≤ j → la.getD j 0 = lb.getD j 0) := by
          intro j hj
          by_cases h : j = k
          · subst h; exact hq
          · exact H.out j (by omega)
        clear hq e1 hq'
        go_wp2_with (go_at_call 87; (first | (with_reducible refine (get_c A na ca _ la k _ ha).mono ?_) | (with_reducible refine (get_c B nb cb _ lb k _ hb).mono ?_)); rintro e w' ⟨rfl, rfl⟩)
        go_round
        case rel => exact ⟨k, by omega, rfl, H2⟩
        case measure => simp [intOf]
      · have hq' : at64 lb k < at64 la k := by unfold at64; omega
        have hq1 : ¬ at64 la k < at64 lb k := by omega
        have HV : Hid (cmpN (val 4294967296 la) (val 4294967296 lb) = 1) := by
          show _ = _
          rw [← pv_out _ la _ hla, ← pv_out _ lb _ hlb]
          exact cmpN_gt (pv_less _ (by decide) lb la db k _ (fun j hj => (H.out j hj).symm) hq (by omega))
        clear hq e1
        go_wp2_with (go_at_call 87; (first | (with_reducible refine (get_c A na ca _ la k _ ha).mono ?_) | (with_reducible refine (get_c B nb cb _ lb k _ hb).mono ?_)); rintro e w' ⟨rfl, rfl⟩)
        go_ret
        exact ⟨ret_int HV.out.symm, rfl⟩
end Go.Proofs.YtlpccdbcaffmmaaDoor
/-
  avouchref01.Words, Digits, Sub: what each call does.
-/
namespace Go.Proofs.YtlpccdbcaffmmaaDoor
open Go.RowKit
set_option linter.unusedVariables false

theorem Rd.drewN {w : World} {B n : Nat} {A : Option Addr} {l : List Nat} (h : Rd w B A n l) (k : Nat) : Rd (w.drewN k) B A n l := ⟨h.len, h.lt, h.cells⟩
theorem get_ci (A : Option Addr) (n c B : Nat) (l : List Nat) (k : Nat) (i : Int) (hi : i = (k : Int)) (w : World) (h : Rd w B A n l) :
    Calls Tryd.prog 87 #[.slice A n c, .int .i64 i] w fun e w' => e = .returned (.int .u64 (at64 l k)) ∧ w = w' := by
  subst hi; exact get_c A n c B l k w h
theorem get_s (A : Option Addr) (n c B : Nat) (l : List Nat) (k : Nat) (w : World) (h : Rd w B A n l) :
    Calls Tryd.prog 87 #[.slice A n c, .int .i64 k] w fun e w' => e = .returned (.int .u64 (at64 l k)) ∧ w' = w :=
  (get_c A n c B l k w h).mono fun _ _ ⟨h1, h2⟩ => ⟨h1, h2.symm⟩

/-- The slice of e is new, has n words, and reads as a list whose number is X. -/
def Wds (w : World) (e : Ending) (w' : World) (n X : Nat) : Prop :=
  ∃ A c l, e = .returned (.slice A n c) ∧ n ≤ c ∧ Rd w' w'.heap.size A n l ∧ val 18446744073709551616 l = X ∧ Below w.heap.size w w'

theorem pv_mod (W : Nat) (hW : 0 < W) (l : List Nat) (h : ∀ x ∈ l, x < W) (k : Nat) : pv W l k = val W l % W ^ k := by
  by_cases hk : l.length ≤ k
  · have b := val_lt W hW l h
    have : W ^ l.length ≤ W ^ k := Nat.pow_le_pow_right hW hk
    rw [pv_out W l k hk, Nat.mod_eq_of_lt (by omega)]
  · have e := pv_drop W l k (l.length - k)
    rw [show k + (l.length - k) = l.length by omega] at e
    have b := pv_lt W hW l h k
    unfold val
    rw [e, Nat.add_mul_mod_self_left, Nat.mod_eq_of_lt b]

theorem words_step (v p x y P : Nat) (h : v = p) : v + (x + y * 4294967296) * P = (p + x * P) + y * (P * 4294967296) := by subst h; grind
theorem pow64 (k : Nat) : 18446744073709551616 ^ k = 4294967296 ^ (2 * k) := by
  rw [Nat.pow_mul]

set_option maxHeartbeats 400000 in
theorem words_c (A : Option Addr) (nd cd : Nat) (d : List Nat) (n : Nat) (N : Int) (hN : N = (n : Int)) (w : World) (ha : Rd w w.heap.size A nd d) (dd : D32 d) (hn : n ≤ 10000) :
    Calls Tryd.prog 66 #[.slice A nd cd, .int .i64 N] w fun e w' => Wds w e w' n (val 4294967296 d % 18446744073709551616 ^ n) := by
  subst hN
  have hmk := make64I 0 n (Nat.zero_le _) (by omega) 0 (n : Int) rfl rfl
  go_enter Tryd.func66, Tryd.ntmps66
  go_wp2
  clear hmk
  go_loopw [5, 6] (fun v i wr => ∃ k : Nat, ∃ l : List Nat, k ≤ n ∧ i = .int .i64 k ∧ Hid (l.length = k) ∧ OwnW wr w.heap.size v l ∧ Below w.heap.size w wr ∧ Hid (val 18446744073709551616 l = pv 4294967296 d (2 * k))) (fun _ i _ => n - (intOf i).toNat)
  case atStart => exact ⟨0, [], Nat.zero_le _, rfl, rfl, own_made w n (by omega), (Below.refl _ _).alloc (Nat.le_refl _) _, rfl⟩
  case round =>
    obtain ⟨k, l, hk, rfl, HL, hown, hbl, HE⟩ := hrel
    by_cases hlt : k < n
    · have ra := ha.below hbl (Nat.le_refl _)
      have h1 := at64_nonneg d (2 * k)
      have h1' := at64_d32 dd (2 * k)
      have h2 := at64_nonneg d (2 * k + 1)
      have h2' := at64_d32 dd (2 * k + 1)
      have hsz := hbl.size
      have hl' : l.length ≤ 100000 := by rw [HL.out]; omega
      go_wp2_with fail
      refine (get_ci A nd cd _ d (2 * k) _ (by omega) _ ra).mono ?_
      rintro e w' ⟨rfl, rfl⟩
      go_wp2_with fail
      refine (get_ci A nd cd _ d (2 * k + 1) _ (by omega) _ ra).mono ?_
      rintro e w' ⟨rfl, rfl⟩
      go_wp2_with (at_builtin; refine append_word rfl (.tmp 14) (.tmp 26) rfl w.heap.size _ l rfl hown _ (d.getD (2 * k) 0 + d.getD (2 * k + 1) 0 * 4294967296) ?e1 ?e2 rfl hl' hsz ?_)
      case e1 => unfold at64; omega
      case e2 => unfold at64 at h1' h2'; omega
      intro v' w' hown' hb'
      have hb2 := hbl.trans hb'
      have HL2 : Hid ((l ++ [d.getD (2 * k) 0 + d.getD (2 * k + 1) 0 * 4294967296]).length = k + 1) := by show _ = _; rw [List.length_append, HL.out]; rfl
      have HE2 : Hid (val 18446744073709551616 (l ++ [d.getD (2 * k) 0 + d.getD (2 * k + 1) 0 * 4294967296]) = pv 4294967296 d (2 * (k + 1))) := by
        show _ = _
        rw [val_append, HL.out, show 2 * (k + 1) = 2 * k + 1 + 1 by omega, pv_succ, pv_succ, Nat.pow_succ, pow64]
        exact words_step _ _ _ _ _ HE.out
      go_wp2
      go_roundw
      case rel => exact ⟨k + 1, _, by omega, by go_num, HL2, hown', hb2, HE2⟩
      case measure => simp [intOf]; omega
    · have hkn : k = n := by omega
      have HV : Hid (val 18446744073709551616 l = val 4294967296 d % 18446744073709551616 ^ n) := by
        show _ = _
        rw [HE.out, pow64, ← pv_mod _ (by decide) d dd, hkn]
      have HN : Hid (l.length = n) := by show _ = _; rw [HL.out, hkn]
      clear hkn
      obtain ⟨A', c', rfl, hc', rd'⟩ := hown.rd
      rw [HN.out] at rd' hc' ⊢
      go_wp2
      go_ret
      exact ⟨A', c', l, rfl, hc', rd', HV.out, hbl⟩
end Go.Proofs.YtlpccdbcaffmmaaDoor
/-
  avouchref01.Digits, Sub: what each call does.
-/
namespace Go.Proofs.YtlpccdbcaffmmaaDoor
open Go.RowKit
set_option linter.unusedVariables false

theorem digits_step (p x P : Nat) : p + x % 4294967296 * P + x / 4294967296 * (P * 4294967296) = p + x * P := by
  have : (x % 4294967296 + 4294967296 * (x / 4294967296)) * P = x * P := by rw [Nat.mod_add_div]
  grind

theorem two_cells (w : World) (X Y : Int) (m n : Nat) (hX : X = (m : Int)) (hY : Y = (n : Int)) (i : Nat) (hi : i < [m, n].length) :
    (w.alloc (.cells #[.int .u64 X, .int .u64 Y] 27)).drew.cell? ⟨w.heap.size, i, none⟩ = some (.int .u64 (at64 [m, n] i)) := by
  subst hX hY
  show (w.alloc (.cells #[.int .u64 (m : Int), .int .u64 (n : Int)] 27)).cell? ⟨w.heap.size, i, none⟩ = _
  have : i = 0 ∨ i = 1 := by simp at hi; omega
  rcases this with rfl | rfl <;> simp [at64]

end Go.Proofs.YtlpccdbcaffmmaaDoor
