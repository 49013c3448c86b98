/-
  avouchref01.Mod gives digits in memory that was not there before (with Add and Sub, on which it leans).
-/
import Derived.Test.YtdepkfdceidikaaGreatDoorLOpsC
import Derived.Test.YtdepkfdceidikaaGreatDoorCalI
import Derived.Test.YtdepkfdceidikaaGreatDoorEvS
namespace Go.Proofs.YtdepkfdceidikaaGreatDoor
open Go.RowKit
set_option linter.unusedVariables false

/-- What the slice v holds lies in no block of w. -/
def FreshV (w : World) (v : Value) : Prop := ∀ A n c, v = .slice A n c → ∀ a : Addr, A = some a → w.heap.size ≤ a.block
theorem freshV_mk {w : World} {b o n c : Nat} (h : w.heap.size ≤ b) : Hid (FreshV w (.slice (some ⟨b, o, none⟩) n c)) := by
  intro A n' c' e a ha
  injection e with e1
  rw [← e1] at ha
  injection ha with ha
  subst ha
  exact h
theorem FreshV.mono {w w' : World} {v : Value} (h : FreshV w' v) (hb : w.heap.size ≤ w'.heap.size) : FreshV w v := fun A n c e a ha => Nat.le_trans hb (h A n c e a ha)
/-- As Dig, in new memory. -/
def DigF (w : World) (e : Ending) (w' : World) (X : Nat) : Prop :=
  ∃ A c l, e = .returned (.slice A l.length c) ∧ l.length ≤ c ∧ Rd w' w'.heap.size A l.length l ∧ D32 l ∧ Tr l ∧ val 4294967296 l = X ∧ Below w.heap.size w w' ∧ ∀ a : Addr, A = some a → w.heap.size ≤ a.block
theorem DigF.dig {w w' : World} {e : Ending} {X : Nat} (h : DigF w e w' X) : Dig w e w' X := by
  obtain ⟨A, c, l, h1, h2, h3, h4, h5, h6, h7, h8⟩ := h
  exact ⟨A, c, l, h1, h2, h3, h4, h5, h6, h7⟩
theorem DigF.vF {w w' : World} {e : Ending} {X : Nat} (h : DigF w e w' X) : ∃ v, e = .returned v ∧ DigV w' v X ∧ Below w.heap.size w w' ∧ FreshV w v := by
  obtain ⟨A, c, l, h1, h2, h3, h4, h5, h6, h7, h8⟩ := h
  exact ⟨_, h1, ⟨A, c, l, rfl, h2, h3, h4, h5, h6⟩, h7, fun A' n' c' e a ha => h8 a (by injection e with e1; rw [e1]; exact ha)⟩
theorem trim_ownF {w w1 : World} {v : Value} {l : List Nat} (h : OwnW w1 w.heap.size v l) (hd : D32 l) (hb : Below w.heap.size w w1) (hl : l.length ≤ 100000) :
    Calls Tryz.prog 58 #[v] w1 fun e w' => DigF w e w' (val 4294967296 l) := by
  obtain ⟨A, c, hv, hc, hr⟩ := h.rd
  have hfr : ∀ a : Addr, A = some a → w.heap.size ≤ a.block := fun a ha => (h.own.lt a.block (by rw [hv, ha]; rfl)).1
  subst hv
  refine (trim_c A l.length c _ l w1 hr hl hc).mono ?_
  rintro e w' ⟨m, hm, he, hw, ht, hz⟩
  obtain ⟨A', c', l', e1, q⟩ := dig_of_trim hr hd hb hm hc he hw ht hz
  have hA : A = A' := by
    rw [he] at e1
    injection e1 with e1
    injection e1
  subst hA
  exact ⟨A, c', l', e1, q.1, q.2.1, q.2.2.1, q.2.2.2.1, q.2.2.2.2.1, q.2.2.2.2.2, hfr⟩
set_option maxHeartbeats 400000 in
theorem refAddF_n (n : Nat) (A B : Option Addr) (na nb ca cb : Nat) (la lb : List Nat) (w : World) (ha : Rd w w.heap.size A na la) (hb : Rd w w.heap.size B nb lb) (da : D32 la) (db : D32 lb) (hna : na ≤ 10000) (hnb : nb ≤ 10000)
    (hn : (na < nb ∧ n = nb) ∨ (¬ na < nb ∧ n = na)) :
    Calls Tryz.prog 67 #[.slice A na ca, .slice B nb cb] w fun e w' => DigF w e w' (val 4294967296 la + val 4294967296 lb) := by
  have hla : la.length ≤ n := by rw [ha.len]; omega
  have hlb : lb.length ≤ n := by rw [hb.len]; omega
  have hn1 : n ≤ 10000 := by omega
  have hmk := make64I 0 (n + 1) (Nat.zero_le _) (by omega) 0 ((n : Int) + 1) rfl (by omega)
  rcases hn with ⟨hlt, rfl⟩ | ⟨hlt, rfl⟩
  all_goals
    go_enter Tryz.func67, Tryz.ntmps67
    go_wp2
    clear hmk
    go_loopw [6, 7, 8] (fun v c i wr => ∃ k q : Nat, k ≤ n + 1 ∧ i = .int .i64 k ∧ c = .int .u64 q ∧ RAddRel w la lb v wr k q) (fun _ _ i _ => n + 1 - (intOf i).toNat)
    case atStart => exact ⟨0, 0, Nat.zero_le _, rfl, rfl, [], rfl, own_made w _ (by omega), fun x hx => by simp at hx, (Below.refl _ _).alloc (Nat.le_refl _) _, by omega, by simp [pv, val]⟩
    case round =>
      obtain ⟨k, q, hk, rfl, rfl, hrel⟩ := hrel
      obtain ⟨l, hlen, hown, hd, hbl, hq, he⟩ := id hrel
      by_cases hlt2 : k ≤ n
      · have ra := ha.below hbl (Nat.le_refl _)
        have rb := hb.below hbl (Nat.le_refl _)
        have h1 := at64_nonneg la k
        have h1' := at64_d32 da k
        have h2 := at64_nonneg lb k
        have h2' := at64_d32 db k
        have hsz := hbl.size
        have HE := hid he
        have HL := hid hlen
        have hl' : l.length ≤ 100000 := by omega
        clear he hlen
        go_wp2_with fail
        refine (get_c A _ ca _ la k _ ra).mono ?_
        rintro e w' ⟨rfl, rfl⟩
        go_wp2_with fail
        refine (get_c B _ cb _ lb k _ rb).mono ?_
        rintro e w' ⟨rfl, rfl⟩
        go_wp2_with (at_builtin; refine append_word rfl (.tmp 35) (.tmp 38) rfl w.heap.size _ l rfl hown _ ((la.getD k 0 + lb.getD k 0 + q) % 4294967296) ?e1 ?e2 rfl hl' hsz ?_)
        case e1 => unfold at64; omega
        case e2 => omega
        intro v' w' hown' hb'
        have hst := RAddRel.step (w := w) da db HL.out hd hbl hq HE.out hown' hb'
        go_wp2
        go_roundw
        case rel => exact ⟨k + 1, _, by omega, by go_num, (by unfold at64; go_num), hst⟩
        case measure => simp [intOf]; omega
      · have hk1 : k = n + 1 := by omega
        have HV : Hid (val 4294967296 l = val 4294967296 la + val 4294967296 lb) := by
          have b1 : pv 4294967296 la k < 4294967296 ^ n := by
            rw [pv_out _ la k (by omega), ← pv_out _ la n hla]; exact pv_lt _ (by decide) la da n
          have b2 : pv 4294967296 lb k < 4294967296 ^ n := by
            rw [pv_out _ lb k (by omega), ← pv_out _ lb n hlb]; exact pv_lt _ (by decide) lb db n
          have b3 : q = 0 := by
            rw [hk1, Nat.pow_succ] at he
            rw [hk1] at b1 b2
            rcases Nat.eq_zero_or_pos q with h | h
            · exact h
            · have : q = 1 := by omega
              subst this
              omega
          subst b3
          rw [← pv_out _ la k (by omega), ← pv_out _ lb k (by omega)]
          rw [Nat.zero_mul, Nat.add_zero] at he
          exact he
        have hl' : l.length ≤ 100000 := by omega
        have HL := hid hlen
        have HE := hid he
        have hkn : ¬ k ≤ n := hlt2
        have HK := hid hk1
        clear hlen he hk1
        go_wp2_with fail
        refine (trim_ownF (w := w) hown hd hbl hl').mono ?_
        rintro e w' hD
        rw [HV.out] at hD
        obtain ⟨A', c', l', rfl, r'⟩ := hD
        have R := hid r'
        clear r'
        go_wp2
        go_ret
        exact ⟨A', c', l', rfl, R.out⟩
theorem refAddF_c (A B : Option Addr) (na nb ca cb : Nat) (la lb : List Nat) (w : World) (ha : Rd w w.heap.size A na la) (hb : Rd w w.heap.size B nb lb) (da : D32 la) (db : D32 lb) (hna : na ≤ 10000) (hnb : nb ≤ 10000) :
    Calls Tryz.prog 67 #[.slice A na ca, .slice B nb cb] w fun e w' => DigF w e w' (val 4294967296 la + val 4294967296 lb) := by
  by_cases h : na < nb
  · exact refAddF_n nb A B na nb ca cb la lb w ha hb da db hna hnb (.inl ⟨h, rfl⟩)
  · exact refAddF_n na A B na nb ca cb la lb w ha hb da db hna hnb (.inr ⟨h, rfl⟩)
set_option maxHeartbeats 400000 in
theorem refSubF_c (A B : Option Addr) (na nb ca cb : Nat) (la lb : List Nat) (w : World) (ha : Rd w w.heap.size A na la) (hb : Rd w w.heap.size B nb lb) (da : D32 la) (db : D32 lb) (hna : na ≤ 10000)
    (hle : val 4294967296 lb ≤ val 4294967296 la) :
    Calls Tryz.prog 68 #[.slice A na ca, .slice B nb cb] w fun e w' => DigF w e w' (val 4294967296 la - val 4294967296 lb) := by
  have hmk := make64I 0 na (Nat.zero_le _) (by omega) 0 (na : Int) rfl rfl
  go_enter Tryz.func68, Tryz.ntmps68
  go_wp2
  clear hmk
  go_loopw [5, 6, 7] (fun v c i wr => ∃ k q : Nat, ∃ l : List Nat, k ≤ na ∧ i = .int .i64 k ∧ c = .int .u64 q ∧ Hid (l.length = k) ∧ OwnW wr w.heap.size v l ∧ Hid (D32 l) ∧ Below w.heap.size w wr ∧ q ≤ 1 ∧
    Hid (val 4294967296 l + pv 4294967296 lb k = pv 4294967296 la k + q * 4294967296 ^ k)) (fun _ _ i _ => na - (intOf i).toNat)
  case atStart => exact ⟨0, 0, [], Nat.zero_le _, rfl, rfl, rfl, own_made w _ (by omega), fun x hx => by simp at hx, (Below.refl _ _).alloc (Nat.le_refl _) _, by omega, by show _ = _; simp [pv, val]⟩
  case round =>
    obtain ⟨k, q, l, hk, rfl, rfl, HL, hown, HD, hbl, hq, HE⟩ := hrel
    by_cases hlt : k < na
    · have ra := ha.below hbl (Nat.le_refl _)
      have rb := hb.below hbl (Nat.le_refl _)
      obtain ⟨ba, oa, rfl, hba, hca⟩ := ra.at_ hlt
      have h1 := at64_nonneg la k
      have h1' := at64_d32 da k
      have h2 := at64_nonneg lb k
      have h2' := at64_d32 db k
      have hsz := hbl.size
      have hl' : l.length ≤ 100000 := by rw [HL.out]; omega
      have hi0 : (0 : Int) ≤ (k : Int) := by omega
      have hi1 : (k : Int) < (na : Int) := by omega
      obtain ⟨g1, g2⟩ := rsub_word (la.getD k 0) (lb.getD k 0) q (by unfold at64 at h1'; omega) (by unfold at64 at h2'; omega) hq
      have HG := hid g1
      have HG2 := hid g2
      have e1 : IntKind.u64.wrap (4294967296 + at64 la k) = 4294967296 + at64 la k := by rw [IntKind.wrap_u64]; omega
      have e2 : IntKind.u64.wrap (4294967296 + at64 la k - at64 lb k) = 4294967296 + at64 la k - at64 lb k := by rw [IntKind.wrap_u64]; omega
      have e3 : IntKind.u64.wrap (4294967296 + at64 la k - at64 lb k - q) = 4294967296 + at64 la k - at64 lb k - q := by rw [IntKind.wrap_u64]; omega
      have hs0 : 0 ≤ 4294967296 + at64 la k - at64 lb k - q := by omega
      clear g1 g2
      go_wp2
      go_quiet ((go_at_call 79; exact Calls.quiet_of_same (get_s B nb cb _ lb k _ (rb.drewN _))))
      clear e1 e2 e3
      have hown2 := hown.drewN nq
      have hbl2 := below_drewN hbl nq
      have hsz2 : w.heap.size ≤ (wr.drewN nq).heap.size := hsz
      generalize wr.drewN nq = w2 at hown2 hbl2 hsz2 ⊢
      have HS : Hid (4294967296 + at64 la k - at64 lb k - q = ((4294967296 + la.getD k 0 - lb.getD k 0 - q : Nat) : Int)) := by show _ = _; unfold at64 at h1 h1' h2 h2' ⊢; omega
      have hs1 : 4294967296 + at64 la k - at64 lb k - q < 8589934592 := by omega
      generalize 4294967296 + at64 la k - at64 lb k - (q : Int) = S at hs0 HS hs1 ⊢
      clear hown hbl hsz
      have hs2 : S / 4294967296 ≤ 1 := by omega
      have hs3 : 0 ≤ S / 4294967296 := by omega
      go_wp2_with (at_builtin; refine append_word rfl (.tmp 29) (.tmp 32) rfl w.heap.size _ l rfl hown2 _ ((4294967296 + la.getD k 0 - lb.getD k 0 - q) % 4294967296) ?e1 ?e2 rfl hl' hsz2 ?_)
      case e1 => rw [HS.out]; omega
      case e2 => omega
      intro v' w' hown' hb'
      have hb2 := hbl2.trans hb'
      have HL2 : Hid ((l ++ [(4294967296 + la.getD k 0 - lb.getD k 0 - q) % 4294967296]).length = k + 1) := by show _ = _; rw [List.length_append, HL.out]; rfl
      have HD2 : Hid (D32 (l ++ [(4294967296 + la.getD k 0 - lb.getD k 0 - q) % 4294967296])) := by
        intro x hx
        rcases List.mem_append.1 hx with h | h
        · exact HD.out x h
        · simp only [List.mem_cons, List.not_mem_nil, or_false] at h; omega
      have HE2 : Hid (val 4294967296 (l ++ [(4294967296 + la.getD k 0 - lb.getD k 0 - q) % 4294967296]) + pv 4294967296 lb (k + 1) = pv 4294967296 la (k + 1) + (1 - (4294967296 + la.getD k 0 - lb.getD k 0 - q) / 4294967296) * 4294967296 ^ (k + 1)) := by
        show _ = _
        rw [val_append, HL.out, pv_succ, pv_succ, Nat.pow_succ]
        exact sub_step _ _ _ _ q _ _ _ _ _ HE.out HG.out
      go_wp2
      go_roundw
      case rel => exact ⟨k + 1, _, _, by omega, by go_num, (by have hN : 4294967296 + la.getD k 0 - lb.getD k 0 - q < 8589934592 := (by unfold at64 at h1'; omega); rw [HS.out]; go_num), HL2, hown', HD2, hb2, HG2.out, HE2⟩
      case measure => simp [intOf]; omega
    · have hkn : k = na := by omega
      have HV : Hid (val 4294967296 l = val 4294967296 la - val 4294967296 lb) := by
        show _ = _
        have h := HE.out
        have b1 := val_lt _ (by decide) l HD.out
        have b2 := val_lt _ (by decide) la da
        rw [HL.out] at b1
        rw [ha.len] at b2
        have hl2 : la.length = na := ha.len
        rw [pv_mod _ (by decide) lb db, hkn, pv_out _ la na (by omega), Nat.mod_eq_of_lt (by omega)] at h
        rw [hkn] at b1
        rcases Nat.eq_zero_or_pos q with h0 | h0
        · subst h0; rw [Nat.zero_mul] at h; omega
        · have : q = 1 := by omega
          subst this; rw [Nat.one_mul] at h; omega
      have hl' : l.length ≤ 100000 := by rw [HL.out]; omega
      clear hkn
      go_wp2_with fail
      refine (trim_ownF (w := w) hown HD.out hbl hl').mono ?_
      rintro e w' hD
      rw [HV.out] at hD
      obtain ⟨A', c', l', rfl, r'⟩ := hD
      have R := hid r'
      clear r'
      go_wp2
      go_ret
      exact ⟨A', c', l', rfl, R.out⟩
set_option maxHeartbeats 4000000 in
theorem modF_c (A M : Option Addr) (na nm ca cm : Nat) (la lm : List Nat) (w : World) (ha : Rd w w.heap.size A na la) (hm : Rd w w.heap.size M nm lm) (da : D32 la) (dm : D32 lm) (hna : na ≤ 1000) (hnm : nm ≤ 1000) (hpos : 0 < val 4294967296 lm) :
    Calls Tryz.prog 62 #[.slice A na ca, .slice M nm cm] w fun e w' => DigF w e w' (val 4294967296 la % val 4294967296 lm) := by
  have HM : Hid (val 4294967296 lm < 4294967296 ^ nm) := by have := val_lt _ (by decide) lm dm; rw [hm.len] at this; exact this
  go_enter Tryz.func62, Tryz.ntmps62
  go_wp2
  go_loopw [6] (fun i wr => ∃ k : Nat, k ≤ 9 ∧ i = .int .i64 k ∧ Times w w.heap.size (val 4294967296 lm) k wr) (fun i _ => 9 - (intOf i).toNat)
  case atStart => exact ⟨0, by omega, rfl, Times.zero w _ _ _ (by intro j hj; match j, hj with | 0, _ => rfl | 1, _ => rfl | 2, _ => rfl | 3, _ => rfl | 4, _ => rfl | 5, _ => rfl | 6, _ => rfl | 7, _ => rfl | 8, _ => rfl)⟩
  case round =>
    obtain ⟨k, hk, rfl, hT⟩ := hrel
    by_cases hlt : k < 9
    · have rm := (hm.below hT.below (Nat.le_refl _)).more (Nat.le_of_lt hT.has)
      go_wp2_with fail
      refine (shift_c M nm cm lm k _ rm dm (by omega) (by omega)).mono ?_
      rintro e w' hD
      obtain ⟨v, rfl, hv, hb⟩ := hD.v
      have hT' := hT.keep hb
      have hcell := hT'.rest k (Nat.le_refl _) hlt
      have hfz := hT'.thaw k
      have hst := hT.step hlt hb v hv
      obtain ⟨A', c', l', rfl, r'⟩ := hv
      clear r' hD
      go_wp2
      go_roundw
      case rel => exact ⟨k + 1, by omega, by go_num, hst⟩
      case measure => simp [intOf]; omega
    · have hT9 : Times w w.heap.size (val 4294967296 lm) 9 wr := by
        obtain rfl : k = 9 := by omega
        exact hT
      clear hT
      have hT := hT9
      clear hT9
      go_wp2
      go_loopw [7, 8] (fun r i wj => ∃ k : Nat, k ≤ 4 * na ∧ i = .int .i64 ((k : Int) - 1) ∧ Hid (DigV wj r (val 4294967296 la / 256 ^ k % val 4294967296 lm)) ∧ Times w w.heap.size (val 4294967296 lm) 9 wj ∧ Hid (FreshV w r)) (fun _ i _ => (intOf i + 1).toNat)
      case atStart =>
        refine ⟨4 * na, Nat.le_refl _, by go_num, ?_, hT.keep ((Below.refl _ _).alloc (Nat.le_refl _) _), freshV_mk hT.below.size⟩
        have e0 : val 4294967296 la / 256 ^ (4 * na) = 0 := by
          have := val_lt _ (by decide) la da
          rw [ha.len] at this
          rw [Nat.pow_mul]
          exact Nat.div_eq_of_lt this
        rw [e0, Nat.zero_mod]
        exact ⟨_, 0, [], rfl, Nat.le_refl _, Rd.nil _ _ _, fun x hx => by simp at hx, .inl rfl, rfl⟩
      case round =>
        obtain ⟨k, hk, rfl, HR, hT2, hFr⟩ := hrel
        rcases k with _ | k
        · have hD := HR.out
          rw [Nat.pow_zero, Nat.div_one] at hD
          obtain ⟨A', c', l', rfl, r'⟩ := hD
          have R := hid r'
          have hbl := hT2.below
          clear r' HR hT hT2
          go_wp2
          go_ret
          exact ⟨A', c', l', rfl, R.out.1, R.out.2.1, R.out.2.2.1, R.out.2.2.2.1, R.out.2.2.2.2, hbl, fun a ha => hFr.out _ _ _ rfl a ha⟩
        · have e1 : (((k + 1 : Nat) : Int) - 1) = (k : Int) := by omega
          rw [e1]
          have ra := ha.below hT2.below (Nat.le_refl _)
          have hlt4 : k / 4 < na := by omega
          obtain ⟨ba, oa, rfl, hba, hca⟩ := ra.at_ hlt4
          have h1 := at64_nonneg la (k / 4)
          have h1' := at64_d32 da (k / 4)
          have hk3 : (k : Int) % 4 ≤ 3 := by omega
          clear e1
          obtain ⟨w1, rfl⟩ : ∃ x, x = wr := ⟨wr, rfl⟩
          go_wp2
          go_loop [9, 10] (fun d i => ∃ t q : Nat, t ≤ k % 4 ∧ i = .int .i64 t ∧ d = .int .u64 q ∧ q < 4294967296 ∧ Hid (q = la.getD (k / 4) 0 / 256 ^ t)) (fun _ i => 4 - (intOf i).toNat)
          case atStart => exact ⟨0, la.getD (k / 4) 0, Nat.zero_le _, rfl, rfl, (by unfold at64 at h1'; omega), (by show _ = _; rw [Nat.pow_zero, Nat.div_one])⟩
          case round =>
            obtain ⟨t, q, ht, rfl, rfl, hq, HQ⟩ := hrel
            by_cases hlt3 : t < k % 4
            · have hlt3' : (t : Int) < (k : Int) % 4 := by omega
              have HQ2 : Hid (q / 256 = la.getD (k / 4) 0 / 256 ^ (t + 1)) := by show _ = _; rw [HQ.out, Nat.div_div_eq_div_mul, Nat.pow_succ]
              go_wp2
              go_round
              case rel => exact ⟨t + 1, q / 256, by omega, by go_num, by go_num, by omega, HQ2⟩
              case measure => simp [intOf]; omega
            · have htk : t = k % 4 := by omega
              have hlt3' : ¬ (t : Int) < (k : Int) % 4 := by omega
              have HB : Hid (q % 256 = val 4294967296 la / 256 ^ k % 256) := by show _ = _; rw [HQ.out, htk, byte_at la da k]
              obtain ⟨Ar, cr, lr, rfl, hcr, rr, dr, tr, vr⟩ := HR.out
              have HV := hid vr
              have hlr : lr.length ≤ nm + 1 := tr_len tr _ (by
                rw [vr]; exact Nat.lt_of_lt_of_le (Nat.lt_trans (Nat.mod_lt _ hpos) HM.out) (Nat.pow_le_pow_right (by decide) (Nat.le_succ _)))
              have HT := hid htk
              clear vr htk HR HQ hT
              have r1 := rd_one w1 256 256 rfl (by omega)
              have hbl1 : Below w1.heap.size w1 (w1.alloc (.cells #[.int .u64 256] 34)) := (Below.refl _ _).alloc (Nat.le_refl _) _
              have rr1 := (rr.below hbl1 (Nat.le_refl _)).more (B' := w1.heap.size + 1) (by omega)
              have hz : (w1.alloc (.cells #[.int .u64 256] 34)).heap.size = w1.heap.size + 1 := by simp
              rw [← hz] at r1 rr1
              have HZ := hid hz
              clear hz
              go_wp2_with fail
              refine (refMul_c Ar _ _ 1 cr 1 lr [256] _ rr1 r1 dr (d32_one (by omega)) (by omega) (by omega)).mono ?_
              rintro e w2 hD
              rw [val_one] at hD
              obtain ⟨A2, c2, l2, rfl, hc2, rd2, d2, t2, v2, b2⟩ := hD
              have B2 : Below w1.heap.size w1 w2 := hbl1.trans (b2.mono (by rw [HZ.out]; omega))
              have HV2 := hid v2
              have r3 := rd_one w2 ((q : Int) % 256) (q % 256) (by omega) (by omega)
              clear v2 b2 r1 rr1 hbl1
              have hz2 : (w2.alloc (.cells #[.int .u64 ((q : Int) % 256)] 34)).heap.size = w2.heap.size + 1 := by simp
              rw [← hz2] at r3
              have HZ2 := hid hz2
              have hbl2 : Below w2.heap.size w2 (w2.alloc (.cells #[.int .u64 ((q : Int) % 256)] 34)) := (Below.refl _ _).alloc (Nat.le_refl _) _
              clear hz2
              go_wp2_with fail
              refine (trim_c _ 1 1 _ [q % 256] _ r3 (by omega) (Nat.le_refl _)).mono ?_
              rintro e w3 ⟨m3, hm3, he3, hw3, ht3, hz3⟩
              have hD3 := dig_of_trim r3 (d32_one (by omega)) hbl2 hm3 (Nat.le_refl _) he3 hw3 ht3 hz3
              rw [val_one] at hD3
              clear hm3 he3 hw3 ht3 hz3 r3
              obtain ⟨A3, c3, l3, rfl, hc3, rd3, d3, t3, v3, b3⟩ := hD3
              have HV3 := hid v3
              have rd2' := rd2.up b3 (Nat.le_refl _)
              have B3 : Below w1.heap.size w1 w3 := B2.trans (b3.mono B2.size)
              have hl2 : l2.length ≤ nm + 2 := tr_len t2 _ (by
                rw [HV2.out, HV.out]
                show _ < 4294967296 ^ (nm + 1) * 4294967296
                have h1 : val 4294967296 la / 256 ^ (k + 1) % val 4294967296 lm < 4294967296 ^ (nm + 1) := Nat.lt_of_lt_of_le (Nat.lt_trans (Nat.mod_lt _ hpos) HM.out) (Nat.pow_le_pow_right (by decide) (Nat.le_succ _))
                generalize val 4294967296 la / 256 ^ (k + 1) % val 4294967296 lm = a at h1 ⊢
                generalize 4294967296 ^ (nm + 1) = P at h1 ⊢
                omega)
              have hl3 : l3.length ≤ 1 := tr_len t3 1 (by rw [HV3.out]; omega)
              clear v3 b3 rd2 hbl2
              go_wp2_with fail
              refine (refAddF_c A2 A3 _ _ c2 c3 l2 l3 _ rd2' rd3 d2 d3 (by omega) (by omega)).mono ?_
              rintro e w4 hD4
              rw [HV2.out, HV.out, HV3.out, HB.out] at hD4
              obtain ⟨v4, rfl, hv4, b4, f4⟩ := hD4.vF
              have B4 : Below w1.heap.size w1 w4 := B3.trans (b4.mono B3.size)
              have hT4 := hT2.keep B4
              have hF4 : Hid (FreshV w v4) := hid (f4.mono (Nat.le_trans hT2.below.size B3.size))
              have HV4 := hid hv4
              clear hD4 f4 hv4 rd2' rd3 b4
              obtain ⟨R0, hR0⟩ : ∃ R0 : Nat, R0 = val 4294967296 la / 256 ^ (k + 1) % val 4294967296 lm * 256 + val 4294967296 la / 256 ^ k % 256 := ⟨_, rfl⟩
              have HR0 := hid hR0
              rw [← hR0] at HV4
              clear hR0
              go_wp2
              go_loopw [7, 11] (fun r i wj => ∃ t R : Nat, t ≤ 9 ∧ i = .int .i64 ((t : Int) - 1) ∧ Hid (DigV wj r R ∧ R % val 4294967296 lm = R0 % val 4294967296 lm ∧ R < val 4294967296 lm * 2 ^ t) ∧ Times w w.heap.size (val 4294967296 lm) 9 wj ∧ Hid (FreshV w r)) (fun _ i _ => (intOf i + 1).toNat)
              case atStart =>
                refine ⟨9, R0, Nat.le_refl _, rfl, ⟨HV4.out, rfl, ?_⟩, hT4, hF4⟩
                have h1 := Nat.mod_lt (val 4294967296 la / 256 ^ (k + 1)) hpos
                rw [HR0.out]
                generalize val 4294967296 la / 256 ^ (k + 1) % val 4294967296 lm = a at h1
                omega
              case round =>
                obtain ⟨t', R, ht', rfl, HC, hT5, hFr5⟩ := hrel
                rcases t' with _ | t'
                · have HF : Hid (DigV wr u7 (val 4294967296 la / 256 ^ k % val 4294967296 lm)) := by
                    obtain ⟨h1, h2, h3⟩ := HC.out
                    rw [Nat.pow_zero, Nat.mul_one] at h3
                    rw [Nat.mod_eq_of_lt h3, HR0.out, mod_step] at h2
                    rw [← h2]; exact h1
                  clear HC
                  go_wp2
                  go_roundw
                  case rel => exact ⟨k, by omega, by go_num, HF, hT5, hFr5⟩
                  case measure => simp [intOf]
                · have e1 : (((t' + 1 : Nat) : Int) - 1) = (t' : Int) := by omega
                  rw [e1]
                  clear e1
                  obtain ⟨vt, hct, hdt⟩ := hT5.laid t' (by omega)
                  obtain ⟨hdr, hmr, hlr5⟩ := HC.out
                  have HMR := hid hmr
                  have HLR := hid hlr5
                  obtain ⟨At, ct, lt, rfl, hct', rt, dt, tt, vt⟩ := hdt
                  obtain ⟨A5, c5, l5, rfl, hc5, rd5, d5, t5, v5⟩ := hdr
                  have HVT := hid vt
                  have HV5 := hid v5
                  have hlt5 : lt.length ≤ nm + 1 := tr_len tt _ (by rw [vt]; exact pow_le_of HM.out (by omega))
                  have hl5 : l5.length ≤ nm + 1 := tr_len t5 _ (by rw [v5]; exact Nat.lt_trans hlr5 (pow_le_of HM.out (by omega)))
                  clear hmr hlr5 vt v5 HC
                  by_cases hge : val 4294967296 lm * 2 ^ t' ≤ R
                  · have hge5 : val 4294967296 lt ≤ val 4294967296 l5 := by rw [HVT.out, HV5.out]; exact hge
                    have hcm : 0 ≤ cmpN (val 4294967296 l5) (val 4294967296 lt) := by
                      unfold cmpN; rw [if_neg (by omega)]; split <;> decide
                    have HGE := hid hge
                    clear hge
                    go_wp2_with fail
                    refine (refCmp_c A5 At _ _ c5 ct l5 lt _ _ rd5 rt d5 dt (by omega) (by omega)).mono ?_
                    rintro e w6 ⟨rfl, rfl⟩
                    go_wp2_with fail
                    refine (refSubF_c A5 At _ _ c5 ct l5 lt _ rd5 rt d5 dt (by omega) hge5).mono ?_
                    rintro e w6 hD6
                    rw [HVT.out, HV5.out] at hD6
                    obtain ⟨v6, rfl, hv6, b6, f6⟩ := hD6.vF
                    have hT6 := hT5.keep b6
                    have hF6 : Hid (FreshV w v6) := hid (f6.mono hT5.below.size)
                    have H6 : Hid (DigV w6 v6 (R - val 4294967296 lm * 2 ^ t') ∧ (R - val 4294967296 lm * 2 ^ t') % val 4294967296 lm = R0 % val 4294967296 lm ∧ R - val 4294967296 lm * 2 ^ t' < val 4294967296 lm * 2 ^ t') := by
                      refine ⟨hv6, ?_, ?_⟩
                      · rw [Nat.sub_mul_mod HGE.out]; exact HMR.out
                      · have := HLR.out; rw [Nat.pow_succ, ← Nat.mul_assoc] at this
                        have := HGE.out
                        omega
                    clear hD6 f6 hv6 b6
                    go_wp2
                    go_roundw
                    case rel => exact ⟨t', _, by omega, by go_num, H6, hT6, hF6⟩
                    case measure => simp [intOf]
                  · have hcm : decide (0 ≤ cmpN (val 4294967296 l5) (val 4294967296 lt)) = false := by
                      unfold cmpN; rw [if_pos (by rw [HVT.out, HV5.out]; omega)]; decide
                    have H6 : Hid (DigV wr (.slice A5 l5.length c5) R ∧ R % val 4294967296 lm = R0 % val 4294967296 lm ∧ R < val 4294967296 lm * 2 ^ t') := ⟨⟨A5, c5, l5, rfl, hc5, rd5, d5, t5, HV5.out⟩, HMR.out, by omega⟩
                    clear hge
                    go_wp2_with fail
                    refine (refCmp_c A5 At _ _ c5 ct l5 lt _ _ rd5 rt d5 dt (by omega) (by omega)).mono ?_
                    rintro e w6 ⟨rfl, rfl⟩
                    go_wp2
                    go_roundw
                    case rel => exact ⟨t', _, by omega, by go_num, H6, hT5, hFr5⟩
                    case measure => simp [intOf]

/-- Digits in blocks from B on. -/
structure DzF (B : Nat) (w : World) (v : Value) (X : Int) : Prop where
  dz : Dz w v X
  fr : ∀ A n c, v = .slice A n c → ∀ a : Addr, A = some a → B ≤ a.block
theorem DzF.up {B : Nat} {w w' : World} {v : Value} {X : Int} (h : DzF B w v X) (hb : Below w.heap.size w w') : DzF B w' v X := ⟨h.dz.up hb, h.fr⟩
theorem DzF.eq {B : Nat} {w : World} {v : Value} {X Y : Int} (h : DzF B w v X) (e : X = Y) : DzF B w v Y := e ▸ h
theorem dModF_c (u : Value) (X : Nat) (w : World) (hu : Dg w u X) (hX : X < 4294967296 ^ 30) :
    Calls Tryz.prog 31 #[u] w fun e w' => ∃ r, e = .returned r ∧ DzF w.heap.size w' r (X : Int) ∧ Below w.heap.size w w' := by
  obtain ⟨A, c, l, rfl, h1, h2, h3, h4, h5, h6⟩ := hu
  have hl : l.length ≤ 1000 := Nat.le_trans (len_of_lt (n := 30) h4 h5 (by rw [h6]; exact hX)) (by decide)
  have HX := hid h6
  clear h6 hX
  go_enter Tryz.func31, Tryz.ntmps31
  go_wp2_with fail
  refine (p2_c w).mono ?_
  rintro e w1 ⟨r, rfl, hr, b1⟩
  obtain ⟨A', c', l', rfl, k1, k2, k3, k4, k5, k6⟩ := hr
  have hl' : l'.length ≤ 1000 := Nat.le_trans (len_of_lt (n := 20) k4 k5 (by rw [k6]; decide)) (by decide)
  have K6 := hid k6
  clear k6
  go_wp2_with fail
  refine (modF_c A A' l.length l'.length c c' l l' w1 (h3.up b1 (Nat.le_refl _)) k3 h4 k4 hl hl' (by rw [K6.out]; decide)).mono ?_
  intro e w2 h
  rw [HX.out, K6.out] at h
  obtain ⟨v0, e0, _, _, f0⟩ := h.vF
  obtain ⟨v, rfl, hv, b2⟩ := Dg.of h.dig (lt_big (p_big (Nat.mod_lt _ pN_pos)))
  injection e0 with e0
  subst e0
  have R := hid hv
  have F := hid (FreshV.mono f0 b1.size)
  clear hv h f0
  go_wp2
  go_ret
  exact ⟨_, rfl, ⟨⟨⟨_, R.out, Nat.mod_lt _ pN_pos, z_mod X⟩⟩, F.out⟩, bchain b1 b2⟩
end Go.Proofs.YtdepkfdceidikaaGreatDoor
