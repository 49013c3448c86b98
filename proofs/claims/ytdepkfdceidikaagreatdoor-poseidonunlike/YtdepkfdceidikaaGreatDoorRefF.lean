import Derived.Test.YtdepkfdceidikaaGreatDoorRefC
import Derived.Deep.RegionLaw
import Derived.BigRegion
import Derived.Test.YtdepkfdceidikaaGreatDoorLShift
/-
  avouchref01.Digits, Sub: what each call does.
-/
namespace Go.Proofs.YtdepkfdceidikaaGreatDoor
open Go.RowKit
set_option linter.unusedVariables false

theorem digits_step (p x P : Nat) : p + x % 4294967296 * P + x / 4294967296 * (P * 4294967296) = p + x * P := by
  have : (x % 4294967296 + 4294967296 * (x / 4294967296)) * P = x * P := by rw [Nat.mod_add_div]
  grind

theorem two_cells (w : World) (X Y : Int) (m n : Nat) (hX : X = (m : Int)) (hY : Y = (n : Int)) (i : Nat) (hi : i < [m, n].length) :
    (w.alloc (.cells #[.int .u64 X, .int .u64 Y] 34)).drew.cell? ⟨w.heap.size, i, none⟩ = some (.int .u64 (at64 [m, n] i)) := by
  subst hX hY
  show (w.alloc (.cells #[.int .u64 (m : Int), .int .u64 (n : Int)] 34)).cell? ⟨w.heap.size, i, none⟩ = _
  have : i = 0 ∨ i = 1 := by simp at hi; omega
  rcases this with rfl | rfl <;> simp [at64]

end Go.Proofs.YtdepkfdceidikaaGreatDoor
/-
  avouchref01.Sub: what the call does.
-/
namespace Go.Proofs.YtdepkfdceidikaaGreatDoor
open Go.RowKit
set_option linter.unusedVariables false

theorem rsub_word (x y c : Nat) (hx : x < 4294967296) (hy : y < 4294967296) (hc : c ≤ 1) :
    (4294967296 + x - y - c) % 4294967296 + y + c = x + (1 - (4294967296 + x - y - c) / 4294967296) * 4294967296 ∧ 1 - (4294967296 + x - y - c) / 4294967296 ≤ 1 := by omega

set_option maxHeartbeats 400000 in
theorem refSub_c (A B : Option Addr) (na nb ca cb : Nat) (la lb : List Nat) (w : World) (ha : Rd w w.heap.size A na la) (hb : Rd w w.heap.size B nb lb) (da : D32 la) (db : D32 lb) (hna : na ≤ 10000)
    (hle : val 4294967296 lb ≤ val 4294967296 la) :
    Calls Tryz.prog 68 #[.slice A na ca, .slice B nb cb] w fun e w' => Dig w e w' (val 4294967296 la - val 4294967296 lb) := by
  have hmk := make64I 0 na (Nat.zero_le _) (by omega) 0 (na : Int) rfl rfl
  go_enter Tryz.func68, Tryz.ntmps68
  go_wp2
  clear hmk
  go_loopw [5, 6, 7] (fun v c i wr => ∃ k q : Nat, ∃ l : List Nat, k ≤ na ∧ i = .int .i64 k ∧ c = .int .u64 q ∧ Hid (l.length = k) ∧ OwnW wr w.heap.size v l ∧ Hid (D32 l) ∧ Below w.heap.size w wr ∧ q ≤ 1 ∧
    Hid (val 4294967296 l + pv 4294967296 lb k = pv 4294967296 la k + q * 4294967296 ^ k)) (fun _ _ i _ => na - (intOf i).toNat)
  case atStart => exact ⟨0, 0, [], Nat.zero_le _, rfl, rfl, rfl, own_made w _ (by omega), fun x hx => by simp at hx, (Below.refl _ _).alloc (Nat.le_refl _) _, by omega, by show _ = _; simp [pv, val]⟩
  case round =>
    obtain ⟨k, q, l, hk, rfl, rfl, HL, hown, HD, hbl, hq, HE⟩ := hrel
    by_cases hlt : k < na
    · have ra := ha.below hbl (Nat.le_refl _)
      have rb := hb.below hbl (Nat.le_refl _)
      obtain ⟨ba, oa, rfl, hba, hca⟩ := ra.at_ hlt
      have h1 := at64_nonneg la k
      have h1' := at64_d32 da k
      have h2 := at64_nonneg lb k
      have h2' := at64_d32 db k
      have hsz := hbl.size
      have hl' : l.length ≤ 100000 := by rw [HL.out]; omega
      have hi0 : (0 : Int) ≤ (k : Int) := by omega
      have hi1 : (k : Int) < (na : Int) := by omega
      obtain ⟨g1, g2⟩ := rsub_word (la.getD k 0) (lb.getD k 0) q (by unfold at64 at h1'; omega) (by unfold at64 at h2'; omega) hq
      have HG := hid g1
      have HG2 := hid g2
      have e1 : IntKind.u64.wrap (4294967296 + at64 la k) = 4294967296 + at64 la k := by rw [IntKind.wrap_u64]; omega
      have e2 : IntKind.u64.wrap (4294967296 + at64 la k - at64 lb k) = 4294967296 + at64 la k - at64 lb k := by rw [IntKind.wrap_u64]; omega
      have e3 : IntKind.u64.wrap (4294967296 + at64 la k - at64 lb k - q) = 4294967296 + at64 la k - at64 lb k - q := by rw [IntKind.wrap_u64]; omega
      have hs0 : 0 ≤ 4294967296 + at64 la k - at64 lb k - q := by omega
      clear g1 g2
      go_wp2
      go_quiet ((go_at_call 79; exact Calls.quiet_of_same (get_s B nb cb _ lb k _ (rb.drewN _))))
      clear e1 e2 e3
      have hown2 := hown.drewN nq
      have hbl2 := below_drewN hbl nq
      have hsz2 : w.heap.size ≤ (wr.drewN nq).heap.size := hsz
      generalize wr.drewN nq = w2 at hown2 hbl2 hsz2 ⊢
      have HS : Hid (4294967296 + at64 la k - at64 lb k - q = ((4294967296 + la.getD k 0 - lb.getD k 0 - q : Nat) : Int)) := by show _ = _; unfold at64 at h1 h1' h2 h2' ⊢; omega
      have hs1 : 4294967296 + at64 la k - at64 lb k - q < 8589934592 := by omega
      generalize 4294967296 + at64 la k - at64 lb k - (q : Int) = S at hs0 HS hs1 ⊢
      clear hown hbl hsz
      have hs2 : S / 4294967296 ≤ 1 := by omega
      have hs3 : 0 ≤ S / 4294967296 := by omega
      go_wp2_with (at_builtin; refine append_word rfl (.tmp 29) (.tmp 32) rfl w.heap.size _ l rfl hown2 _ ((4294967296 + la.getD k 0 - lb.getD k 0 - q) % 4294967296) ?e1 ?e2 rfl hl' hsz2 ?_)
      case e1 => rw [HS.out]; omega
      case e2 => omega
      intro v' w' hown' hb'
      have hb2 := hbl2.trans hb'
      have HL2 : Hid ((l ++ [(4294967296 + la.getD k 0 - lb.getD k 0 - q) % 4294967296]).length = k + 1) := by show _ = _; rw [List.length_append, HL.out]; rfl
      have HD2 : Hid (D32 (l ++ [(4294967296 + la.getD k 0 - lb.getD k 0 - q) % 4294967296])) := by
        intro x hx
        rcases List.mem_append.1 hx with h | h
        · exact HD.out x h
        · simp only [List.mem_cons, List.not_mem_nil, or_false] at h; omega
      have HE2 : Hid (val 4294967296 (l ++ [(4294967296 + la.getD k 0 - lb.getD k 0 - q) % 4294967296]) + pv 4294967296 lb (k + 1) = pv 4294967296 la (k + 1) + (1 - (4294967296 + la.getD k 0 - lb.getD k 0 - q) / 4294967296) * 4294967296 ^ (k + 1)) := by
        show _ = _
        rw [val_append, HL.out, pv_succ, pv_succ, Nat.pow_succ]
        exact sub_step _ _ _ _ q _ _ _ _ _ HE.out HG.out
      go_wp2
      go_roundw
      case rel => exact ⟨k + 1, _, _, by omega, by go_num, (by have hN : 4294967296 + la.getD k 0 - lb.getD k 0 - q < 8589934592 := (by unfold at64 at h1'; omega); rw [HS.out]; go_num), HL2, hown', HD2, hb2, HG2.out, HE2⟩
      case measure => simp [intOf]; omega
    · have hkn : k = na := by omega
      have HV : Hid (val 4294967296 l = val 4294967296 la - val 4294967296 lb) := by
        show _ = _
        have h := HE.out
        have b1 := val_lt _ (by decide) l HD.out
        have b2 := val_lt _ (by decide) la da
        rw [HL.out] at b1
        rw [ha.len] at b2
        have hl2 : la.length = na := ha.len
        rw [pv_mod _ (by decide) lb db, hkn, pv_out _ la na (by omega), Nat.mod_eq_of_lt (by omega)] at h
        rw [hkn] at b1
        rcases Nat.eq_zero_or_pos q with h0 | h0
        · subst h0; rw [Nat.zero_mul] at h; omega
        · have : q = 1 := by omega
          subst this; rw [Nat.one_mul] at h; omega
      have hl' : l.length ≤ 100000 := by rw [HL.out]; omega
      clear hkn
      go_wp2_with fail
      refine (trim_own (w := w) hown HD.out hbl hl').mono ?_
      rintro e w' hD
      rw [HV.out] at hD
      obtain ⟨A', c', l', rfl, r'⟩ := hD
      have R := hid r'
      clear r'
      go_wp2
      go_ret
      exact ⟨A', c', l', rfl, R.out⟩
end Go.Proofs.YtdepkfdceidikaaGreatDoor
/-
  avouchref01.Mul: what the call does.
-/
namespace Go.Proofs.YtdepkfdceidikaaGreatDoor
open Go.RowKit
set_option linter.unusedVariables false

/-- The relation of Mul's inner loop. -/
def RMRel (w : World) (b o : Nat) (ws0 lb : List Nat) (f : Nat) (wr : World) (k c : Nat) : Prop :=
  ∃ ws : List Nat, ws.length = ws0.length ∧ BlkW wr b 34 ws ∧ D32 ws ∧ Below b w wr ∧ (∀ j, (j < o ∨ o + k ≤ j) → ws.getD j 0 = ws0.getD j 0) ∧ c < 4294967296 ∧
    pv 4294967296 (ws.drop o) k + c * 4294967296 ^ k = pv 4294967296 (ws0.drop o) k + f * pv 4294967296 lb k

theorem rm_word (o p c : Nat) (ho : o < 4294967296) (hp : p ≤ 18446744065119617025) (hc : c < 4294967296) :
    (o + p + c) / 4294967296 < 4294967296 ∧ (o + p + c) % 4294967296 + (o + p + c) / 4294967296 * 4294967296 = o + p + c := by omega
theorem mul_bound32 (x y : Nat) (hx : x < 4294967296) (hy : y < 4294967296) : x * y ≤ 18446744065119617025 :=
  Nat.mul_le_mul (Nat.le_of_lt_succ hx) (Nat.le_of_lt_succ hy)
theorem D32.set {ws : List Nat} (h : D32 ws) (i x : Nat) (hx : x < 4294967296) : D32 (ws.set i x) := by
  intro y hy
  rcases List.mem_or_eq_of_mem_set hy with h' | h'
  · exact h y h'
  · subst h'; exact hx

theorem RMRel.step {w wr : World} {b o k c f : Nat} {ws0 lb : List Nat} (hb : D32 lb) (h0 : D32 ws0) (hf : f < 4294967296) (h : RMRel w b o ws0 lb f wr k c) (hk : o + k < ws0.length) (V : Int)
    (hV : V = (((ws0.getD (o + k) 0 + lb.getD k 0 * f + c) % 4294967296 : Nat) : Int)) :
    RMRel w b o ws0 lb f (wr.setCell ⟨b, o + k, none⟩ (.int .u64 V)) (k + 1) ((ws0.getD (o + k) 0 + lb.getD k 0 * f + c) / 4294967296) := by
  obtain ⟨ws, hl, hB, hd, hb', hj, hc, he⟩ := h
  have h1 := getD_lt _ (by decide) ws0 h0 (o + k)
  have h2 := getD_lt _ (by decide) lb hb k
  have h3 := mul_bound32 _ _ h2 hf
  obtain ⟨g1, g2⟩ := rm_word _ _ c h1 h3 hc
  refine ⟨ws.set (o + k) ((ws0.getD (o + k) 0 + lb.getD k 0 * f + c) % 4294967296), by simp [hl], hB.setI _ _ _ (by omega) hV, hd.set _ _ (Nat.mod_lt _ (by decide)), hb'.setCell (Nat.le_refl _) _, ?_, g1, ?_⟩
  · intro j hjj
    rw [getD_set_ne _ _ _ _ (by omega)]
    exact hj j (by omega)
  · rw [pv_drop_set _ _ _ _ _ (by omega), pv_succ, pv_succ, Nat.pow_succ, getD_drop]
    exact am_step _ _ _ _ c _ _ _ _ _ _ he g2

theorem BlkW.drewN {w : World} {b : Nat} {t : TypeId} {ws : List Nat} (h : BlkW w b t ws) (n : Nat) : BlkW (w.drewN n) b t ws := ⟨h.heap, h.lt⟩
theorem RMRel.drewN {w wr : World} {b o k c f : Nat} {ws0 lb : List Nat} (h : RMRel w b o ws0 lb f wr k c) (n : Nat) : RMRel w b o ws0 lb f (wr.drewN n) k c := by
  obtain ⟨ws, hl, hB, hd, hb', r⟩ := h
  exact ⟨ws, hl, hB.drewN n, hd, below_drewN hb' n, r⟩

/-- The relation of Mul's outer loop. -/
def RORel (w : World) (b N nb : Nat) (la lb : List Nat) (wr : World) (k : Nat) : Prop :=
  ∃ ws : List Nat, ws.length = N ∧ BlkW wr b 34 ws ∧ D32 ws ∧ Below b w wr ∧ (∀ j, k + nb ≤ j → ws.getD j 0 = 0) ∧
    pv 4294967296 ws (k + nb) = pv 4294967296 la k * pv 4294967296 lb nb

theorem RORel.step {w wr w2 : World} {b N nb k c : Nat} {la lb ws : List Nat} (hl : ws.length = N) (hz : ∀ j, k + nb ≤ j → ws.getD j 0 = 0) (hbl : Below b w wr)
    (he : pv 4294967296 ws (k + nb) = pv 4294967296 la k * pv 4294967296 lb nb) (h : RMRel wr b k ws lb (la.getD k 0) w2 nb c) (hk : k + nb < N) :
    RORel w b N nb la lb (w2.setCell ⟨b, k + nb, none⟩ (.int .u64 (c : Int))) (k + 1) := by
  obtain ⟨ws2, hl2, hB, hd, hb', hj, hc, he2⟩ := h
  refine ⟨ws2.set (k + nb) c, by simp [hl2, hl], hB.set _ _ (by omega), hd.set _ _ hc, (hbl.trans hb').setCell (Nat.le_refl _) _, ?_, ?_⟩
  · intro j hjj
    rw [getD_set_ne _ _ _ _ (by omega), hj j (Or.inr (by omega))]
    exact hz j (by omega)
  · rw [show k + 1 + nb = (k + nb) + 1 by omega, pv_set_succ _ _ _ _ (by omega), pv_drop, pv_succ, Nat.add_mul, ← he, pv_drop _ ws]
    have e0 : pv 4294967296 ws2 k = pv 4294967296 ws k := pv_congr _ _ _ _ fun i hi => hj i (Or.inl hi)
    rw [e0, Nat.pow_add]
    exact m_step _ _ _ _ _ _ _ _ he2

set_option maxHeartbeats 1000000 in
theorem refMul_c (A B : Option Addr) (na nb ca cb : Nat) (la lb : List Nat) (w : World) (ha : Rd w w.heap.size A na la) (hb : Rd w w.heap.size B nb lb) (da : D32 la) (db : D32 lb) (hna : na ≤ 10000) (hnb : nb ≤ 10000) :
    Calls Tryz.prog 87 #[.slice A na ca, .slice B nb cb] w fun e w' => Dig w e w' (val 4294967296 la * val 4294967296 lb) := by
  have hmk := make64I (na + nb + 1) (na + nb + 1) (Nat.le_refl _) (by omega) ((na : Int) + nb + 1) ((na : Int) + nb + 1) (by omega) (by omega)
  go_enter Tryz.func87, Tryz.ntmps87
  go_wp2
  clear hmk
  go_loopw [6] (fun i wr => ∃ k : Nat, k ≤ na ∧ i = .int .i64 k ∧ RORel w w.heap.size (na + nb + 1) nb la lb wr k) (fun i _ => na - (intOf i).toNat)
  case atStart =>
    exact ⟨0, Nat.zero_le _, rfl, _, by simp, blk_zeros w _, fun x hx => by have := List.eq_of_mem_replicate hx; omega, (Below.refl _ _).alloc (Nat.le_refl _) _, fun j _ => by simp [List.getD_eq_getElem?_getD, List.getElem?_replicate]; split <;> rfl, by rw [pv_replicate]; simp [pv]⟩
  case round =>
    obtain ⟨k, hk, rfl, hrel⟩ := hrel
    by_cases hlt : k < na
    · obtain ⟨ws, hl, hB, hd, hbl, hz, he⟩ := hrel
      have ra := ha.below hbl (Nat.le_refl _)
      have rb := hb.below hbl (Nat.le_refl _)
      obtain ⟨ba, oa, rfl, hba, hca⟩ := ra.at_ hlt
      have hstep := fun w2 c => RORel.step (la := la) (lb := lb) (k := k) (c := c) (w2 := w2) hl hz hbl he
      have HS := hid hstep
      have hl' : ws.length ≤ na + nb + 1 := by omega
      have hl'' : na + nb + 1 ≤ ws.length := by omega
      have f1 := getD_lt _ (by decide) la da k
      have hB0 := hid hB
      clear hstep hz he hl hB
      obtain ⟨w1, rfl⟩ : ∃ x, x = wr := ⟨wr, rfl⟩
      go_wp2
      go_loopw [7, 8] (fun c i wj => ∃ j q : Nat, j ≤ nb ∧ i = .int .i64 j ∧ c = .int .u64 q ∧ RMRel w1 w.heap.size k ws lb (la.getD k 0) wj j q) (fun _ i _ => nb - (intOf i).toNat)
      case atStart => exact ⟨0, 0, Nat.zero_le _, rfl, rfl, ws, rfl, hB0.out, hd, Below.refl _ _, fun _ _ => rfl, by omega, by simp [pv]⟩
      case round =>
        obtain ⟨j, q, hj, rfl, rfl, hrel⟩ := hrel
        by_cases hlt2 : j < nb
        · obtain ⟨ws2, hl2, hB2, hd2, hb2, hj2, hc2, he2⟩ := id hrel
          have ra2 := ra.below hb2 (Nat.le_refl _)
          have rb2 := rb.below hb2 (Nat.le_refl _)
          obtain ⟨ba', oa', ea, hba', hca'⟩ := ra2.at_ hlt
          obtain ⟨rfl, rfl⟩ : ba = ba' ∧ oa = oa' := by injection ea with ea; injection ea with e1 e2; exact ⟨e1, e2⟩
          obtain ⟨bb, ob, rfl, hbb, hcb⟩ := rb2.at_ hlt2
          have hcell := hB2.cell (i := k + j) (by omega)
          have hfz := hB2.frozen (k + j)
          have hgd : at64 ws2 (k + j) = at64 ws (k + j) := by unfold at64; rw [hj2 _ (Or.inr (Nat.le_refl _))]
          rw [hgd] at hcell
          have h1 := getD_lt _ (by decide) ws hd (k + j)
          have h2 := getD_lt _ (by decide) lb db j
          have h3 := mul_bound32 _ _ h2 f1
          obtain ⟨p, hp⟩ : ∃ p : Nat, p = lb.getD j 0 * la.getD k 0 := ⟨_, rfl⟩
          rw [← hp] at h3
          have e1 : IntKind.u64.wrap (at64 la k * at64 lb j) = (p : Int) := by
            rw [IntKind.wrap_u64, hp]; unfold at64; rw [← Int.natCast_mul, Nat.mul_comm]; omega
          have n1 : 0 ≤ at64 ws (k + j) := at64_nonneg _ _
          have n2 : at64 ws (k + j) < 4294967296 := at64_d32 hd _
          have e2 : IntKind.u64.wrap (at64 ws (k + j) + p) = at64 ws (k + j) + p := by rw [IntKind.wrap_u64]; omega
          have e3 : IntKind.u64.wrap (at64 ws (k + j) + p + q) = at64 ws (k + j) + p + q := by rw [IntKind.wrap_u64]; omega
          have ei : IntKind.i64.wrap ((k : Int) + j) = (k : Int) + j := IntWalk.i64_in _ (by omega)
          have ej : ((k : Int) + j).toNat = k + j := by omega
          have hi0 : (0 : Int) ≤ (k : Int) + j := by omega
          have hi1 : (k : Int) + j < (na : Int) + nb + 1 := by omega
          have hi1' : (k : Int) + j < ((na + nb + 1 : Nat) : Int) := by omega
          have hi2 : (k : Int) < na := by omega
          have hi3 : (j : Int) < nb := by omega
          have hi4 : (0 : Int) ≤ k := by omega
          have hi5 : (0 : Int) ≤ j := by omega
          have HP := hid hp
          have HST := hid (RMRel.step db hd f1 hrel (by omega))
          clear hl2 hj2 he2 hgd hp ra2 rb2
          go_wp2
          go_quiet (fail)
          clear e1 e2 e3
          have HV : Hid (at64 ws (k + j) + p + q = ((ws.getD (k + j) 0 + lb.getD j 0 * la.getD k 0 + q : Nat) : Int)) := by show _ = _; rw [← HP.out]; unfold at64; omega
          have hv0 : 0 ≤ at64 ws (k + j) + p + q := by omega
          have hv1 : at64 ws (k + j) + p + q < 18446744073709551616 := by omega
          generalize at64 ws (k + j) + (p : Int) + q = S at HV hv0 hv1 ⊢
          clear HP h3
          go_wp2
          go_roundw
          case rel => exact ⟨j + 1, _, by omega, by go_num, (by rw [HV.out]; go_num), (HST.out _ (by rw [HV.out]; omega)).drewN nq⟩
          case measure => simp [intOf]; omega
        · obtain rfl : j = nb := by omega
          have hst := HS.out _ _ hrel (by omega)
          obtain ⟨ws2, hl2, hB2, hd2, hb2, hj2, hc2, he2⟩ := hrel
          have hcell := hB2.cell (i := k + j) (by omega)
          have hfz := hB2.frozen (k + j)
          clear hl2 hj2 he2
          go_wp2
          go_roundw
          case rel => exact ⟨k + 1, by omega, by go_num, hst⟩
          case measure => simp [intOf]; omega
    · obtain rfl : k = na := by omega
      obtain ⟨ws, hl, hB, hd, hbl, hz, he⟩ := hrel
      have HV : Hid (val 4294967296 ws = val 4294967296 la * val 4294967296 lb) := by
        show _ = _
        unfold val
        rw [hl, pv_succ, he, hz _ (Nat.le_refl _), ha.len, hb.len]; omega
      have rd := hB.rd (off := 0) (n := k + nb + 1) (B := wr.heap.size) (by omega) hB.size
      have ee : (ws.drop 0).take (k + nb + 1) = ws := by rw [List.drop_zero, List.take_of_length_le (by omega)]
      rw [ee] at rd
      have HL := hid hl
      clear hl hz he ee
      go_wp2_with fail
      refine (trim_c _ _ _ _ ws _ rd (by omega) (Nat.le_refl _)).mono ?_
      rintro e w' ⟨m, hm, he, hw, ht, hzz⟩
      have hD := dig_of_trim rd hd hbl hm (Nat.le_refl _) he hw ht hzz
      rw [HV.out] at hD
      clear hm he hw ht hzz
      obtain ⟨A', c', l', rfl, r'⟩ := hD
      have R := hid r'
      clear r'
      go_wp2
      go_ret
      exact ⟨A', c', l', rfl, R.out⟩
end Go.Proofs.YtdepkfdceidikaaGreatDoor
