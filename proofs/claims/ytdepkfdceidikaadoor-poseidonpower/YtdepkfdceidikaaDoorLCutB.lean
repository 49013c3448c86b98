import Derived.Test.YtdepkfdceidikaaDoorLDiv
import Derived.Test.YtdepkfdceidikaaDoorLShift
import Derived.Deep.LoopGhost
/-
  limb.cutOff: what the call does.
-/
namespace Go.Proofs.YtdepkfdceidikaaDoor
open Go.RowKit
set_option linter.unusedVariables false

/-- The guess is never too small. -/
theorem guess_ge (U d lo V D P q Wn : Nat) (hV : V = U * P + lo) (hlo : lo < P) (hD : d * P ≤ D) (hd : 0 < d) (hq : q = U / d) : V < (q + 1) * D := by
  have h1 : U + 1 ≤ (q + 1) * d := by
    rw [hq]
    have := Nat.lt_mul_div_succ U hd
    rw [Nat.mul_comm] at this
    exact this
  have h2 : (U + 1) * P ≤ (q + 1) * d * P := Nat.mul_le_mul_right _ h1
  have h3 : (q + 1) * (d * P) ≤ (q + 1) * D := Nat.mul_le_mul_left _ hD
  rw [← Nat.mul_assoc] at h3
  rw [Nat.add_mul] at h2
  omega
theorem guessN_ge (hi md d lo V D P n : Nat) (hV : V = (hi * 18446744073709551616 + md) * P + lo) (hlo : lo < P) (hD : d * P ≤ D) (hd : 0 < d) (hlt : V < 18446744073709551616 * D) : V < (guessN hi md d + 1) * D := by
  unfold guessN
  split
  · exact hlt
  · exact guess_ge _ d lo V D P _ n hV hlo hD hd rfl

/-- What a cut window is: so many multiples of the divisor taken away, and perhaps too many. -/
def CutRel (w : World) (b o n : Nat) (ws0 ld : List Nat) (V : Nat) (wr : World) (t c : Nat) : Prop :=
  ∃ ws : List Nat, ws.length = ws0.length ∧ BlkW wr b 24 ws ∧ Below b w wr ∧ (∀ j, (j < o ∨ o + n < j) → ws.getD j 0 = ws0.getD j 0) ∧ c ≤ 1 ∧ V < (t + 1) * val 18446744073709551616 ld ∧
    pv 18446744073709551616 (ws.drop o) (n + 1) + t * val 18446744073709551616 ld = V + c * 18446744073709551616 ^ (n + 1)

theorem CutRel.start {w wr : World} {b o n q c : Nat} {ws0 ld : List Nat} (hn : ld.length = n) (h0 : allLt ws0) (h : SMRel w b o n ws0 ld q wr n c) (ho : o + n < ws0.length)
    (hq : pv 18446744073709551616 (ws0.drop o) (n + 1) < (q + 1) * val 18446744073709551616 ld) (v : Int) (hv : v = (at64 ws0 (o + n) - c) % 18446744073709551616) :
    CutRel w b o n ws0 ld (pv 18446744073709551616 (ws0.drop o) (n + 1)) (wr.setCell ⟨b, o + n, none⟩ (.int .u64 v)) q (borN (ws0.getD (o + n) 0) c) := by
  obtain ⟨ws, hl, hB, hb', hj, hc, he⟩ := h
  have h1 := getD_lt _ (by decide) ws0 h0 (o + n)
  have hs := sub_word (ws0.getD (o + n) 0) c 0 h1 hc (by omega)
  rw [Nat.sub_zero, Nat.add_zero, Nat.add_zero] at hs
  refine ⟨ws.set (o + n) ((ws0.getD (o + n) 0 + 18446744073709551616 - c) % 18446744073709551616), by simp [hl], hB.setI _ _ _ (Nat.mod_lt _ (by decide)) ?_, hb'.setCell (Nat.le_refl _) _, ?_, borN_le _ _, hq, ?_⟩
  · rw [hv]; unfold at64; omega
  · intro j hjj
    rw [getD_set_ne _ _ _ _ (by omega)]
    exact hj j (by omega)
  · rw [pv_drop_set _ _ _ _ _ (by omega), pv_succ, getD_drop, Nat.pow_succ]
    unfold val
    rw [hn]
    generalize pv 18446744073709551616 (ws.drop o) n = r at *
    generalize pv 18446744073709551616 (ws0.drop o) n = p at *
    generalize pv 18446744073709551616 ld n = d at *
    generalize 18446744073709551616 ^ n = P at *
    generalize ws0.getD (o + n) 0 = x at *
    generalize borN x c = z at *
    generalize (x + 18446744073709551616 - c) % 18446744073709551616 = s at *
    have e : (s + c) * P = (x + z * 18446744073709551616) * P := by rw [hs]
    grind

theorem CutRel.step {w wr w2 : World} {b o n t c : Nat} {ws0 ws ld : List Nat} {V : Nat} (hn : ld.length = n) (hD : 0 < val 18446744073709551616 ld)
    (hl : ws.length = ws0.length) (hB : BlkW wr b 24 ws) (hbl : Below b w wr) (hj : ∀ j, (j < o ∨ o + n < j) → ws.getD j 0 = ws0.getD j 0) (hV : V < (t + 1) * val 18446744073709551616 ld)
    (he : pv 18446744073709551616 (ws.drop o) (n + 1) + t * val 18446744073709551616 ld = V + 1 * 18446744073709551616 ^ (n + 1))
    (h : AMRel wr b o n ws ld 1 w2 n c) (ho : o + n < ws0.length) (v : Int) (hv : v = (at64 ws (o + n) + c) % 18446744073709551616) :
    1 ≤ t ∧ (ws.getD (o + n) 0 + c) / 18446744073709551616 ≤ 1 ∧ CutRel w b o n ws0 ld V (w2.setCell ⟨b, o + n, none⟩ (.int .u64 v)) (t - 1) (1 - (ws.getD (o + n) 0 + c) / 18446744073709551616) := by
  obtain ⟨ws2, hl2, hB2, hb2, hj2, hc2, he2⟩ := h
  have h1 := getD_lt _ (by decide) ws hB.lt (o + n)
  have hlt : pv 18446744073709551616 (ws.drop o) (n + 1) < 18446744073709551616 ^ (n + 1) := pv_lt _ (by decide) _ (fun x hx => hB.lt x (List.mem_of_mem_drop hx)) _
  have ht : 1 ≤ t := by
    rcases Nat.eq_zero_or_pos t with h0 | h0
    · subst h0; omega
    · exact h0
  have htV : V < t * val 18446744073709551616 ld := by omega
  refine ⟨ht, by omega, ws2.set (o + n) ((ws.getD (o + n) 0 + c) % 18446744073709551616), by simp [hl2, hl], hB2.setI _ _ _ (Nat.mod_lt _ (by decide)) ?_, (hbl.trans hb2).setCell (Nat.le_refl _) _, ?_, by omega, ?_, ?_⟩
  · rw [hv]; unfold at64; omega
  · intro j hjj
    rw [getD_set_ne _ _ _ _ (by omega), hj2 j (by omega)]
    exact hj j hjj
  · rw [show t - 1 + 1 = t by omega]; exact htV
  · obtain ⟨t, rfl⟩ : ∃ s, t = s + 1 := ⟨t - 1, by omega⟩
    rw [pv_drop_set _ _ _ _ _ (by omega)]
    rw [pv_succ, getD_drop, Nat.pow_succ] at he
    rw [Nat.pow_succ]
    have hw : (ws.getD (o + n) 0 + c) % 18446744073709551616 + (ws.getD (o + n) 0 + c) / 18446744073709551616 * 18446744073709551616 = ws.getD (o + n) 0 + c := by omega
    have hz : (ws.getD (o + n) 0 + c) / 18446744073709551616 ≤ 1 := by omega
    unfold val at *
    rw [hn] at *
    show _ + t * _ = _
    generalize pv 18446744073709551616 (ws2.drop o) n = r at *
    generalize pv 18446744073709551616 (ws.drop o) n = p at *
    generalize pv 18446744073709551616 ld n = d at *
    generalize 18446744073709551616 ^ n = P at *
    generalize ws.getD (o + n) 0 = x at *
    generalize (x + c) / 18446744073709551616 = z at *
    generalize (x + c) % 18446744073709551616 = s at *
    have e : (s + z * 18446744073709551616) * P = (x + c) * P := by rw [hw]
    have hz2 : z = 0 ∨ z = 1 := by omega
    rcases hz2 with rfl | rfl
    · grind
    · grind
end Go.Proofs.YtdepkfdceidikaaDoor
/-
  limb.cutOff: what the call does.
-/
namespace Go.Proofs.YtdepkfdceidikaaDoor
open Go.RowKit
set_option linter.unusedVariables false

theorem guess_i (hi lo y : Int) (a b c : Nat) (ha : hi = (a : Int)) (hb : lo = (b : Int)) (hc : y = (c : Int)) (hy : 9223372036854775808 ≤ c) (hy' : c < 18446744073709551616) (hhi : a < 18446744073709551616) (hlo : b < 18446744073709551616) (w : World) :
    Calls Tryd.prog 86 #[.int .u64 hi, .int .u64 lo, .int .u64 y] w fun e w' => e = .returned (.int .u64 ((guessN a b c : Nat) : Int)) ∧ ∃ n, w' = w.drewN n := by
  subst ha hb hc; exact guess_c a b c hy hy' hhi hlo w

set_option maxRecDepth 100000 in
set_option maxHeartbeats 2000000 in
theorem cutOff_c (D : Option Addr) (b o m cw cd : Nat) (ws ld : List Nat) (w : World) (hB : BlkW w b 24 ws) (ho : o + (m + 1) < ws.length) (hcw : m + 2 ≤ cw) (hd : Rd w b D (m + 1) ld) (htop : 9223372036854775808 ≤ ld.getD m 0)
    (hlt : pv 18446744073709551616 (ws.drop o) (m + 2) < 18446744073709551616 * val 18446744073709551616 ld) (hm : m ≤ 10000) :
    Calls Tryd.prog 67 #[.slice (some ⟨b, o, none⟩) (m + 2) cw, .slice D (m + 1) cd] w fun e w' => e = .returned (.tuple #[]) ∧
      ∃ ws', ws'.length = ws.length ∧ BlkW w' b 24 ws' ∧ Below b w w' ∧ (∀ j, (j < o ∨ o + (m + 1) < j) → ws'.getD j 0 = ws.getD j 0) ∧ pv 18446744073709551616 (ws'.drop o) (m + 2) = pv 18446744073709551616 (ws.drop o) (m + 2) % val 18446744073709551616 ld := by
  have hpos : 0 < val 18446744073709551616 ld := by
    unfold val; rw [hd.len, pv_succ]
    have h1 : 0 < ld.getD m 0 * 18446744073709551616 ^ m := Nat.mul_pos (by omega) (Nat.pow_pos (by decide))
    omega
  have hge : pv 18446744073709551616 (ws.drop o) (m + 2) < (guessN (ws.getD (o + (m + 1)) 0) (ws.getD (o + m) 0) (ld.getD m 0) + 1) * val 18446744073709551616 ld := by
    refine guessN_ge _ _ _ (pv 18446744073709551616 (ws.drop o) m) _ _ (18446744073709551616 ^ m) 0 ?_ (pv_lt _ (by decide) _ (fun x hx => hB.lt x (List.mem_of_mem_drop hx)) m) ?_ (by omega) hlt
    · rw [pv_succ, pv_succ, getD_drop, getD_drop, Nat.pow_succ]; grind
    · unfold val; rw [hd.len, pv_succ]; omega
  have hgl := guessN_lt (ws.getD (o + (m + 1)) 0) (ws.getD (o + m) 0) (ld.getD m 0) (getD_lt _ (by decide) ws hB.lt _)
  have c1 := hB.cell (i := o + (m + 1)) (by omega)
  have c2 := hB.cell (i := o + m) (by omega)
  obtain ⟨bd, od, rfl, hbd, c3⟩ := hd.at_ (k := m) (by omega)
  have HC := hid (fun W => guess_i (at64 ws (o + (m + 1))) (at64 ws (o + m)) (at64 ld m) _ _ _ rfl rfl rfl htop (getD_lt _ (by decide) ld hd.lt _) (getD_lt _ (by decide) ws hB.lt _) (getD_lt _ (by decide) ws hB.lt _) W)
  have HGE := hid hge
  have HGL := hid hgl
  have HLT := hid hlt
  have HTOP := hid htop
  clear hge hgl hlt htop
  have ei : IntKind.i64.wrap ((m : Int) + 1 - 1) = (m : Int) := by rw [IntKind.wrap_i64]; omega
  have h0 : (0 : Int) ≤ (m : Int) := by omega
  have h1 : (m : Int) < (m : Int) + 1 := by omega
  have h2 : (m : Int) < (m : Int) + 2 := by omega
  have h3 : (m : Int) + 1 < (m : Int) + 2 := by omega
  have h4 : ((m : Int) + 1).toNat = m + 1 := by omega
  have h5 : (0 : Int) ≤ (m : Int) + 1 := by omega
  go_enter Tryd.func67, Tryd.ntmps67
  go_wp2
  go_quiet ((go_at_call 86; exact Calls.quiet_of (HC.out _)))
  clear ei h4 c1 c2 c3 HC
  have hq0 : Hid (BlkW (w.drewN nq) b 24 ws ∧ Rd (w.drewN nq) b (some ⟨bd, od, none⟩) (m + 1) ld ∧ Below b w (w.drewN nq)) := ⟨⟨hB.heap, hB.lt⟩, ⟨hd.len, hd.lt, hd.cells⟩, below_drewN (Below.refl _ _) nq⟩
  generalize w.drewN nq = w1 at hq0 ⊢
  obtain ⟨hB1, hd1, hb1⟩ := hq0.out
  clear hq0
  generalize guessN (ws.getD (o + (m + 1)) 0) (ws.getD (o + m) 0) (ld.getD m 0) = q at HGE HGL ⊢
  go_wp2_with fail
  refine (subMultiple_c _ _ b o (m + 1) _ cd ws ld q w1 (fun _ => rfl) hB1 (by omega) hd1 HGL.out (by omega)).mono ?_
  rintro e w2 ⟨c2, rfl, hsm⟩
  have HST := hid (fun v hv => CutRel.start hd.len hB.lt hsm ho HGE.out v hv)
  obtain ⟨ws2, hl2, hB2, hb2, hj2, hc2, he2⟩ := hsm
  have k1 := hB2.cell (i := o + (m + 1)) (by omega)
  have hgd : at64 ws2 (o + (m + 1)) = at64 ws (o + (m + 1)) := by unfold at64; rw [hj2 _ (Or.inr (Nat.le_refl _))]
  rw [hgd] at k1
  have kf := hB2.frozen (o + (m + 1))
  have x0 := at64_nonneg ws (o + (m + 1))
  have y0 : (0 : Int) ≤ c2 := by omega
  have y1 : (c2 : Int) < 18446744073709551616 := by omega
  clear hl2 hj2 he2 hgd
  go_wp2_with (simp only [sub64_0 _ _ x0 y0 y1])
  have hst := HST.out _ rfl
  clear HST k1 kf
  have hbn : bor (at64 ws (o + (m + 1))) c2 = ((borN (ws.getD (o + (m + 1)) 0) c2 : Nat) : Int) := bor_nat _ _
  rw [hbn]
  generalize borN (ws.getD (o + (m + 1)) 0) c2 = c0 at hst ⊢
  clear hbn
  go_loopg [6] q (fun t s6 wr => ∃ c : Nat, s6 = .int .u64 c ∧ CutRel w1 b o (m + 1) ws ld (pv 18446744073709551616 (ws.drop o) (m + 2)) wr t c)
  case atStart => exact ⟨c0, rfl, hst⟩
  case round =>
    obtain ⟨c, rfl, hrel⟩ := hrel
    obtain ⟨ws3, hl3, hB3, hb3, hj3, hc3, hV3, he3⟩ := id hrel
    have hc01 : c = 0 ∨ c = 1 := by omega
    rcases hc01 with rfl | rfl
    · have HF : Hid (pv 18446744073709551616 (ws3.drop o) (m + 2) = pv 18446744073709551616 (ws.drop o) (m + 2) % val 18446744073709551616 ld) := by
        show _ = _
        rw [Nat.zero_mul] at he3
        have he5 : pv 18446744073709551616 (ws.drop o) (m + 2) = pv 18446744073709551616 (ws3.drop o) (m + 2) + gk * val 18446744073709551616 ld := by
          have h : pv 18446744073709551616 (ws3.drop o) (m + 2) + gk * val 18446744073709551616 ld = pv 18446744073709551616 (ws.drop o) (m + 2) + 0 := he3
          omega
        rw [he5, Nat.add_mul_mod_self_right, Nat.mod_eq_of_lt]
        rw [Nat.add_mul, he5] at hV3
        omega
      have R : Hid (∃ ws', ws'.length = ws.length ∧ BlkW wr b 24 ws' ∧ Below b w wr ∧ (∀ j, (j < o ∨ o + (m + 1) < j) → ws'.getD j 0 = ws.getD j 0) ∧ pv 18446744073709551616 (ws'.drop o) (m + 2) = pv 18446744073709551616 (ws.drop o) (m + 2) % val 18446744073709551616 ld) :=
        ⟨ws3, hl3, hB3, hb1.trans hb3, hj3, HF.out⟩
      clear hl3 hj3 hV3 he3 HF
      go_wp2
      go_end0
      exact ⟨rfl, R.out⟩
    · have rd3 := hd1.below hb3 (Nat.le_refl _)
      have HST := hid (fun w2 c h v hv => CutRel.step (w2 := w2) (c := c) (V := pv 18446744073709551616 (ws.drop o) (m + 2)) hd.len hpos hl3 hB3 hb3 hj3 hV3 he3 h ho v hv)
      have hl3' : ws3.length ≤ ws.length := by omega
      have hl3'' : ws.length ≤ ws3.length := by omega
      have HH := hid hj3
      clear hl3 hj3 hV3 he3
      go_wp2_with fail
      refine (addMultiple_c _ _ b o (m + 1) _ cd ws3 ld 1 wr (fun _ => rfl) hB3 (by omega) rd3 (by omega) (by omega)).mono ?_
      rintro e w4 ⟨c4, rfl, ham⟩
      have hst4 := HST.out _ _ ham _ rfl
      obtain ⟨ws4, hl4, hB4, hb4, hj4, hc4, he4⟩ := ham
      have k4 := hB4.cell (i := o + (m + 1)) (by omega)
      have hgd : at64 ws4 (o + (m + 1)) = at64 ws3 (o + (m + 1)) := by unfold at64; rw [hj4 _ (Or.inr (Nat.le_refl _))]
      rw [hgd] at k4
      have kf := hB4.frozen (o + (m + 1))
      have x3 := at64_nonneg ws3 (o + (m + 1))
      have x4 := at64_lt hB3.lt (o + (m + 1))
      have y3 : (0 : Int) ≤ c4 := by omega
      have y4 : (c4 : Int) < 18446744073709551616 := by omega
      have z0 : 0 ≤ (at64 ws3 (o + (m + 1)) + c4) / 18446744073709551616 := by omega
      have z1 : (at64 ws3 (o + (m + 1)) + c4) / 18446744073709551616 ≤ 1 := by omega
      obtain ⟨g1, g2, g3⟩ := hst4
      have HG3 := hid g3
      have HG2 := hid g2
      clear hl4 hj4 he4 hgd HST g3 g2
      go_wp2_with (simp only [add64_0 _ _ x3 y3])
      go_roundg (gk - 1)
      case measure => omega
      case rel => exact ⟨_, (by have := HG2.out; unfold at64 at *; go_num), HG3.out⟩
end Go.Proofs.YtdepkfdceidikaaDoor
