import Derived.Test.YtpjjobophplleaaDoorLDiv
import Derived.Test.YtpjjobophplleaaDoorLMulB
import Derived.Deep.LoopGhost
/-
  limb.cutOff: what the call does.
-/
namespace Go.Proofs.YtpjjobophplleaaDoor
open Go.RowKit
set_option linter.unusedVariables false

/-- The guess is never too small. -/
theorem guess_ge (U d lo V D P q Wn : Nat) (hV : V = U * P + lo) (hlo : lo < P) (hD : d * P ≤ D) (hd : 0 < d) (hq : q = U / d) : V < (q + 1) * D := by
  have h1 : U + 1 ≤ (q + 1) * d := by
    rw [hq]
    have := Nat.lt_mul_div_succ U hd
    rw [Nat.mul_comm] at this
    exact this
  have h2 : (U + 1) * P ≤ (q + 1) * d * P := Nat.mul_le_mul_right _ h1
  have h3 : (q + 1) * (d * P) ≤ (q + 1) * D := Nat.mul_le_mul_left _ hD
  rw [← Nat.mul_assoc] at h3
  rw [Nat.add_mul] at h2
  omega
theorem guessN_ge (hi md d lo V D P n : Nat) (hV : V = (hi * 18446744073709551616 + md) * P + lo) (hlo : lo < P) (hD : d * P ≤ D) (hd : 0 < d) (hlt : V < 18446744073709551616 * D) : V < (guessN hi md d + 1) * D := by
  unfold guessN
  split
  · exact hlt
  · exact guess_ge _ d lo V D P _ n hV hlo hD hd rfl

/-- What a cut window is: so many multiples of the divisor taken away, and perhaps too many. -/
def CutRel (w : World) (b o n : Nat) (ws0 ld : List Nat) (V : Nat) (wr : World) (t c : Nat) : Prop :=
  ∃ ws : List Nat, ws.length = ws0.length ∧ BlkW wr b 36 ws ∧ Below b w wr ∧ (∀ j, (j < o ∨ o + n < j) → ws.getD j 0 = ws0.getD j 0) ∧ c ≤ 1 ∧ V < (t + 1) * val 18446744073709551616 ld ∧
    pv 18446744073709551616 (ws.drop o) (n + 1) + t * val 18446744073709551616 ld = V + c * 18446744073709551616 ^ (n + 1)

theorem CutRel.start {w wr : World} {b o n q c : Nat} {ws0 ld : List Nat} (hn : ld.length = n) (h0 : allLt ws0) (h : SMRel w b o n ws0 ld q wr n c) (ho : o + n < ws0.length)
    (hq : pv 18446744073709551616 (ws0.drop o) (n + 1) < (q + 1) * val 18446744073709551616 ld) (v : Int) (hv : v = (at64 ws0 (o + n) - c) % 18446744073709551616) :
    CutRel w b o n ws0 ld (pv 18446744073709551616 (ws0.drop o) (n + 1)) (wr.setCell ⟨b, o + n, none⟩ (.int .u64 v)) q (borN (ws0.getD (o + n) 0) c) := by
  obtain ⟨ws, hl, hB, hb', hj, hc, he⟩ := h
  have h1 := getD_lt _ (by decide) ws0 h0 (o + n)
  have hs := sub_word (ws0.getD (o + n) 0) c 0 h1 hc (by omega)
  rw [Nat.sub_zero, Nat.add_zero, Nat.add_zero] at hs
  refine ⟨ws.set (o + n) ((ws0.getD (o + n) 0 + 18446744073709551616 - c) % 18446744073709551616), by simp [hl], hB.setI _ _ _ (Nat.mod_lt _ (by decide)) ?_, hb'.setCell (Nat.le_refl _) _, ?_, borN_le _ _, hq, ?_⟩
  · rw [hv]; unfold at64; omega
  · intro j hjj
    rw [getD_set_ne _ _ _ _ (by omega)]
    exact hj j (by omega)
  · rw [pv_drop_set _ _ _ _ _ (by omega), pv_succ, getD_drop, Nat.pow_succ]
    unfold val
    rw [hn]
    generalize pv 18446744073709551616 (ws.drop o) n = r at *
    generalize pv 18446744073709551616 (ws0.drop o) n = p at *
    generalize pv 18446744073709551616 ld n = d at *
    generalize 18446744073709551616 ^ n = P at *
    generalize ws0.getD (o + n) 0 = x at *
    generalize borN x c = z at *
    generalize (x + 18446744073709551616 - c) % 18446744073709551616 = s at *
    have e : (s + c) * P = (x + z * 18446744073709551616) * P := by rw [hs]
    grind

theorem CutRel.step {w wr w2 : World} {b o n t c : Nat} {ws0 ws ld : List Nat} {V : Nat} (hn : ld.length = n) (hD : 0 < val 18446744073709551616 ld)
    (hl : ws.length = ws0.length) (hB : BlkW wr b 36 ws) (hbl : Below b w wr) (hj : ∀ j, (j < o ∨ o + n < j) → ws.getD j 0 = ws0.getD j 0) (hV : V < (t + 1) * val 18446744073709551616 ld)
    (he : pv 18446744073709551616 (ws.drop o) (n + 1) + t * val 18446744073709551616 ld = V + 1 * 18446744073709551616 ^ (n + 1))
    (h : AMRel wr b o n ws ld 1 w2 n c) (ho : o + n < ws0.length) (v : Int) (hv : v = (at64 ws (o + n) + c) % 18446744073709551616) :
    1 ≤ t ∧ (ws.getD (o + n) 0 + c) / 18446744073709551616 ≤ 1 ∧ CutRel w b o n ws0 ld V (w2.setCell ⟨b, o + n, none⟩ (.int .u64 v)) (t - 1) (1 - (ws.getD (o + n) 0 + c) / 18446744073709551616) := by
  obtain ⟨ws2, hl2, hB2, hb2, hj2, hc2, he2⟩ := h
  have h1 := getD_lt _ (by decide) ws hB.lt (o + n)
  have hlt : pv 18446744073709551616 (ws.drop o) (n + 1) < 18446744073709551616 ^ (n + 1) := pv_lt _ (by decide) _ (fun x hx => hB.lt x (List.mem_of_mem_drop hx)) _
  have ht : 1 ≤ t := by
    rcases Nat.eq_zero_or_pos t with h0 | h0
    · subst h0; omega
    · exact h0
  have htV : V < t * val 18446744073709551616 ld := by omega
  refine ⟨ht, by omega, ws2.set (o + n) ((ws.getD (o + n) 0 + c) % 18446744073709551616), by simp [hl2, hl], hB2.setI _ _ _ (Nat.mod_lt _ (by decide)) ?_, (hbl.trans hb2).setCell (Nat.le_refl _) _, ?_, by omega, ?_, ?_⟩
  · rw [hv]; unfold at64; omega
  · intro j hjj
    rw [getD_set_ne _ _ _ _ (by omega), hj2 j (by omega)]
    exact hj j hjj
  · rw [show t - 1 + 1 = t by omega]; exact htV
  · obtain ⟨t, rfl⟩ : ∃ s, t = s + 1 := ⟨t - 1, by omega⟩
    rw [pv_drop_set _ _ _ _ _ (by omega)]
    rw [pv_succ, getD_drop, Nat.pow_succ] at he
    rw [Nat.pow_succ]
    have hw : (ws.getD (o + n) 0 + c) % 18446744073709551616 + (ws.getD (o + n) 0 + c) / 18446744073709551616 * 18446744073709551616 = ws.getD (o + n) 0 + c := by omega
    have hz : (ws.getD (o + n) 0 + c) / 18446744073709551616 ≤ 1 := by omega
    unfold val at *
    rw [hn] at *
    show _ + t * _ = _
    generalize pv 18446744073709551616 (ws2.drop o) n = r at *
    generalize pv 18446744073709551616 (ws.drop o) n = p at *
    generalize pv 18446744073709551616 ld n = d at *
    generalize 18446744073709551616 ^ n = P at *
    generalize ws.getD (o + n) 0 = x at *
    generalize (x + c) / 18446744073709551616 = z at *
    generalize (x + c) % 18446744073709551616 = s at *
    have e : (s + z * 18446744073709551616) * P = (x + c) * P := by rw [hw]
    have hz2 : z = 0 ∨ z = 1 := by omega
    rcases hz2 with rfl | rfl
    · grind
    · grind
end Go.Proofs.YtpjjobophplleaaDoor
/-
  limb.cutOff: what the call does.
-/
namespace Go.Proofs.YtpjjobophplleaaDoor
open Go.RowKit
set_option linter.unusedVariables false

end Go.Proofs.YtpjjobophplleaaDoor
