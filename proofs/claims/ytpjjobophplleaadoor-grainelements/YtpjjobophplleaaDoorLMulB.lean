/-
  limb.subMultiple, limb.multiply, limb.Mul: what each call does.
-/
import Derived.Test.YtpjjobophplleaaDoorLMul
namespace Go.Proofs.YtpjjobophplleaaDoor
open Go.RowKit
set_option linter.unusedVariables false

/-- The relation of subMultiple's loop. -/
def SMRel (w : World) (b o n : Nat) (ws0 lb : List Nat) (f : Nat) (wr : World) (k c : Nat) : Prop :=
  ∃ ws : List Nat, ws.length = ws0.length ∧ BlkW wr b 36 ws ∧ Below b w wr ∧ (∀ j, (j < o ∨ o + k ≤ j) → ws.getD j 0 = ws0.getD j 0) ∧ c < 18446744073709551616 ∧
    pv 18446744073709551616 (ws.drop o) k + f * pv 18446744073709551616 lb k = pv 18446744073709551616 (ws0.drop o) k + c * 18446744073709551616 ^ k

theorem sm_step (W p q r c s c' x y f P : Nat) (h : r + f * q = p + c * P) (e : s + y * f + c = x + c' * W) : (r + s * P) + f * (q + y * P) = (p + x * P) + c' * (P * W) := by
  have : (s + y * f + c) * P = (x + c' * W) * P := by rw [e]
  grind

theorem sm_word (o p c : Nat) (ho : o < 18446744073709551616) (hp : p ≤ 340282366920938463426481119284349108225) (hc : c < 18446744073709551616) :
    p / 18446744073709551616 + (p % 18446744073709551616 + c) / 18446744073709551616 + borN o ((p % 18446744073709551616 + c) % 18446744073709551616) < 18446744073709551616 ∧
    (o + 18446744073709551616 - (p % 18446744073709551616 + c) % 18446744073709551616) % 18446744073709551616 + p + c =
      o + (p / 18446744073709551616 + (p % 18446744073709551616 + c) / 18446744073709551616 + borN o ((p % 18446744073709551616 + c) % 18446744073709551616)) * 18446744073709551616 := by
  unfold borN; split <;> omega

/-- The word that is stored, and the borrow that goes on. -/
def smS (o x f c : Int) : Int := (o - (mulLo x f + c)) % 18446744073709551616
def smC (o x f c : Int) : Int := mulHi x f + (mulLo x f + c) / 18446744073709551616 + bor o ((mulLo x f + c) % 18446744073709551616)

theorem SMRel.step {w wr : World} {b o n k c f : Nat} {ws0 lb ws : List Nat} (hb : allLt lb) (h0 : allLt ws0) (hf : f < 18446744073709551616) (h : SMRel w b o n ws0 lb f wr k c) (hk : o + k < ws0.length) :
    ∃ c' : Nat, (c' : Int) = smC (at64 ws0 (o + k)) (at64 lb k) f c ∧ SMRel w b o n ws0 lb f (wr.setCell ⟨b, o + k, none⟩ (.int .u64 (smS (at64 ws0 (o + k)) (at64 lb k) f c))) (k + 1) c' := by
  obtain ⟨ws, hl, hB, hb', hj, hc, he⟩ := h
  have h1 := getD_lt _ (by decide) ws0 h0 (o + k)
  have h2 := getD_lt _ (by decide) lb hb k
  have h3 := mul_bound _ _ h2 hf
  obtain ⟨g1, g2⟩ := sm_word _ _ c h1 h3 hc
  refine ⟨_, ?_, ws.set (o + k) ((ws0.getD (o + k) 0 + 18446744073709551616 - (lb.getD k 0 * f % 18446744073709551616 + c) % 18446744073709551616) % 18446744073709551616), by simp [hl], hB.setI _ _ _ (Nat.mod_lt _ (by decide)) ?_, hb'.setCell (Nat.le_refl _) _, ?_, g1, ?_⟩
  · unfold smC mulHi mulLo at64
    rw [← Int.natCast_mul, Int.natCast_add, ← bor_nat]
    have e1 : (((lb.getD k 0 * f % 18446744073709551616 + c) % 18446744073709551616 : Nat) : Int) = ((lb.getD k 0 * f : Nat) % 18446744073709551616 + (c : Int)) % 18446744073709551616 := by omega
    rw [e1]
    omega
  · unfold smS mulLo at64
    rw [← Int.natCast_mul]; omega
  · intro j hjj
    rw [getD_set_ne _ _ _ _ (by omega)]
    exact hj j (by omega)
  · rw [pv_drop_set _ _ _ _ _ (by omega), pv_succ, pv_succ, Nat.pow_succ, getD_drop]
    exact sm_step _ _ _ _ c _ _ _ _ _ _ he g2

/-- The relation of multiply's loop. -/
def MRel (w : World) (b N nb : Nat) (la lb : List Nat) (wr : World) (k : Nat) : Prop :=
  ∃ ws : List Nat, ws.length = N ∧ BlkW wr b 36 ws ∧ Below b w wr ∧ (∀ j, k + nb ≤ j → ws.getD j 0 = 0) ∧
    pv 18446744073709551616 ws (k + nb) = pv 18446744073709551616 la k * pv 18446744073709551616 lb nb

theorem m_step (p q r c f v Wi Wn : Nat) (h1 : r + c * Wn = q + f * v) : p + Wi * r + c * (Wi * Wn) = (p + Wi * q) + f * Wi * v := by
  have : (r + c * Wn) * Wi = (q + f * v) * Wi := by rw [h1]
  grind

theorem MRel.step {w wr w2 : World} {b N nb k c : Nat} {la lb ws : List Nat} (hl : ws.length = N) (hz : ∀ j, k + nb ≤ j → ws.getD j 0 = 0) (hbl : Below b w wr)
    (he : pv 18446744073709551616 ws (k + nb) = pv 18446744073709551616 la k * pv 18446744073709551616 lb nb) (h : AMRel wr b k nb ws lb (la.getD k 0) w2 nb c) (hk : k + nb < N) :
    MRel w b N nb la lb (w2.setCell ⟨b, k + nb, none⟩ (.int .u64 (c : Int))) (k + 1) := by
  obtain ⟨ws2, hl2, hB, hb', hj, hc, he2⟩ := h
  refine ⟨ws2.set (k + nb) c, by simp [hl2, hl], hB.set _ _ hc, (hbl.trans hb').setCell (Nat.le_refl _) _, ?_, ?_⟩
  · intro j hjj
    rw [getD_set_ne _ _ _ _ (by omega), hj j (Or.inr (by omega))]
    exact hz j (by omega)
  · rw [show k + 1 + nb = (k + nb) + 1 by omega, pv_set_succ _ _ _ _ (by omega), pv_drop, pv_succ, Nat.add_mul, ← he, pv_drop _ ws]
    have e0 : pv 18446744073709551616 ws2 k = pv 18446744073709551616 ws k := pv_congr _ _ _ _ fun i hi => hj i (Or.inl hi)
    rw [e0, Nat.pow_add]
    exact m_step _ _ _ _ _ _ _ _ he2

end Go.Proofs.YtpjjobophplleaaDoor
