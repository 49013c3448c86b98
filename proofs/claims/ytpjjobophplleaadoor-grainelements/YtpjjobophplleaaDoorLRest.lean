import Derived.Test.YtpjjobophplleaaDoorLDiv
import Derived.Test.YtpjjobophplleaaDoorLCutB
import Derived.Lib.ItoaNum
import Derived.Laws.CopyOwn
/-
  limb.New, Len, Words, room: what each call does.
-/
namespace Go.Proofs.YtpjjobophplleaaDoor
open Go.RowKit
set_option linter.unusedVariables false

/-- The pointer to block p is the modulus of the words l: its words, what is raised of them, by how many bits. -/
def ModP (w : World) (p : Nat) (l : List Nat) : Prop :=
  ∃ bw ow cw br cr s lr, w.cell? ⟨p, 0, none⟩ = some (.slice (some ⟨bw, ow, none⟩) l.length cw) ∧ w.cell? ⟨p, 1, none⟩ = some (.slice (some ⟨br, 0, none⟩) l.length cr) ∧ w.cell? ⟨p, 2, none⟩ = some (.int .i64 ((s : Nat) : Int)) ∧
    Rd w p (some ⟨bw, ow, none⟩) l.length l ∧ Rd w p (some ⟨br, 0, none⟩) l.length lr ∧ s ≤ 63 ∧ val 18446744073709551616 lr = 2 ^ s * val 18446744073709551616 l ∧ 9223372036854775808 ≤ lr.getD (l.length - 1) 0 ∧ p < w.heap.size ∧ Rt l

theorem ModP.keep {w w' : World} {p : Nat} {l : List Nat} (h : ModP w p l) {B : Nat} (hb : Below B w w') (hp : p < B) : ModP w' p l := by
  obtain ⟨bw, ow, cw, br, cr, s, lr, h1, h2, h3, h4, h5, h6, h7, h8, h9, h10⟩ := h
  exact ⟨bw, ow, cw, br, cr, s, lr, (hb.cell (p := ⟨p, 0, none⟩) hp).trans h1, (hb.cell (p := ⟨p, 1, none⟩) hp).trans h2, (hb.cell (p := ⟨p, 2, none⟩) hp).trans h3,
    h4.below hb (Nat.le_of_lt hp), h5.below hb (Nat.le_of_lt hp), h6, h7, h8, Nat.lt_of_lt_of_le h9 hb.size, h10⟩
theorem ModP.lt {w : World} {p : Nat} {l : List Nat} (h : ModP w p l) : p < w.heap.size := by
  obtain ⟨bw, ow, cw, br, cr, s, lr, h1, h2, h3, h4, h5, h6, h7, h8, h9, h10⟩ := h
  exact h9
theorem ModP.rt {w : World} {p : Nat} {l : List Nat} (h : ModP w p l) : Rt l := by
  obtain ⟨bw, ow, cw, br, cr, s, lr, h1, h2, h3, h4, h5, h6, h7, h8, h9, h10⟩ := h
  exact h10
theorem ModP.all {w : World} {p : Nat} {l : List Nat} (h : ModP w p l) : allLt l := by
  obtain ⟨bw, ow, cw, br, cr, s, lr, h1, h2, h3, h4, h5, h6, h7, h8, h9, h10⟩ := h
  exact h4.lt

/-- The highest word, raised: its highest bit is set. -/
theorem top_bit (x : Nat) (h0 : x ≠ 0) (hx : x < 18446744073709551616) : Lib.bitLen x ≤ 64 ∧ 1 ≤ Lib.bitLen x ∧ 9223372036854775808 ≤ x * 2 ^ (64 - Lib.bitLen x) ∧ x * 2 ^ (64 - Lib.bitLen x) < 18446744073709551616 := by
  have h1 : 1 ≤ Lib.bitLen x ∧ 2 ^ (Lib.bitLen x - 1) ≤ x ∧ x < 2 ^ Lib.bitLen x := Lib.bitLenAux_bounds 64 x (by omega) h0
  have h2 := Lib.bitLen_le x 64 (by omega) (by omega)
  obtain ⟨a, b, c⟩ := h1
  refine ⟨h2, a, ?_, ?_⟩
  · have : 2 ^ (Lib.bitLen x - 1) * 2 ^ (64 - Lib.bitLen x) ≤ x * 2 ^ (64 - Lib.bitLen x) := Nat.mul_le_mul_right _ b
    rw [← Nat.pow_add, show Lib.bitLen x - 1 + (64 - Lib.bitLen x) = 63 by omega] at this
    exact this
  · have : x * 2 ^ (64 - Lib.bitLen x) < 2 ^ Lib.bitLen x * 2 ^ (64 - Lib.bitLen x) := Nat.mul_lt_mul_of_pos_right c (Nat.two_pow_pos _)
    rw [← Nat.pow_add, show Lib.bitLen x + (64 - Lib.bitLen x) = 64 by omega] at this
    exact this
/-- Raised words: their number, and their highest one. -/
theorem raised (l ws : List Nat) (m s : Nat) (hl : l.length = m + 1) (ha : allLt l) (hw : allLt ws) (hlo : 9223372036854775808 ≤ l.getD m 0 * 2 ^ s) (hhi : l.getD m 0 * 2 ^ s < 18446744073709551616)
    (h : pv 18446744073709551616 ws (m + 1) = 2 ^ s * pv 18446744073709551616 l (m + 1) % 18446744073709551616 ^ (m + 1)) :
    val 18446744073709551616 (ws.take (m + 1)) = 2 ^ s * val 18446744073709551616 l ∧ 9223372036854775808 ≤ (ws.take (m + 1)).getD m 0 := by
  have hS : 0 < 2 ^ s := Nat.two_pow_pos s
  have b := pv_lt _ (by decide) l ha m
  have bz := pv_lt _ (by decide) ws hw m
  have hlt : 2 ^ s * pv 18446744073709551616 l (m + 1) < 18446744073709551616 ^ (m + 1) := by
    rw [pv_succ, Nat.pow_succ, Nat.mul_add]
    have h1 : 2 ^ s * pv 18446744073709551616 l m < 2 ^ s * 18446744073709551616 ^ m := Nat.mul_lt_mul_of_pos_left b hS
    have h2 : (l.getD m 0 * 2 ^ s + 2 ^ s) * 18446744073709551616 ^ m ≤ 18446744073709551616 * 18446744073709551616 ^ m := by
      apply Nat.mul_le_mul_right
      have hd : 2 ^ s ∣ 18446744073709551616 := by
        have hs : s ≤ 64 := by
          rcases Nat.lt_or_ge 64 s with h | h
          · exfalso
            have hp : 0 < l.getD m 0 := by
              rcases Nat.eq_zero_or_pos (l.getD m 0) with h0 | h0
              · rw [h0] at hlo; omega
              · exact h0
            have : 1 * 2 ^ 65 ≤ l.getD m 0 * 2 ^ s := Nat.mul_le_mul hp (Nat.pow_le_pow_right (by decide) h)
            omega
          · exact h
        exact Nat.pow_dvd_pow 2 hs
      obtain ⟨T, hT⟩ := hd
      rw [hT] at hhi ⊢
      have h3 : l.getD m 0 < T := by
        rw [Nat.mul_comm (2 ^ s) T] at hhi
        exact Nat.lt_of_mul_lt_mul_right hhi
      have h4 : (l.getD m 0 + 1) * 2 ^ s ≤ T * 2 ^ s := Nat.mul_le_mul_right _ h3
      rw [Nat.add_mul, Nat.one_mul] at h4
      rw [Nat.mul_comm (2 ^ s) T]
      exact h4
    have e : 2 ^ s * (l.getD m 0 * 18446744073709551616 ^ m) = l.getD m 0 * 2 ^ s * 18446744073709551616 ^ m := by rw [← Nat.mul_assoc, Nat.mul_comm (2 ^ s)]
    rw [e]
    rw [Nat.add_mul] at h2
    rw [Nat.mul_comm _ 18446744073709551616]
    omega
  rw [Nat.mod_eq_of_lt hlt] at h
  have hval : val 18446744073709551616 l = pv 18446744073709551616 l (m + 1) := by unfold val; rw [hl]
  have htake : (ws.take (m + 1)).getD m 0 = ws.getD m 0 := by simp [List.getD_eq_getElem?_getD]
  refine ⟨?_, ?_⟩
  · rw [hval, ← h, ← pv_take _ ws (m + 1) (m + 1) (Nat.le_refl _)]
    rw [pv_out _ (ws.take (m + 1)) (m + 1) (by simp; omega)]
  · rw [htake]
    rcases Nat.lt_or_ge (ws.getD m 0) 9223372036854775808 with hc | hc
    · exfalso
      rw [pv_succ, pv_succ, Nat.mul_add] at h
      have h5 : (ws.getD m 0 + 1) * 18446744073709551616 ^ m ≤ 9223372036854775808 * 18446744073709551616 ^ m := Nat.mul_le_mul_right _ hc
      have h6 : 9223372036854775808 * 18446744073709551616 ^ m ≤ l.getD m 0 * 2 ^ s * 18446744073709551616 ^ m := Nat.mul_le_mul_right _ hlo
      have e : 2 ^ s * (l.getD m 0 * 18446744073709551616 ^ m) = l.getD m 0 * 2 ^ s * 18446744073709551616 ^ m := by rw [← Nat.mul_assoc, Nat.mul_comm (2 ^ s)]
      rw [e] at h
      rw [Nat.add_mul] at h5
      omega
    · exact hc

end Go.Proofs.YtpjjobophplleaaDoor
/-
  (*Modulus).room, rest, Reduce: what each call does.
-/
namespace Go.Proofs.YtpjjobophplleaaDoor
open Go.RowKit
set_option linter.unusedVariables false

/-- What is left of a number, from the k-th word on, and the words behind. -/
def RestRel (w : World) (b N n : Nat) (D V : Nat) (wr : World) (k : Nat) : Prop :=
  ∃ ws : List Nat, ws.length = N ∧ BlkW wr b 36 ws ∧ Below b w wr ∧ (∀ j, k + n ≤ j → ws.getD j 0 = 0) ∧ pv 18446744073709551616 (ws.drop k) n < D ∧ pv 18446744073709551616 ws (k + n) % D = V % D

theorem RestRel.start {w wr : World} {b N n s M D V : Nat} {ws : List Nat} (hl : ws.length = N) (hB : BlkW wr b 36 ws) (hb : Below b w wr) (hN : n + 1 ≤ N) (hn : 1 ≤ n) (hV : V < 18446744073709551616 ^ (N - 1)) (hs : 2 ^ s ≤ 9223372036854775808)
    (hD : 9223372036854775808 * 18446744073709551616 ^ (n - 1) ≤ D) (h : pv 18446744073709551616 ws N = 2 ^ s * V % 18446744073709551616 ^ N) : RestRel w b N n D (2 ^ s * V) wr (N - n) := by
  have hS : 0 < 2 ^ s := Nat.two_pow_pos s
  have e1 : 18446744073709551616 ^ N = 18446744073709551616 ^ (N - 1) * 18446744073709551616 := by rw [← Nat.pow_succ, show (N - 1).succ = N by omega]
  have hlt : 2 ^ s * V < 2 ^ s * 18446744073709551616 ^ (N - 1) := Nat.mul_lt_mul_of_pos_left hV hS
  have h2 : 2 ^ s * 18446744073709551616 ^ (N - 1) ≤ 9223372036854775808 * 18446744073709551616 ^ (N - 1) := Nat.mul_le_mul_right _ hs
  have hlt2 : 2 ^ s * V < 18446744073709551616 ^ N := by rw [e1]; omega
  rw [Nat.mod_eq_of_lt hlt2] at h
  refine ⟨ws, hl, hB, hb, fun j hj => getD_out ws j (by omega), ?_, ?_⟩
  · have e2 := pv_drop 18446744073709551616 ws (N - n) n
    rw [show N - n + n = N by omega, h] at e2
    have e3 : 18446744073709551616 ^ (N - 1) = 18446744073709551616 ^ (N - n) * 18446744073709551616 ^ (n - 1) := by rw [← Nat.pow_add, show N - n + (n - 1) = N - 1 by omega]
    have h3 : 18446744073709551616 ^ (N - n) * pv 18446744073709551616 (ws.drop (N - n)) n < 18446744073709551616 ^ (N - n) * (2 ^ s * 18446744073709551616 ^ (n - 1)) := by
      have e4 : 18446744073709551616 ^ (N - n) * (2 ^ s * 18446744073709551616 ^ (n - 1)) = 2 ^ s * 18446744073709551616 ^ (N - 1) := by rw [e3]; grind
      rw [e4]; omega
    have h4 := Nat.lt_of_mul_lt_mul_left h3
    have h5 : 2 ^ s * 18446744073709551616 ^ (n - 1) ≤ 9223372036854775808 * 18446744073709551616 ^ (n - 1) := Nat.mul_le_mul_right _ hs
    omega
  · rw [show N - n + n = N by omega, h]

theorem RestRel.step {w wr w2 : World} {b N n D V k : Nat} {ws ws2 : List Nat} (hD1 : D < 18446744073709551616 ^ n) (hD0 : 0 < D) (hl : ws.length = N) (hz : ∀ j, k + 1 + n ≤ j → ws.getD j 0 = 0) (hmod : pv 18446744073709551616 ws (k + 1 + n) % D = V % D)
    (hb : Below b w wr) (hl2 : ws2.length = ws.length) (hB2 : BlkW w2 b 36 ws2) (hb2 : Below b wr w2) (hj2 : ∀ j, (j < k ∨ k + n < j) → ws2.getD j 0 = ws.getD j 0)
    (he2 : pv 18446744073709551616 (ws2.drop k) (n + 1) = pv 18446744073709551616 (ws.drop k) (n + 1) % D) : RestRel w b N n D V w2 k := by
  have hlt : pv 18446744073709551616 (ws2.drop k) (n + 1) < D := by rw [he2]; exact Nat.mod_lt _ hD0
  have hlast : ws2.getD (k + n) 0 = 0 := by
    rcases Nat.eq_zero_or_pos (ws2.getD (k + n) 0) with h | h
    · exact h
    · exfalso
      rw [pv_succ, getD_drop] at hlt
      have : 1 * 18446744073709551616 ^ n ≤ ws2.getD (k + n) 0 * 18446744073709551616 ^ n := Nat.mul_le_mul_right _ h
      omega
  have hp : pv 18446744073709551616 (ws2.drop k) (n + 1) = pv 18446744073709551616 (ws2.drop k) n := by rw [pv_succ, getD_drop, hlast]; omega
  refine ⟨ws2, hl2.trans hl, hB2, hb.trans hb2, ?_, by rw [← hp]; exact hlt, ?_⟩
  · intro j hj
    by_cases e : j = k + n
    · subst e; exact hlast
    · rw [hj2 j (by omega)]; exact hz j (by omega)
  · rw [← hmod, show k + 1 + n = k + (n + 1) by omega, pv_drop, pv_drop, ← hp, he2]
    have e0 : pv 18446744073709551616 ws2 k = pv 18446744073709551616 ws k := pv_congr _ _ _ _ fun i hi => hj2 i (Or.inl hi)
    rw [e0, Nat.add_mod, Nat.mul_mod, Nat.mod_mod, ← Nat.mul_mod, ← Nat.add_mod]

theorem rest_fin (R S M V D : Nat) (hS : 0 < S) (hD : D = S * M) (h1 : R < D) (h2 : R % D = S * V % D) : R / S = V % M := by
  rw [Nat.mod_eq_of_lt h1, hD, Nat.mul_mod_mul_left] at h2
  rw [h2, Nat.mul_div_cancel_left _ hS]

end Go.Proofs.YtpjjobophplleaaDoor
