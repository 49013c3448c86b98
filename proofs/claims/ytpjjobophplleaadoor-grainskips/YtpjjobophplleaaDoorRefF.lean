import Derived.Test.YtpjjobophplleaaDoorRefC
import Derived.Deep.RegionLaw
import Derived.BigRegion
import Derived.Test.YtpjjobophplleaaDoorLMulB
/-
  avouchref01.Digits, Sub: what each call does.
-/
namespace Go.Proofs.YtpjjobophplleaaDoor
open Go.RowKit
set_option linter.unusedVariables false

theorem digits_step (p x P : Nat) : p + x % 4294967296 * P + x / 4294967296 * (P * 4294967296) = p + x * P := by
  have : (x % 4294967296 + 4294967296 * (x / 4294967296)) * P = x * P := by rw [Nat.mod_add_div]
  grind

theorem two_cells (w : World) (X Y : Int) (m n : Nat) (hX : X = (m : Int)) (hY : Y = (n : Int)) (i : Nat) (hi : i < [m, n].length) :
    (w.alloc (.cells #[.int .u64 X, .int .u64 Y] 36)).drew.cell? ⟨w.heap.size, i, none⟩ = some (.int .u64 (at64 [m, n] i)) := by
  subst hX hY
  show (w.alloc (.cells #[.int .u64 (m : Int), .int .u64 (n : Int)] 36)).cell? ⟨w.heap.size, i, none⟩ = _
  have : i = 0 ∨ i = 1 := by simp at hi; omega
  rcases this with rfl | rfl <;> simp [at64]

end Go.Proofs.YtpjjobophplleaaDoor
/-
  avouchref01.Sub: what the call does.
-/
namespace Go.Proofs.YtpjjobophplleaaDoor
open Go.RowKit
set_option linter.unusedVariables false

theorem rsub_word (x y c : Nat) (hx : x < 4294967296) (hy : y < 4294967296) (hc : c ≤ 1) :
    (4294967296 + x - y - c) % 4294967296 + y + c = x + (1 - (4294967296 + x - y - c) / 4294967296) * 4294967296 ∧ 1 - (4294967296 + x - y - c) / 4294967296 ≤ 1 := by omega

end Go.Proofs.YtpjjobophplleaaDoor
/-
  avouchref01.Mul: what the call does.
-/
namespace Go.Proofs.YtpjjobophplleaaDoor
open Go.RowKit
set_option linter.unusedVariables false

/-- The relation of Mul's inner loop. -/
def RMRel (w : World) (b o : Nat) (ws0 lb : List Nat) (f : Nat) (wr : World) (k c : Nat) : Prop :=
  ∃ ws : List Nat, ws.length = ws0.length ∧ BlkW wr b 36 ws ∧ D32 ws ∧ Below b w wr ∧ (∀ j, (j < o ∨ o + k ≤ j) → ws.getD j 0 = ws0.getD j 0) ∧ c < 4294967296 ∧
    pv 4294967296 (ws.drop o) k + c * 4294967296 ^ k = pv 4294967296 (ws0.drop o) k + f * pv 4294967296 lb k

theorem rm_word (o p c : Nat) (ho : o < 4294967296) (hp : p ≤ 18446744065119617025) (hc : c < 4294967296) :
    (o + p + c) / 4294967296 < 4294967296 ∧ (o + p + c) % 4294967296 + (o + p + c) / 4294967296 * 4294967296 = o + p + c := by omega
theorem mul_bound32 (x y : Nat) (hx : x < 4294967296) (hy : y < 4294967296) : x * y ≤ 18446744065119617025 :=
  Nat.mul_le_mul (Nat.le_of_lt_succ hx) (Nat.le_of_lt_succ hy)
theorem D32.set {ws : List Nat} (h : D32 ws) (i x : Nat) (hx : x < 4294967296) : D32 (ws.set i x) := by
  intro y hy
  rcases List.mem_or_eq_of_mem_set hy with h' | h'
  · exact h y h'
  · subst h'; exact hx

theorem RMRel.step {w wr : World} {b o k c f : Nat} {ws0 lb : List Nat} (hb : D32 lb) (h0 : D32 ws0) (hf : f < 4294967296) (h : RMRel w b o ws0 lb f wr k c) (hk : o + k < ws0.length) (V : Int)
    (hV : V = (((ws0.getD (o + k) 0 + lb.getD k 0 * f + c) % 4294967296 : Nat) : Int)) :
    RMRel w b o ws0 lb f (wr.setCell ⟨b, o + k, none⟩ (.int .u64 V)) (k + 1) ((ws0.getD (o + k) 0 + lb.getD k 0 * f + c) / 4294967296) := by
  obtain ⟨ws, hl, hB, hd, hb', hj, hc, he⟩ := h
  have h1 := getD_lt _ (by decide) ws0 h0 (o + k)
  have h2 := getD_lt _ (by decide) lb hb k
  have h3 := mul_bound32 _ _ h2 hf
  obtain ⟨g1, g2⟩ := rm_word _ _ c h1 h3 hc
  refine ⟨ws.set (o + k) ((ws0.getD (o + k) 0 + lb.getD k 0 * f + c) % 4294967296), by simp [hl], hB.setI _ _ _ (by omega) hV, hd.set _ _ (Nat.mod_lt _ (by decide)), hb'.setCell (Nat.le_refl _) _, ?_, g1, ?_⟩
  · intro j hjj
    rw [getD_set_ne _ _ _ _ (by omega)]
    exact hj j (by omega)
  · rw [pv_drop_set _ _ _ _ _ (by omega), pv_succ, pv_succ, Nat.pow_succ, getD_drop]
    exact am_step _ _ _ _ c _ _ _ _ _ _ he g2

theorem BlkW.drewN {w : World} {b : Nat} {t : TypeId} {ws : List Nat} (h : BlkW w b t ws) (n : Nat) : BlkW (w.drewN n) b t ws := ⟨h.heap, h.lt⟩
theorem RMRel.drewN {w wr : World} {b o k c f : Nat} {ws0 lb : List Nat} (h : RMRel w b o ws0 lb f wr k c) (n : Nat) : RMRel w b o ws0 lb f (wr.drewN n) k c := by
  obtain ⟨ws, hl, hB, hd, hb', r⟩ := h
  exact ⟨ws, hl, hB.drewN n, hd, below_drewN hb' n, r⟩

/-- The relation of Mul's outer loop. -/
def RORel (w : World) (b N nb : Nat) (la lb : List Nat) (wr : World) (k : Nat) : Prop :=
  ∃ ws : List Nat, ws.length = N ∧ BlkW wr b 36 ws ∧ D32 ws ∧ Below b w wr ∧ (∀ j, k + nb ≤ j → ws.getD j 0 = 0) ∧
    pv 4294967296 ws (k + nb) = pv 4294967296 la k * pv 4294967296 lb nb

theorem RORel.step {w wr w2 : World} {b N nb k c : Nat} {la lb ws : List Nat} (hl : ws.length = N) (hz : ∀ j, k + nb ≤ j → ws.getD j 0 = 0) (hbl : Below b w wr)
    (he : pv 4294967296 ws (k + nb) = pv 4294967296 la k * pv 4294967296 lb nb) (h : RMRel wr b k ws lb (la.getD k 0) w2 nb c) (hk : k + nb < N) :
    RORel w b N nb la lb (w2.setCell ⟨b, k + nb, none⟩ (.int .u64 (c : Int))) (k + 1) := by
  obtain ⟨ws2, hl2, hB, hd, hb', hj, hc, he2⟩ := h
  refine ⟨ws2.set (k + nb) c, by simp [hl2, hl], hB.set _ _ (by omega), hd.set _ _ hc, (hbl.trans hb').setCell (Nat.le_refl _) _, ?_, ?_⟩
  · intro j hjj
    rw [getD_set_ne _ _ _ _ (by omega), hj j (Or.inr (by omega))]
    exact hz j (by omega)
  · rw [show k + 1 + nb = (k + nb) + 1 by omega, pv_set_succ _ _ _ _ (by omega), pv_drop, pv_succ, Nat.add_mul, ← he, pv_drop _ ws]
    have e0 : pv 4294967296 ws2 k = pv 4294967296 ws k := pv_congr _ _ _ _ fun i hi => hj i (Or.inl hi)
    rw [e0, Nat.pow_add]
    exact m_step _ _ _ _ _ _ _ _ he2

end Go.Proofs.YtpjjobophplleaaDoor
