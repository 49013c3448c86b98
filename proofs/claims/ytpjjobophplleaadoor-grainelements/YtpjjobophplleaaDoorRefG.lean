import Derived.Test.YtpjjobophplleaaDoorLOps
import Derived.Deep.RegionLaw
import Derived.BigRegion
import Derived.Test.YtpjjobophplleaaDoorLMulB
/-
  avouchref01.Digits, Sub: what each call does.
-/
namespace Go.Proofs.YtpjjobophplleaaDoor
open Go.RowKit
set_option linter.unusedVariables false

theorem digits_step (p x P : Nat) : p + x % 4294967296 * P + x / 4294967296 * (P * 4294967296) = p + x * P := by
  have : (x % 4294967296 + 4294967296 * (x / 4294967296)) * P = x * P := by rw [Nat.mod_add_div]
  grind

theorem two_cells (w : World) (X Y : Int) (m n : Nat) (hX : X = (m : Int)) (hY : Y = (n : Int)) (i : Nat) (hi : i < [m, n].length) :
    (w.alloc (.cells #[.int .u64 X, .int .u64 Y] 36)).drew.cell? ⟨w.heap.size, i, none⟩ = some (.int .u64 (at64 [m, n] i)) := by
  subst hX hY
  show (w.alloc (.cells #[.int .u64 (m : Int), .int .u64 (n : Int)] 36)).cell? ⟨w.heap.size, i, none⟩ = _
  have : i = 0 ∨ i = 1 := by simp at hi; omega
  rcases this with rfl | rfl <;> simp [at64]

end Go.Proofs.YtpjjobophplleaaDoor
/-
  avouchref01.Sub: what the call does.
-/
namespace Go.Proofs.YtpjjobophplleaaDoor
open Go.RowKit
set_option linter.unusedVariables false

theorem rsub_word (x y c : Nat) (hx : x < 4294967296) (hy : y < 4294967296) (hc : c ≤ 1) :
    (4294967296 + x - y - c) % 4294967296 + y + c = x + (1 - (4294967296 + x - y - c) / 4294967296) * 4294967296 ∧ 1 - (4294967296 + x - y - c) / 4294967296 ≤ 1 := by omega

end Go.Proofs.YtpjjobophplleaaDoor
/-
  avouchref01.Mul: what the call does.
-/
namespace Go.Proofs.YtpjjobophplleaaDoor
open Go.RowKit
set_option linter.unusedVariables false

/-- The relation of Mul's inner loop. -/
def RMRel (w : World) (b o : Nat) (ws0 lb : List Nat) (f : Nat) (wr : World) (k c : Nat) : Prop :=
  ∃ ws : List Nat, ws.length = ws0.length ∧ BlkW wr b 36 ws ∧ D32 ws ∧ Below b w wr ∧ (∀ j, (j < o ∨ o + k ≤ j) → ws.getD j 0 = ws0.getD j 0) ∧ c < 4294967296 ∧
    pv 4294967296 (ws.drop o) k + c * 4294967296 ^ k = pv 4294967296 (ws0.drop o) k + f * pv 4294967296 lb k

theorem rm_word (o p c : Nat) (ho : o < 4294967296) (hp : p ≤ 18446744065119617025) (hc : c < 4294967296) :
    (o + p + c) / 4294967296 < 4294967296 ∧ (o + p + c) % 4294967296 + (o + p + c) / 4294967296 * 4294967296 = o + p + c := by omega
theorem mul_bound32 (x y : Nat) (hx : x < 4294967296) (hy : y < 4294967296) : x * y ≤ 18446744065119617025 :=
  Nat.mul_le_mul (Nat.le_of_lt_succ hx) (Nat.le_of_lt_succ hy)
theorem D32.set {ws : List Nat} (h : D32 ws) (i x : Nat) (hx : x < 4294967296) : D32 (ws.set i x) := by
  intro y hy
  rcases List.mem_or_eq_of_mem_set hy with h' | h'
  · exact h y h'
  · subst h'; exact hx

theorem RMRel.step {w wr : World} {b o k c f : Nat} {ws0 lb : List Nat} (hb : D32 lb) (h0 : D32 ws0) (hf : f < 4294967296) (h : RMRel w b o ws0 lb f wr k c) (hk : o + k < ws0.length) (V : Int)
    (hV : V = (((ws0.getD (o + k) 0 + lb.getD k 0 * f + c) % 4294967296 : Nat) : Int)) :
    RMRel w b o ws0 lb f (wr.setCell ⟨b, o + k, none⟩ (.int .u64 V)) (k + 1) ((ws0.getD (o + k) 0 + lb.getD k 0 * f + c) / 4294967296) := by
  obtain ⟨ws, hl, hB, hd, hb', hj, hc, he⟩ := h
  have h1 := getD_lt _ (by decide) ws0 h0 (o + k)
  have h2 := getD_lt _ (by decide) lb hb k
  have h3 := mul_bound32 _ _ h2 hf
  obtain ⟨g1, g2⟩ := rm_word _ _ c h1 h3 hc
  refine ⟨ws.set (o + k) ((ws0.getD (o + k) 0 + lb.getD k 0 * f + c) % 4294967296), by simp [hl], hB.setI _ _ _ (by omega) hV, hd.set _ _ (Nat.mod_lt _ (by decide)), hb'.setCell (Nat.le_refl _) _, ?_, g1, ?_⟩
  · intro j hjj
    rw [getD_set_ne _ _ _ _ (by omega)]
    exact hj j (by omega)
  · rw [pv_drop_set _ _ _ _ _ (by omega), pv_succ, pv_succ, Nat.pow_succ, getD_drop]
    exact am_step _ _ _ _ c _ _ _ _ _ _ he g2

theorem BlkW.drewN {w : World} {b : Nat} {t : TypeId} {ws : List Nat} (h : BlkW w b t ws) (n : Nat) : BlkW (w.drewN n) b t ws := ⟨h.heap, h.lt⟩
theorem RMRel.drewN {w wr : World} {b o k c f : Nat} {ws0 lb : List Nat} (h : RMRel w b o ws0 lb f wr k c) (n : Nat) : RMRel w b o ws0 lb f (wr.drewN n) k c := by
  obtain ⟨ws, hl, hB, hd, hb', r⟩ := h
  exact ⟨ws, hl, hB.drewN n, hd, below_drewN hb' n, r⟩

/-- The relation of Mul's outer loop. -/
def RORel (w : World) (b N nb : Nat) (la lb : List Nat) (wr : World) (k : Nat) : Prop :=
  ∃ ws : List Nat, ws.length = N ∧ BlkW wr b 36 ws ∧ D32 ws ∧ Below b w wr ∧ (∀ j, k + nb ≤ j → ws.getD j 0 = 0) ∧
    pv 4294967296 ws (k + nb) = pv 4294967296 la k * pv 4294967296 lb nb

theorem RORel.step {w wr w2 : World} {b N nb k c : Nat} {la lb ws : List Nat} (hl : ws.length = N) (hz : ∀ j, k + nb ≤ j → ws.getD j 0 = 0) (hbl : Below b w wr)
    (he : pv 4294967296 ws (k + nb) = pv 4294967296 la k * pv 4294967296 lb nb) (h : RMRel wr b k ws lb (la.getD k 0) w2 nb c) (hk : k + nb < N) :
    RORel w b N nb la lb (w2.setCell ⟨b, k + nb, none⟩ (.int .u64 (c : Int))) (k + 1) := by
  obtain ⟨ws2, hl2, hB, hd, hb', hj, hc, he2⟩ := h
  refine ⟨ws2.set (k + nb) c, by simp [hl2, hl], hB.set _ _ (by omega), hd.set _ _ hc, (hbl.trans hb').setCell (Nat.le_refl _) _, ?_, ?_⟩
  · intro j hjj
    rw [getD_set_ne _ _ _ _ (by omega), hj j (Or.inr (by omega))]
    exact hz j (by omega)
  · rw [show k + 1 + nb = (k + nb) + 1 by omega, pv_set_succ _ _ _ _ (by omega), pv_drop, pv_succ, Nat.add_mul, ← he, pv_drop _ ws]
    have e0 : pv 4294967296 ws2 k = pv 4294967296 ws k := pv_congr _ _ _ _ fun i hi => hj i (Or.inl hi)
    rw [e0, Nat.pow_add]
    exact m_step _ _ _ _ _ _ _ _ he2

end Go.Proofs.YtpjjobophplleaaDoor
/-
  avouchref01.Shift, Mod: what each call does.
-/
namespace Go.Proofs.YtpjjobophplleaaDoor
open Go.RowKit
set_option linter.unusedVariables false

/-- The slice value v reads as the digits of X. -/
def DigV (w : World) (v : Value) (X : Nat) : Prop :=
  ∃ A c l, v = .slice A l.length c ∧ l.length ≤ c ∧ Rd w w.heap.size A l.length l ∧ D32 l ∧ Tr l ∧ val 4294967296 l = X
theorem Dig.v {w w' : World} {e : Ending} {X : Nat} (h : Dig w e w' X) : ∃ v, e = .returned v ∧ DigV w' v X ∧ Below w.heap.size w w' := by
  obtain ⟨A, c, l, h1, h2, h3, h4, h5, h6, h7⟩ := h
  exact ⟨_, h1, ⟨A, c, l, rfl, h2, h3, h4, h5, h6⟩, h7⟩
theorem DigV.below {w w' : World} {v : Value} {X : Nat} (h : DigV w v X) (hb : Below w.heap.size w w') : DigV w' v X := by
  obtain ⟨A, c, l, h1, h2, h3, h4⟩ := h
  exact ⟨A, c, l, h1, h2, h3.up hb (Nat.le_refl _), h4⟩
theorem tr_len {l : List Nat} (ht : Tr l) (N : Nat) (h : val 4294967296 l < 4294967296 ^ N) : l.length ≤ N := by
  rcases ht with rfl | ht
  · simp
  · rcases Nat.lt_or_ge N l.length with hlt | hge
    · exfalso
      have e : val 4294967296 l = pv 4294967296 l (l.length - 1 + 1) := by unfold val; rw [show l.length - 1 + 1 = l.length by omega]
      rw [pv_succ] at e
      have h1 : 1 * 4294967296 ^ (l.length - 1) ≤ l.getD (l.length - 1) 0 * 4294967296 ^ (l.length - 1) := Nat.mul_le_mul_right _ (Nat.pos_of_ne_zero ht)
      have h2 : 4294967296 ^ N ≤ 4294967296 ^ (l.length - 1) := Nat.pow_le_pow_right (by decide) (by omega)
      omega
    · exact hge
theorem rd_one (w : World) (X : Int) (n : Nat) (hX : X = (n : Int)) (hn : n < 18446744073709551616) : Rd (w.alloc (.cells #[.int .u64 X] 36)) (w.heap.size + 1) (some ⟨w.heap.size, 0, none⟩) 1 [n] := by
  subst hX
  refine ⟨rfl, fun x hx => by simp at hx; omega, fun _ => ⟨w.heap.size, 0, rfl, by omega, fun i hi => ?_⟩⟩
  have : i = 0 := by omega
  subst this
  simp [at64]
theorem val_one (W n : Nat) : val W [n] = n := by simp [val, pv]
theorem d32_one {n : Nat} (h : n < 4294967296) : D32 [n] := fun x hx => by simp at hx; omega

theorem Rd.setOther {w : World} {B n : Nat} {A : Option Addr} {l : List Nat} (h : Rd w B A n l) {p : Addr} {v : Value} (hp : w.cell? p = some v) (hv : ∀ x, v ≠ .int .u64 x) (u : Value) : Rd (w.setCell p u) B A n l :=
  ⟨h.len, h.lt, fun hn => by
    obtain ⟨b, off, e, hb, hc⟩ := h.cells hn
    refine ⟨b, off, e, hb, fun i hi => ?_⟩
    rw [World.cell?_setCell_other w p ⟨b, off + i, none⟩ u ?_]
    · exact hc i hi
    · rintro rfl
      rw [hc i hi] at hp
      injection hp with hp
      exact hv _ hp.symm⟩
theorem DigV.setOther {w : World} {v : Value} {X : Nat} (h : DigV w v X) {p : Addr} {v0 : Value} (hp : w.cell? p = some v0) (hv : ∀ x, v0 ≠ .int .u64 x) (u : Value) : DigV (w.setCell p u) v X := by
  obtain ⟨A, c, l, h1, h2, h3, h4⟩ := h
  refine ⟨A, c, l, h1, h2, ?_, h4⟩
  have : (w.setCell p u).heap.size = w.heap.size := by simp [World.setCell]
  rw [this]
  exact h3.setOther hp hv u

/-- The table of shifted moduli: the first k are laid, the others are nil. -/
structure Times (w : World) (T m k : Nat) (wr : World) : Prop where
  laid : ∀ j, j < k → ∃ v, wr.cell? ⟨T, j, none⟩ = some v ∧ DigV wr v (m * 2 ^ j)
  rest : ∀ j, k ≤ j → j < 9 → wr.cell? ⟨T, j, none⟩ = some (.slice none 0 0)
  thaw : ∀ j, wr.frozen? ⟨T, j, none⟩ = false
  below : Below T w wr
  has : T < wr.heap.size

theorem Times.keep {w wr w' : World} {T m k : Nat} (h : Times w T m k wr) (hb : Below wr.heap.size wr w') : Times w T m k w' := by
  refine ⟨fun j hj => ?_, fun j h1 h2 => ?_, fun j => ?_, h.below.trans (hb.mono (Nat.le_of_lt h.has)), Nat.lt_of_lt_of_le h.has hb.size⟩
  · obtain ⟨v, hc, hd⟩ := h.laid j hj
    exact ⟨v, (hb.cell (p := ⟨T, j, none⟩) h.has).trans hc, hd.below hb⟩
  · exact (hb.cell (p := ⟨T, j, none⟩) h.has).trans (h.rest j h1 h2)
  · exact (hb.frozen (p := ⟨T, j, none⟩) h.has).trans (h.thaw j)
theorem Times.step {w wr w' : World} {T m k : Nat} (h : Times w T m k wr) (hk : k < 9) (hb : Below wr.heap.size wr w') (v : Value) (hv : DigV w' v (m * 2 ^ k)) : Times w T m (k + 1) (w'.setCell ⟨T, k, none⟩ v) := by
  have h' := h.keep hb
  have hc := h'.rest k (Nat.le_refl _) hk
  have hsl : ∀ x, Value.slice none 0 0 ≠ .int .u64 x := fun x hx => by cases hx
  refine ⟨fun j hj => ?_, fun j h1 h2 => ?_, fun j => ?_, h'.below.setCell (Nat.le_refl _) _, by simpa [World.setCell] using h'.has⟩
  · by_cases e : j = k
    · subst e
      exact ⟨v, World.cell?_setCell_same w' ⟨T, j, none⟩ v hc, hv.setOther hc hsl v⟩
    · obtain ⟨u, hu, hd⟩ := h'.laid j (by omega)
      refine ⟨u, ?_, hd.setOther hc hsl v⟩
      rw [World.cell?_setCell_other]
      · exact hu
      · intro e'; injection e'; omega
  · rw [World.cell?_setCell_other]
    · exact h'.rest j (by omega) h2
    · intro e'; injection e'; omega
  · rw [World.frozen?_setCell]
    exact h'.thaw j
theorem Times.zero (w : World) (m : Nat) (cs : Array Value) (t : TypeId) (hcs : ∀ j, j < 9 → cs[j]? = some (.slice none 0 0)) : Times w w.heap.size m 0 (w.alloc (.cells cs t)) := by
  have hh : (w.alloc (.cells cs t)).heap[w.heap.size]? = some (.cells cs t (0, 0)) := heap_alloc_new w _
  refine ⟨fun j hj => absurd hj (by omega), fun j _ h => ?_, fun j => ?_, (Below.refl _ _).alloc (Nat.le_refl _) _, by simp⟩
  · rw [cell_of_row _ _ j cs t (0, 0) hh]; exact hcs j h
  · unfold World.frozen?; rw [hh]; simp

theorem digit_at (W : Nat) (hW : 0 < W) (l : List Nat) (h : ∀ x ∈ l, x < W) (i : Nat) : val W l / W ^ i % W = l.getD i 0 := by
  have h1 := pv_mod W hW l h (i + 1)
  have h2 := pv_lt W hW l h i
  have h3 := getD_lt W hW l h i
  rw [pv_succ, Nat.pow_succ] at h1
  have e := Nat.mod_mul_right_div_self (val W l) (W ^ i) W
  rw [← e, ← h1, Nat.add_mul_div_right _ _ (Nat.pow_pos hW), Nat.div_eq_of_lt h2, Nat.zero_add]
theorem byte_at (l : List Nat) (h : D32 l) (k : Nat) : l.getD (k / 4) 0 / 256 ^ (k % 4) % 256 = val 4294967296 l / 256 ^ k % 256 := by
  rw [← digit_at 4294967296 (by decide) l h (k / 4)]
  have e : val 4294967296 l / 256 ^ k = val 4294967296 l / 4294967296 ^ (k / 4) / 256 ^ (k % 4) := by
    rw [Nat.div_div_eq_div_mul, show (4294967296 : Nat) = 256 ^ 4 by decide, ← Nat.pow_mul, ← Nat.pow_add, Nat.div_add_mod]
  rw [e]
  have : k % 4 = 0 ∨ k % 4 = 1 ∨ k % 4 = 2 ∨ k % 4 = 3 := by omega
  rcases this with h | h | h | h <;> rw [h] <;> simp <;> omega
theorem div_step (V k : Nat) : V / 256 ^ k = V / 256 ^ (k + 1) * 256 + V / 256 ^ k % 256 := by
  rw [Nat.pow_succ, ← Nat.div_div_eq_div_mul]
  omega
theorem mod_step (V k m : Nat) : (V / 256 ^ (k + 1) % m * 256 + V / 256 ^ k % 256) % m = V / 256 ^ k % m := by
  conv => rhs; rw [div_step V k]
  rw [Nat.add_mod, Nat.mod_mul_mod, ← Nat.add_mod]
theorem pow_le_of {m nm t : Nat} (h : m < 4294967296 ^ nm) (ht : t ≤ 9) : m * 2 ^ t < 4294967296 ^ (nm + 1) := by
  have h1 : (2 : Nat) ^ t ≤ 2 ^ 9 := Nat.pow_le_pow_right (by decide) ht
  have h2 : m * 2 ^ t ≤ m * 2 ^ 9 := Nat.mul_le_mul_left _ h1
  rw [Nat.pow_succ]; omega

end Go.Proofs.YtpjjobophplleaaDoor
