/-
  The bytes of the next 254 bits; the first block of 254 bits whose number is below p. Plain arithmetic.
-/
import Derived.Test.YtpjjobophplleaaDoorLfC
import Derived.Test.YtpjjobophplleaaDoorFldN
import Derived.Test.YtpjjobophplleaaDoorPrims
namespace Go.Proofs.YtpjjobophplleaaDoor
set_option linter.unusedVariables false

theorem val_consG (W a : Nat) (l : List Nat) : val W (a :: l) = a + W * val W l := by
  have h := pv_drop W (a :: l) 1 l.length
  show pv W (a :: l) (l.length + 1) = _
  rw [Nat.add_comm l.length 1, h]
  show pv W (a :: l) 0 + a * W ^ 0 + W ^ 1 * pv W l l.length = a + W * val W l
  rw [pv_zero, Nat.pow_zero, Nat.pow_one, Nat.mul_one, Nat.zero_add]
  rfl
theorem gval_join : ∀ (k m s : Nat), gval (k + m) s = gval k s * 2 ^ m + gval m (gns k s)
  | 0, m, s => by
    rw [Nat.zero_add]
    show gval m s = 0 * 2 ^ m + gval m s
    rw [Nat.zero_mul, Nat.zero_add]
  | k + 1, m, s => by
    rw [Nat.add_right_comm]
    show (gbit s).toNat * 2 ^ (k + m) + gval (k + m) (gnext s) = ((gbit s).toNat * 2 ^ k + gval k (gnext s)) * 2 ^ m + gval m (gns k (gnext s))
    rw [gval_join k m (gnext s), Nat.pow_add, Nat.add_mul, Nat.mul_assoc, Nat.add_assoc]
/-- The bytes of the number of 6 + 8 k bits, the lowest one first. -/
noncomputable def gbl : Nat → Nat → List Nat
  | 0, s => [gval 6 s]
  | k + 1, s => gval 8 (gns (6 + 8 * k) s) :: gbl k s
theorem gbl_len : ∀ k s, (gbl k s).length = k + 1
  | 0, _ => rfl
  | k + 1, s => by
    show (gbl k s).length + 1 = k + 1 + 1
    rw [gbl_len k s]
theorem gbl_lt : ∀ k s, ∀ x ∈ gbl k s, x < 256
  | 0, s => by
    intro x hx
    have hx : x ∈ [gval 6 s] := hx
    rw [List.mem_singleton] at hx
    have := gval_lt 6 s
    rw [hx]
    omega
  | k + 1, s => by
    intro x hx
    have hx : x ∈ gval 8 (gns (6 + 8 * k) s) :: gbl k s := hx
    rcases List.mem_cons.1 hx with h | h
    · have := gval_lt 8 (gns (6 + 8 * k) s)
      rw [h]
      omega
    · exact gbl_lt k s x h
theorem gbl_val : ∀ k s, val 256 (gbl k s) = gval (6 + 8 * k) s
  | 0, s => by
    show val 256 [gval 6 s] = gval 6 s
    rw [val_consG]
    show gval 6 s + 256 * 0 = gval 6 s
    omega
  | k + 1, s => by
    show val 256 (gval 8 (gns (6 + 8 * k) s) :: gbl k s) = _
    rw [val_consG, gbl_val k s, show 6 + 8 * (k + 1) = 6 + 8 * k + 8 by omega, gval_join (6 + 8 * k) 8 s]
    have e8 : (2 : Nat) ^ 8 = 256 := by decide
    rw [e8, Nat.mul_comm 256, Nat.add_comm]
/-- The bytes of the number of the next 254 bits. -/
noncomputable def gby (s : Nat) : List Nat := gbl 31 s
theorem gby_len (s : Nat) : (gby s).length = 32 := gbl_len 31 s
theorem gby_val (s : Nat) : val 256 (gby s) = gval 254 s := gbl_val 31 s

theorem gel_ex {s : Nat} (h : GS s) : ∃ j, gval 254 (gns (254 * j) s) < pN := by
  obtain ⟨j, hj⟩ := g_small h
  have h1 : (2 : Nat) ^ 253 + 2 ^ 252 < pN := by decide
  exact ⟨j, Nat.lt_trans hj h1⟩
/-- How many blocks of 254 bits are passed over. -/
noncomputable def gel (s : Nat) : Nat := open Classical in if h : ∃ j, gval 254 (gns (254 * j) s) < pN then Classical.choose (least h) else 0
theorem gel_spec {s : Nat} (h : GS s) : gval 254 (gns (254 * gel s) s) < pN ∧ ∀ k, k < gel s → ¬ gval 254 (gns (254 * k) s) < pN := by
  have hx := gel_ex h
  have hs := Classical.choose_spec (least hx)
  have e : gel s = Classical.choose (least hx) := by unfold gel; rw [dif_pos hx]
  rw [← e] at hs
  exact hs
theorem gel_eq {s k : Nat} (h : GS s) (h1 : gval 254 (gns (254 * k) s) < pN) (h2 : ∀ j, j < k → ¬ gval 254 (gns (254 * j) s) < pN) : gel s = k := by
  obtain ⟨g1, g2⟩ := gel_spec h
  rcases Nat.lt_trichotomy (gel s) k with c | c | c
  · exact absurd g1 (h2 _ c)
  · exact c
  · exact absurd h1 (g2 _ c)
theorem gel_zero {s : Nat} (h : GS s) (h1 : gval 254 s < pN) : gel s = 0 := gel_eq h (by rw [Nat.mul_zero]; exact h1) fun j hj => by omega
theorem gel_succ {s : Nat} (h : GS s) (h0 : ¬ gval 254 s < pN) : gel s = gel (gns 254 s) + 1 := by
  obtain ⟨g1, g2⟩ := gel_spec (GS.ns 254 h)
  have key : ∀ j, gns (254 * (j + 1)) s = gns (254 * j) (gns 254 s) := fun j => by
    rw [show 254 * (j + 1) = 254 + 254 * j by omega, gns_add]
  refine gel_eq h ?_ fun j hj => ?_
  · rw [key]
    exact g1
  · rcases Nat.eq_zero_or_pos j with e | e
    · subst e
      rw [Nat.mul_zero]
      exact h0
    · obtain ⟨i, rfl⟩ : ∃ i, j = i + 1 := ⟨j - 1, by omega⟩
      rw [key]
      exact g2 i (by omega)
/-- The next element's number; the register behind it. -/
noncomputable def gelv (s : Nat) : Nat := gval 254 (gns (254 * gel s) s)
noncomputable def gelr (s : Nat) : Nat := gns 254 (gns (254 * gel s) s)
theorem gelv_lt {s : Nat} (h : GS s) : gelv s < pN := (gel_spec h).1
theorem GS.elr {s : Nat} (h : GS s) : GS (gelr s) := GS.ns 254 (GS.ns _ h)
theorem gel_here {s : Nat} (h : GS s) (h1 : gval 254 s < pN) : gelv s = gval 254 s ∧ gelr s = gns 254 s := by
  unfold gelv gelr
  rw [gel_zero h h1, Nat.mul_zero]
  exact ⟨rfl, rfl⟩
theorem gel_later {s : Nat} (h : GS s) (h0 : ¬ gval 254 s < pN) : gelv (gns 254 s) = gelv s ∧ gelr (gns 254 s) = gelr s ∧ gel (gns 254 s) < gel s := by
  have e := gel_succ h h0
  have key : gns (254 * gel s) s = gns (254 * gel (gns 254 s)) (gns 254 s) := by
    rw [e, show 254 * (gel (gns 254 s) + 1) = 254 + 254 * gel (gns 254 s) by omega, gns_add]
  unfold gelv gelr
  rw [key]
  exact ⟨rfl, rfl, by omega⟩
end Go.Proofs.YtpjjobophplleaaDoor
