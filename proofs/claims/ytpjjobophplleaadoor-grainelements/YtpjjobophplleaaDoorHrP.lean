/-
  The eight digits of the next 254 bits, as avouchref08.Element lays them. Plain arithmetic.
-/
import Derived.Test.YtpjjobophplleaaDoorGnP
namespace Go.Proofs.YtpjjobophplleaaDoor
set_option linter.unusedVariables false

/-- Where the digit j begins; how many of its bits are drawn when k are. -/
def dgc (j : Nat) : Nat := 254 - 32 * (j + 1)
def dgm (k j : Nat) : Nat := min k (254 - 32 * j) - dgc j
noncomputable def drd (k s : Nat) : List Nat := (List.range 8).map fun j => gval (dgm k j) (gns (dgc j) s)
theorem drd_len (k s : Nat) : (drd k s).length = 8 := by unfold drd; rw [List.length_map, List.length_range]
theorem drd_at (k s : Nat) {j : Nat} (h : j < 8) : (drd k s).getD j 0 = gval (dgm k j) (gns (dgc j) s) := by
  unfold drd
  rw [List.getD_eq_getElem?_getD, List.getElem?_map, List.getElem?_range h]
  rfl
theorem dgm_le (k : Nat) {j : Nat} (h : j < 8) : dgm k j ≤ 32 := by unfold dgm dgc; omega
theorem drd_lt (k s : Nat) : ∀ x ∈ drd k s, x < 4294967296 := by
  intro x hx
  unfold drd at hx
  obtain ⟨j, hj, rfl⟩ := List.mem_map.1 hx
  have h8 := List.mem_range.1 hj
  have h1 := gval_lt (dgm k j) (gns (dgc j) s)
  have h2 : (2 : Nat) ^ dgm k j ≤ 2 ^ 32 := Nat.pow_le_pow_right (by decide) (dgm_le k h8)
  have e : (2 : Nat) ^ 32 = 4294967296 := by decide
  omega
theorem list_ext8 {l l' : List Nat} (h1 : l.length = 8) (h2 : l'.length = 8) (h : ∀ j, j < 8 → l.getD j 0 = l'.getD j 0) : l = l' := by
  apply List.ext_getElem (by omega)
  intro i hi hi'
  have := h i (by omega)
  rw [List.getD_eq_getElem?_getD, List.getD_eq_getElem?_getD, List.getElem?_eq_getElem hi, List.getElem?_eq_getElem hi'] at this
  exact this
theorem drd_zero (s : Nat) : drd 0 s = List.replicate 8 0 := by
  refine list_ext8 (drd_len 0 s) rfl fun j hj => ?_
  rw [drd_at 0 s hj, show dgm 0 j = 0 by unfold dgm; omega]
  rw [List.getD_eq_getElem?_getD, List.getElem?_replicate, if_pos hj]
  rfl
theorem drd_set {k : Nat} (hk : k < 254) (s : Nat) {j : Nat} (hj : j = (253 - k) / 32) : (drd k s).set j ((drd k s).getD j 0 * 2 + (gbit (gns k s)).toNat) = drd (k + 1) s := by
  have h8 : j < 8 := by omega
  refine list_ext8 (by rw [List.length_set]; exact drd_len k s) (drd_len (k + 1) s) fun i hi => ?_
  rw [drd_at (k + 1) s hi]
  by_cases c : i = j
  · subst c
    rw [List.getD_eq_getElem?_getD, List.getElem?_set_self (by rw [drd_len]; exact hi)]
    show (drd k s).getD i 0 * 2 + _ = _
    rw [drd_at k s hi]
    have e1 : dgm (k + 1) i = dgm k i + 1 := by unfold dgm dgc; omega
    have e2 : dgc i + dgm k i = k := by unfold dgm dgc; omega
    rw [e1, gval_last, ← gns_add, e2, Nat.mul_comm]
  · rw [List.getD_eq_getElem?_getD, List.getElem?_set_ne (by omega), ← List.getD_eq_getElem?_getD, drd_at k s hi, show dgm (k + 1) i = dgm k i by unfold dgm dgc; omega]
theorem drd_step (s : Nat) {j : Nat} (h : j < 7) : gval (254 - 32 * j) s = gval (dgm 254 j) (gns (dgc j) s) + 4294967296 * gval (254 - 32 * (j + 1)) s := by
  have e1 : 254 - 32 * j = dgc j + 32 := by unfold dgc; omega
  have e2 : dgm 254 j = 32 := by unfold dgm dgc; omega
  have e3 : (2 : Nat) ^ 32 = 4294967296 := by decide
  rw [e1, gval_join, e2, e3]
  show gval (dgc j) s * 4294967296 + _ = _ + 4294967296 * gval (dgc j) s
  rw [Nat.mul_comm, Nat.add_comm]
theorem drd_val (s : Nat) : val 4294967296 (drd 254 s) = gval 254 s := by
  have e : drd 254 s = [gval (dgm 254 0) (gns (dgc 0) s), gval (dgm 254 1) (gns (dgc 1) s), gval (dgm 254 2) (gns (dgc 2) s), gval (dgm 254 3) (gns (dgc 3) s), gval (dgm 254 4) (gns (dgc 4) s), gval (dgm 254 5) (gns (dgc 5) s), gval (dgm 254 6) (gns (dgc 6) s), gval (dgm 254 7) (gns (dgc 7) s)] := rfl
  have h0 := drd_step s (j := 0) (by decide)
  have h1 := drd_step s (j := 1) (by decide)
  have h2 := drd_step s (j := 2) (by decide)
  have h3 := drd_step s (j := 3) (by decide)
  have h4 := drd_step s (j := 4) (by decide)
  have h5 := drd_step s (j := 5) (by decide)
  have h6 := drd_step s (j := 6) (by decide)
  have h7 : gval (254 - 32 * (6 + 1)) s = gval (dgm 254 7) (gns (dgc 7) s) := rfl
  rw [e, val_consG, val_consG, val_consG, val_consG, val_consG, val_consG, val_consG, val_consG]
  rw [show val 4294967296 [] = 0 from rfl, Nat.mul_zero, Nat.add_zero, ← h7]
  have hh : gval 254 s = gval (254 - 32 * 0) s := rfl
  rw [hh, h0, h1, h2, h3, h4, h5, h6]
end Go.Proofs.YtpjjobophplleaaDoor
