import Derived.Test.YtpjjobophplleaaDoorBlkV
import Derived.Test.YtpjjobophplleaaDoorNum
/-
  Rows of bits as cells, of any length. Helpers; nothing of the program.
-/
namespace Go.Proofs.YtpjjobophplleaaDoor
open Go.RowKit
set_option linter.unusedVariables false

def bcell (n : Nat) (f : Nat → Bool) : List Value := (List.range n).map fun k => .bool (f k)
theorem bcell_len (n : Nat) (f : Nat → Bool) : (bcell n f).length = n := by unfold bcell; rw [List.length_map, List.length_range]
theorem bcell_at {n : Nat} (f : Nat → Bool) {k : Nat} (h : k < n) : (bcell n f)[k]? = some (.bool (f k)) := by
  unfold bcell
  rw [List.getElem?_map, List.getElem?_range h]
  rfl
theorem bcell_eq {n : Nat} {f g : Nat → Bool} (h : ∀ k, k < n → f k = g k) : bcell n f = bcell n g := by
  apply List.ext_getElem?
  intro k
  rcases Nat.lt_or_ge k n with hk | hk
  · rw [bcell_at f hk, bcell_at g hk, h k hk]
  · rw [List.getElem?_eq_none (by rw [bcell_len]; exact hk), List.getElem?_eq_none (by rw [bcell_len]; exact hk)]
theorem bcell_set {n : Nat} (f : Nat → Bool) {k : Nat} (h : k < n) (v : Bool) : (bcell n f).set k (.bool v) = bcell n fun j => if j = k then v else f j := by
  apply List.ext_getElem?
  intro j
  rcases Nat.lt_or_ge j n with hj | hj
  · rw [bcell_at _ hj]
    by_cases e : k = j
    · rw [← e, List.getElem?_set_self (by rw [bcell_len]; exact h), if_pos rfl]
    · rw [List.getElem?_set_ne e, bcell_at f hj, if_neg (by omega)]
  · rw [List.getElem?_eq_none (by rw [List.length_set, bcell_len]; exact hj), List.getElem?_eq_none (by rw [bcell_len]; exact hj)]
theorem bcell_one (n : Nat) (f : Nat → Bool) : ∀ v ∈ bcell n f, v.oneCell' = true := by
  intro v hv
  unfold bcell at hv
  obtain ⟨k, _, rfl⟩ := List.mem_map.1 hv
  rfl
theorem bcell_inj {n : Nat} {f g : Nat → Bool} (h : bcell n f = bcell n g) : ∀ k, k < n → f k = g k := fun k hk => by
  have h1 := bcell_at f hk
  rw [h, bcell_at g hk] at h1
  exact (Value.bool.inj (Option.some.inj h1)).symm
/-- A block of bits. -/
abbrev BF (w : World) (b : Nat) (t : TypeId) (n : Nat) (f : Nat → Bool) : Prop := BlkV w b t (bcell n f)
def oF (t : TypeId) (n : Nat) (f : Nat → Bool) : Obj := .cells (bcell n f).toArray t
theorem oF_new (w : World) (t : TypeId) (n : Nat) (f : Nat → Bool) : BF (w.alloc (oF t n f)) w.heap.size t n f := BlkV.new w _ _
theorem BF.cellf {w : World} {b : Nat} {t : TypeId} {n : Nat} {f : Nat → Bool} (h : BF w b t n f) {k : Nat} (hk : k < n) : w.cell? ⟨b, k, none⟩ = some (.bool (f k)) := by
  have hi : k < (bcell n f).length := by rw [bcell_len]; exact hk
  rw [BlkV.cell h hi, ← bcell_at f hk, List.getElem?_eq_getElem hi]
theorem BF.setf {w : World} {b : Nat} {t : TypeId} {n : Nat} {f : Nat → Bool} (h : BF w b t n f) {k : Nat} (hk : k < n) (v : Bool) : BF (w.setCell ⟨b, k, none⟩ (.bool v)) b t n fun j => if j = k then v else f j := by
  have := BlkV.set h k (.bool v)
  rw [bcell_set f hk v] at this
  exact this
theorem BF.eq {w : World} {b : Nat} {t : TypeId} {n : Nat} {f g : Nat → Bool} (h : BF w b t n f) (e : ∀ k, k < n → f k = g k) : BF w b t n g := by
  unfold BF at *
  rw [← bcell_eq e]
  exact h
theorem storeF {P : Program} {w : World} {b : Nat} {t : TypeId} {n : Nat} {f : Nat → Bool} (g : Nat → Bool) (h : BF w b t n f) : (storeCells ⟨b, 0, none⟩ (bcell n g)).run P w = .ok () (w.setCells b 0 (bcell n g)) :=
  storeV (bcell n g) 0 h (by rw [bcell_len, bcell_len]; omega) (bcell_one n g)
theorem BF.over {w : World} {b : Nat} {t : TypeId} {n : Nat} {f : Nat → Bool} (g : Nat → Bool) (h : BF w b t n f) : BF (w.setCells b 0 (bcell n g)) b t n g := BlkV.whole (bcell n g) h (by rw [bcell_len, bcell_len])
end Go.Proofs.YtpjjobophplleaaDoor
/-
  Powers modulo a number, reckoned by squaring: plain arithmetic, nothing of the program.
-/
namespace Go.Proofs.YtpjjobophplleaaDoor

/-- b to the power of e modulo m, by the bits of e (at most as many as the first number says). -/
def pm (m : Nat) : Nat → Nat → Nat → Nat
  | 0, _, _ => 1 % m
  | f + 1, b, e => if e % 2 = 1 then b * pm m f (b * b % m) (e / 2) % m else pm m f (b * b % m) (e / 2)
theorem pm_eq (m : Nat) : ∀ (f b e : Nat), e < 2 ^ f → pm m f b e = b ^ e % m
  | 0, b, e, h => by
    have : e = 0 := by simpa using h
    subst this
    simp [pm]
  | f + 1, b, e, h => by
    have h2 : e / 2 < 2 ^ f := by rw [Nat.pow_succ] at h; omega
    have ih := pm_eq m f (b * b % m) (e / 2) h2
    have e1 : (b * b % m) ^ (e / 2) % m = b ^ (2 * (e / 2)) % m := by
      rw [← Nat.pow_mod, Nat.pow_mul, Nat.pow_two]
    unfold pm
    rw [ih, e1]
    split
    · rename_i ho
      rw [Nat.mul_mod_mod, ← Nat.pow_succ', show (2 * (e / 2)).succ = e by omega]
    · rename_i he
      rw [show 2 * (e / 2) = e by omega]
end Go.Proofs.YtpjjobophplleaaDoor
