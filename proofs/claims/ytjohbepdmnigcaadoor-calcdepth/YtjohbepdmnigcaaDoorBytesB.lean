/-
  limb.Words, avouchref01.OfBytes: what each call does.
-/
import Derived.Test.YtjohbepdmnigcaaDoorBytesA
import Derived.Test.YtjohbepdmnigcaaDoorRefC
namespace Go.Proofs.YtjohbepdmnigcaaDoor
open Go.RowKit
set_option linter.unusedVariables false

theorem pv_empty (W k : Nat) : pv W [] k = 0 := by
  induction k with
  | zero => rfl
  | succ k ih => rw [pv_succ, ih]; simp
theorem pv_drop_out (W : Nat) (l : List Nat) (i k k' : Nat) (h : l.length ≤ i + k) (h' : l.length ≤ i + k') : pv W (l.drop i) k = pv W (l.drop i) k' := by
  rw [pv_out W _ k (by simp; omega), pv_out W _ k' (by simp; omega)]
theorem pv_chunks (c : Nat) (ws b : List Nat) (m : Nat) (h : ∀ j, j < m → ws.getD j 0 = pv 256 (b.drop (c * j)) c) : pv (256 ^ c) ws m = pv 256 b (c * m) := by
  induction m with
  | zero => rfl
  | succ m ih => rw [pv_succ, ih fun j hj => h j (by omega), h m (by omega), Nat.mul_succ, pv_drop, ← Nat.pow_mul, Nat.mul_comm (pv 256 (List.drop (c * m) b) c)]
theorem lt8_drop {b : List Nat} (h : allLt8 b) (i : Nat) : allLt8 (b.drop i) := fun x hx => h x (List.mem_of_mem_drop hx)

/-- Word j of the words of b, when k bytes are laid. -/
def wb (b : List Nat) (k j : Nat) : Nat := pv 256 (b.drop (8 * j)) (min (k - 8 * j) 8)
theorem wb_lt (b : List Nat) (h : allLt8 b) (k j : Nat) : wb b k j < 18446744073709551616 := by
  have h1 := pv_lt 256 (by decide) _ (lt8_drop h (8 * j)) (min (k - 8 * j) 8)
  have h2 : 256 ^ min (k - 8 * j) 8 ≤ 256 ^ 8 := Nat.pow_le_pow_right (by decide) (Nat.min_le_right _ _)
  unfold wb; omega
theorem wb_at (b : List Nat) (k q r : Nat) (hk : k = 8 * q + r) (hr : r < 8) : wb b (k + 1) q = wb b k q + b.getD k 0 * 256 ^ r := by
  unfold wb
  rw [show min (k + 1 - 8 * q) 8 = r + 1 by omega, show min (k - 8 * q) 8 = r by omega, pv_succ, getD_drop, ← hk]
theorem wb_small (b : List Nat) (h : allLt8 b) (k q r : Nat) (hk : k = 8 * q + r) (hr : r < 8) : wb b k q < 256 ^ r := by
  have h1 := pv_lt 256 (by decide) _ (lt8_drop h (8 * q)) r
  unfold wb
  rw [show min (k - 8 * q) 8 = r by omega]; exact h1
theorem wb_ne (b : List Nat) (k q r j : Nat) (hk : k = 8 * q + r) (hr : r < 8) (hj : j ≠ q) : wb b (k + 1) j = wb b k j := by
  unfold wb
  rw [show min (k + 1 - 8 * j) 8 = min (k - 8 * j) 8 by omega]

/-- The relation of the loop of Words: k bytes are laid. -/
def WoRel (w : World) (m : Nat) (b : List Nat) (wr : World) (k : Nat) : Prop :=
  ∃ ws : List Nat, ws.length = m ∧ BlkW wr w.heap.size 37 ws ∧ Below w.heap.size w wr ∧ ∀ j, j < m → ws.getD j 0 = wb b k j
theorem WoRel.drew {w wr : World} {m k : Nat} {b : List Nat} (h : WoRel w m b wr k) : WoRel w m b wr.drew k := by
  obtain ⟨ws, hl, hB, hb, hj⟩ := h
  exact ⟨ws, hl, ⟨hB.heap, hB.lt⟩, hb.drew, hj⟩
theorem WoRel.step {w wr : World} {m k q r : Nat} {b : List Nat} (h8 : allLt8 b) (h : WoRel w m b wr k) (hk : k = 8 * q + r) (hr : r < 8) (hq : q < m) (v : Int) (hv : v = (wb b (k + 1) q : Nat)) :
    WoRel w m b (wr.setCell ⟨w.heap.size, q, none⟩ (.int .u64 v)) (k + 1) := by
  obtain ⟨ws, hl, hB, hb, hj⟩ := h
  refine ⟨ws.set q (wb b (k + 1) q), by simp [hl], hB.setI _ _ _ (wb_lt _ h8 _ _) hv, hb.setCell (Nat.le_refl _) _, fun j hjm => ?_⟩
  by_cases hjq : j = q
  · subst hjq
    rw [getD_set_eq _ _ _ (by omega)]
  · rw [getD_set_ne _ _ _ _ (by omega), hj j hjm, wb_ne b k q r j hk hr hjq]
theorem WoRel.end_ {w wr : World} {m n : Nat} {b : List Nat} (h : WoRel w m b wr n) (hn : b.length = n) (hm : n ≤ 8 * m) :
    ∃ ws, ws.length = m ∧ BlkW wr w.heap.size 37 ws ∧ Below w.heap.size w wr ∧ val 18446744073709551616 ws = val 256 b := by
  obtain ⟨ws, hl, hB, hb, hj⟩ := h
  refine ⟨ws, hl, hB, hb, ?_⟩
  have e := pv_chunks 8 ws b m fun j hjm => by
    rw [hj j hjm]; unfold wb
    by_cases hc : n - 8 * j < 8
    · exact pv_drop_out _ _ _ _ _ (by omega) (by omega)
    · rw [show min (n - 8 * j) 8 = 8 by omega]
  rw [pv_out 256 b _ (by omega)] at e
  rw [← e]
  unfold val
  rw [hl]
theorem or_byte (x y r s : Nat) (hx : x < 256 ^ r) (hs : s = 8 * r) : x ||| y * 2 ^ s = x + y * 256 ^ r := by
  have e : 256 ^ r = 2 ^ s := by rw [hs, Nat.pow_mul]
  rw [e] at hx ⊢
  rw [Nat.or_comm, ← Nat.shiftLeft_eq, ← Nat.shiftLeft_add_eq_or_of_lt hx, Nat.add_comm]
theorem byte_up (y r : Nat) (hy : y < 256) (hr : r < 8) : y * 256 ^ r < 18446744073709551616 := by
  have h2 : 256 ^ r ≤ 256 ^ 7 := Nat.pow_le_pow_right (by decide) (by omega)
  have h1 := Nat.mul_le_mul (show y ≤ 255 by omega) h2
  omega

end Go.Proofs.YtjohbepdmnigcaaDoor
