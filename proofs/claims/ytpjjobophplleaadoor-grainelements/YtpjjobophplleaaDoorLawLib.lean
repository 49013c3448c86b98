import Derived.Test.YtpjjobophplleaaDoorBytesB
import Derived.Test.YtpjjobophplleaaDoorLOpsC
import Derived.Test.YtpjjobophplleaaDoorRefB
/-
  avouchref01.OfBytes: what the call does.
-/
namespace Go.Proofs.YtpjjobophplleaaDoor
open Go.RowKit
set_option linter.unusedVariables false

/-- Digit j of the digits of b, when the bytes from k on are laid. -/
def ob (b : List Nat) (k j : Nat) : Nat := pv 256 (b.drop (max k (4 * j))) (4 * j + 4 - max k (4 * j))
theorem ob_lt (b : List Nat) (h : allLt8 b) (k j : Nat) : ob b k j < 4294967296 := by
  have h1 := pv_lt 256 (by decide) _ (lt8_drop h (max k (4 * j))) (4 * j + 4 - max k (4 * j))
  have h2 : 256 ^ (4 * j + 4 - max k (4 * j)) ≤ 256 ^ 4 := Nat.pow_le_pow_right (by decide) (by omega)
  unfold ob; omega
theorem ob_small (b : List Nat) (h : allLt8 b) (k q r : Nat) (hk : k = 4 * q + r) (hr : r < 4) : ob b (k + 1) q < 16777216 := by
  have h1 := pv_lt 256 (by decide) _ (lt8_drop h (max (k + 1) (4 * q))) (4 * q + 4 - max (k + 1) (4 * q))
  have h2 : 256 ^ (4 * q + 4 - max (k + 1) (4 * q)) ≤ 256 ^ 3 := Nat.pow_le_pow_right (by decide) (by omega)
  unfold ob; omega
theorem pv_cons (W : Nat) (l : List Nat) (m : Nat) : pv W l (m + 1) = pv W (l.drop 1) m * W + l.getD 0 0 := by
  rw [Nat.add_comm m 1, pv_drop, pv_succ, pv_zero, Nat.pow_one, Nat.pow_zero, Nat.mul_one, Nat.zero_add, Nat.mul_comm, Nat.add_comm]
theorem ob_at (b : List Nat) (k q r : Nat) (hk : k = 4 * q + r) (hr : r < 4) : ob b k q = ob b (k + 1) q * 256 + b.getD k 0 := by
  unfold ob
  rw [show max k (4 * q) = k by omega, show max (k + 1) (4 * q) = k + 1 by omega, show 4 * q + 4 - k = (4 * q + 4 - (k + 1)) + 1 by omega, pv_cons, List.drop_drop, getD_drop, Nat.add_zero k]
theorem ob_ne (b : List Nat) (k q r j : Nat) (hk : k = 4 * q + r) (hr : r < 4) (hj : j ≠ q) : ob b k j = ob b (k + 1) j := by
  unfold ob
  by_cases hc : j < q
  · rw [show 4 * j + 4 - max k (4 * j) = 0 by omega, show 4 * j + 4 - max (k + 1) (4 * j) = 0 by omega]; rfl
  · rw [show max k (4 * j) = max (k + 1) (4 * j) by omega]
theorem ob_start (b : List Nat) (n j : Nat) (h : b.length = n) : ob b n j = 0 := by
  unfold ob
  rw [List.drop_eq_nil_of_le (by omega), pv_empty]

/-- The relation of the loop of OfBytes: the bytes from k on are laid. -/
def ObRel (w : World) (m : Nat) (b : List Nat) (wr : World) (k : Nat) : Prop :=
  ∃ ws : List Nat, ws.length = m ∧ BlkW wr w.heap.size 36 ws ∧ Below w.heap.size w wr ∧ ∀ j, j < m → ws.getD j 0 = ob b k j
theorem ObRel.drew {w wr : World} {m k : Nat} {b : List Nat} (h : ObRel w m b wr k) : ObRel w m b wr.drew k := by
  obtain ⟨ws, hl, hB, hb, hj⟩ := h
  exact ⟨ws, hl, ⟨hB.heap, hB.lt⟩, hb.drew, hj⟩
theorem ObRel.step {w wr : World} {m k q r : Nat} {b : List Nat} (h8 : allLt8 b) (h : ObRel w m b wr (k + 1)) (hk : k = 4 * q + r) (hr : r < 4) (hq : q < m) (v : Int) (hv : v = (ob b k q : Nat)) :
    ObRel w m b (wr.setCell ⟨w.heap.size, q, none⟩ (.int .u64 v)) k := by
  obtain ⟨ws, hl, hB, hb, hj⟩ := h
  refine ⟨ws.set q (ob b k q), by simp [hl], hB.setI _ _ _ (Nat.lt_trans (ob_lt _ h8 _ _) (by decide)) hv, hb.setCell (Nat.le_refl _) _, fun j hjm => ?_⟩
  by_cases hjq : j = q
  · subst hjq
    rw [getD_set_eq _ _ _ (by omega)]
  · rw [getD_set_ne _ _ _ _ (by omega), hj j hjm, ob_ne b k q r j hk hr hjq]
theorem ObRel.end_ {w wr : World} {m n : Nat} {b : List Nat} (h8 : allLt8 b) (h : ObRel w m b wr 0) (hn : b.length = n) (hm : n ≤ 4 * m) :
    ∃ ws, ws.length = m ∧ BlkW wr w.heap.size 36 ws ∧ D32 ws ∧ Below w.heap.size w wr ∧ val 4294967296 ws = val 256 b := by
  obtain ⟨ws, hl, hB, hb, hj⟩ := h
  refine ⟨ws, hl, hB, fun x hx => ?_, hb, ?_⟩
  · obtain ⟨i, hi, rfl⟩ := List.mem_iff_getElem.1 hx
    have := hj i (by omega)
    rw [List.getD_eq_getElem?_getD, List.getElem?_eq_getElem hi] at this
    have e : ws[i] = ob b 0 i := this
    rw [e]; exact ob_lt b h8 0 i
  · have e := pv_chunks 4 ws b m fun j hjm => by
      rw [hj j hjm]; unfold ob
      rw [show max 0 (4 * j) = 4 * j by omega, show 4 * j + 4 - 4 * j = 4 by omega]
    rw [pv_out 256 b _ (by omega)] at e
    rw [← e]
    unfold val
    rw [hl]

end Go.Proofs.YtpjjobophplleaaDoor
/-
  avouchlaw01.speaks: the document's example holds.
-/
namespace Go.Proofs.YtpjjobophplleaaDoor
open Go.RowKit
set_option linter.unusedVariables false

/-- A slice of one word that is built: it is read; nothing old has turned. -/
theorem built1 (w : World) (X : Int) (n : Nat) (hX : X = (n : Int)) (hn : n < 18446744073709551616) : Rd (w.alloc (.cells #[.int .u64 X] 36)) (w.alloc (.cells #[.int .u64 X] 36)).heap.size (some ⟨w.heap.size, 0, none⟩) 1 [n] ∧ Below w.heap.size w (w.alloc (.cells #[.int .u64 X] 36)) := by
  have h := rd_one w X n hX hn
  refine ⟨?_, (Below.refl _ _).alloc (Nat.le_refl _) _⟩
  have hz : (w.alloc (.cells #[.int .u64 X] 36)).heap.size = w.heap.size + 1 := by simp
  rw [hz]; exact h

theorem rt7 : Rt [7] := by unfold Rt; decide

theorem one_word {r : List Nat} {X : Nat} (h : r.length = 1) (hr : allLt r) (hv : val 18446744073709551616 r = X) : r = [X] := by
  match r, h with
  | [x], _ => rw [val_one] at hv; rw [hv]

theorem built2 (w : World) (X Y : Int) (m n : Nat) (hX : X = (m : Int)) (hY : Y = (n : Int)) (hm : m < 18446744073709551616) (hn : n < 18446744073709551616) (W : World) (hW : W = (w.alloc (.cells #[.int .u64 X] 36)).alloc (.cells #[.int .u64 Y] 36)) :
    Rd W W.heap.size (some ⟨w.heap.size, 0, none⟩) 1 [m] ∧ Rd W W.heap.size (some ⟨w.heap.size + 1, 0, none⟩) 1 [n] ∧ Below w.heap.size w W := by
  obtain ⟨r1, b1⟩ := built1 w X m hX hm
  obtain ⟨r2, b2⟩ := built1 (w.alloc (.cells #[.int .u64 X] 36)) Y n hY hn
  have hz : (w.alloc (.cells #[.int .u64 X] 36)).heap.size = w.heap.size + 1 := by simp
  rw [← hW] at r2 b2
  have r1' := r1.up b2 (Nat.le_refl _)
  rw [hz] at r2
  exact ⟨r1', r2, b1.trans (b2.mono b1.size)⟩

end Go.Proofs.YtpjjobophplleaaDoor
/-
  Small facts for the laws' walks.
-/
namespace Go.Proofs.YtpjjobophplleaaDoor
open Go.RowKit
set_option linter.unusedVariables false

theorem bchain {a b c : World} (h : Below a.heap.size a b) (k : Below b.heap.size b c) : Below a.heap.size a c := h.trans (k.mono h.size)
theorem rt_pos {l : List Nat} (hl : allLt l) (h : Rt l) : 0 < val 18446744073709551616 l := by
  have h1 := h.1
  have h4 := h.2.2.2.1
  have e : val 18446744073709551616 l = pv 18446744073709551616 l (l.length - 1 + 1) := by unfold val; rw [show l.length - 1 + 1 = l.length by omega]
  rw [e, pv_succ]
  have : 0 < l.getD (l.length - 1) 0 * 18446744073709551616 ^ (l.length - 1) := Nat.mul_pos (Nat.pos_of_ne_zero h4) (Nat.pow_pos (by decide))
  omega
theorem eq_of_val {w w' : World} {B B' n : Nat} {A A' : Option Addr} {l l' : List Nat} (h : Rd w B A n l) (h' : Rd w' B' A' n l') (e : val 18446744073709551616 l = val 18446744073709551616 l') : l = l' :=
  val_inj _ (by decide) l l' h.lt h'.lt (h.len.trans h'.len.symm) e
theorem sub_add_mod (x y m : Nat) (hm : 0 < m) : ((x % m + m - y % m) % m + y) % m = x % m := by
  have h1 := Nat.mod_lt x hm
  have h2 := Nat.mod_lt y hm
  rw [Nat.mod_add_mod, ← Nat.add_mod_mod, show x % m + m - y % m + y % m = x % m + m by omega, Nat.add_mod_right, Nat.mod_mod]
theorem pow_three (x : Nat) : x ^ 3 = x * (x * x) := by rw [Nat.pow_succ, Nat.pow_two, Nat.mul_comm]

theorem BlkW.rdAll {w : World} {b : Nat} {ws : List Nat} (h : BlkW w b 36 ws) : Rd w w.heap.size (some ⟨b, 0, none⟩) ws.length ws := by
  have rd := h.rd (off := 0) (n := ws.length) (B := w.heap.size) (by omega) h.size
  rw [List.drop_zero, List.take_length] at rd
  exact rd
theorem builtTwo (w : World) (X Y : Int) (m n : Nat) (hX : X = (m : Int)) (hY : Y = (n : Int)) (hm : m < 18446744073709551616) (hn : n < 18446744073709551616) :
    Rd (w.alloc (.cells #[.int .u64 X, .int .u64 Y] 36)) (w.alloc (.cells #[.int .u64 X, .int .u64 Y] 36)).heap.size (some ⟨w.heap.size, 0, none⟩) 2 [m, n] ∧ Below w.heap.size w (w.alloc (.cells #[.int .u64 X, .int .u64 Y] 36)) := by
  subst hX hY
  refine ⟨⟨rfl, fun x hx => by simp at hx; omega, fun _ => ⟨w.heap.size, 0, rfl, by simp, fun i hi => ?_⟩⟩, (Below.refl _ _).alloc (Nat.le_refl _) _⟩
  have : i = 0 ∨ i = 1 := by omega
  rcases this with rfl | rfl <;> simp [at64]
theorem val_shift (x : Nat) : x * val 18446744073709551616 [0, 1] = x * 18446744073709551616 := by
  have : val 18446744073709551616 [0, 1] = 18446744073709551616 := by decide
  rw [this]
theorem blen_shift (x : Nat) : (blen (x * 18446744073709551616) = 0 ∧ blen x = 0) ∨ (blen (x * 18446744073709551616) = blen x + 64 ∧ 1 ≤ blen x) := by
  rcases Nat.eq_zero_or_pos x with h | h
  · subst h; exact .inl ⟨rfl, rfl⟩
  · right
    have h0 : x ≠ 0 := by omega
    have e : blen x = x.log2 + 1 := by unfold blen; rw [if_neg h0]
    have h1 := Nat.log2_self_le h0
    have h2 : x < 2 ^ (x.log2 + 1) := Nat.lt_log2_self
    have hb : blen (x * 18446744073709551616) = (x.log2 + 64) + 1 := by
      apply blen_eq
      · rw [Nat.pow_add]; exact Nat.mul_le_mul_right _ h1
      · rw [show x.log2 + 64 + 1 = (x.log2 + 1) + 64 by omega, Nat.pow_add]
        exact Nat.mul_lt_mul_of_pos_right h2 (by decide)
    omega

theorem val_bd {w : World} {B n N : Nat} {A : Option Addr} {l : List Nat} (h : Rd w B A n l) (hn : 2 * n ≤ N) : val 18446744073709551616 l < 4294967296 ^ N := by
  have h1 := val_lt _ (by decide) l h.lt
  rw [h.len, pow64] at h1
  exact Nat.lt_of_lt_of_le h1 (Nat.pow_le_pow_right (by decide) hn)
theorem add_bd {x y a b N : Nat} (h1 : x < 4294967296 ^ a) (h2 : y < 4294967296 ^ b) (ha : a + 1 ≤ N) (hb : b + 1 ≤ N) : x + y < 4294967296 ^ N := by
  have e1 : 4294967296 ^ a * 4294967296 ≤ 4294967296 ^ N := by rw [← Nat.pow_succ]; exact Nat.pow_le_pow_right (by decide) ha
  have e2 : 4294967296 ^ b * 4294967296 ≤ 4294967296 ^ N := by rw [← Nat.pow_succ]; exact Nat.pow_le_pow_right (by decide) hb
  generalize 4294967296 ^ a = P at *
  generalize 4294967296 ^ b = Q at *
  generalize 4294967296 ^ N = R at *
  omega
theorem mul_bd {x y a b : Nat} (h1 : x < 4294967296 ^ a) (h2 : y < 4294967296 ^ b) : x * y < 4294967296 ^ (a + b) := by
  rw [Nat.pow_add]; exact Nat.mul_lt_mul'' h1 h2
end Go.Proofs.YtpjjobophplleaaDoor
