import Derived.WalkKit
import Derived.WalkSpells
import Derived.WalkLawsBesides
/-
  Words for memory: a slice of words that is read (Rd), a block of words that is known whole (BlkW). Helpers for the walks; nothing of the program.
-/
namespace Go.Proofs.YtdepkfdceidikaaGreatDoor
open Go.RowKit

/-- A fact kept from the walk. -/
theorem hid {p : Prop} (h : p) : Hid p := h

theorem ret_int {k : IntKind} {a b : Int} (h : a = b) : Ending.returned (.int k a) = .returned (.int k b) := by rw [h]
theorem ret_bool {a b : Bool} (h : a = b) : Ending.returned (.bool a) = .returned (.bool b) := by rw [h]

/-- The i-th word of a list, as the walk writes it. -/
def at64 (l : List Nat) (i : Nat) : Int := ((l.getD i 0 : Nat) : Int)

def allLt (l : List Nat) : Prop := ∀ x ∈ l, x < 18446744073709551616

theorem at64_nonneg (l : List Nat) (i : Nat) : 0 ≤ at64 l i := by unfold at64; omega
theorem at64_lt {l : List Nat} (h : allLt l) (i : Nat) : at64 l i < 18446744073709551616 := by
  unfold at64
  by_cases hi : i < l.length
  · have := h l[i] (List.getElem_mem hi)
    rw [List.getD_eq_getElem?_getD, List.getElem?_eq_getElem hi]
    simp only [Option.getD_some]; omega
  · rw [List.getD_eq_getElem?_getD, List.getElem?_eq_none (by omega)]
    simp
theorem at64_out {l : List Nat} {i : Nat} (h : l.length ≤ i) : at64 l i = 0 := by
  unfold at64; rw [List.getD_eq_getElem?_getD, List.getElem?_eq_none h]; rfl

/-- The slice of n words at A reads as l, and lies below block B (nil and empty ones let in). -/
structure Rd (w : World) (B : Nat) (A : Option Addr) (n : Nat) (l : List Nat) : Prop where
  len : l.length = n
  lt : allLt l
  cells : 0 < n → ∃ b off, A = some ⟨b, off, none⟩ ∧ b < B ∧ ∀ i, i < n → w.cell? ⟨b, off + i, none⟩ = some (.int .u64 (at64 l i))

theorem Rd.keep {w w' : World} {B n : Nat} {A : Option Addr} {l : List Nat} (h : Rd w B A n l) (hk : ∀ p : Addr, p.block < B → w'.cell? p = w.cell? p) : Rd w' B A n l :=
  ⟨h.len, h.lt, fun hn => by
    obtain ⟨b, off, e, hb, hc⟩ := h.cells hn
    exact ⟨b, off, e, hb, fun i hi => (hk ⟨b, off + i, none⟩ hb).trans (hc i hi)⟩⟩
theorem Rd.more {w : World} {B B' n : Nat} {A : Option Addr} {l : List Nat} (h : Rd w B A n l) (hB : B ≤ B') : Rd w B' A n l :=
  ⟨h.len, h.lt, fun hn => by
    obtain ⟨b, off, e, hb, hc⟩ := h.cells hn
    exact ⟨b, off, e, by omega, hc⟩⟩
theorem Rd.below {w w' : World} {B B' n : Nat} {A : Option Addr} {l : List Nat} (h : Rd w B A n l) (hb : Below B' w w') (hB : B ≤ B') : Rd w' B A n l :=
  h.keep fun _ hp => hb.cell (Nat.lt_of_lt_of_le hp hB)
theorem Rd.up {w w' : World} {B n : Nat} {A : Option Addr} {l : List Nat} (h : Rd w B A n l) (hb : Below w.heap.size w w') (hB : B ≤ w.heap.size) : Rd w' w'.heap.size A n l :=
  (h.below hb hB).more (Nat.le_trans hB hb.size)
theorem Rd.nil (w : World) (B : Nat) (A : Option Addr) : Rd w B A 0 [] := ⟨rfl, by intro x hx; simp at hx, fun h => absurd h (by omega)⟩
theorem Rd.at_ {w : World} {B n : Nat} {A : Option Addr} {l : List Nat} (h : Rd w B A n l) {k : Nat} (hk : k < n) :
    ∃ b off, A = some ⟨b, off, none⟩ ∧ b < B ∧ w.cell? ⟨b, off + k, none⟩ = some (.int .u64 (at64 l k)) := by
  obtain ⟨b, off, e, hb, hc⟩ := h.cells (by omega)
  exact ⟨b, off, e, hb, hc k hk⟩

/-- Block b is just the words ws (of element type t), none frozen. -/
structure BlkW (w : World) (b : Nat) (t : TypeId) (ws : List Nat) : Prop where
  heap : w.heap[b]? = some (.cells (ws.map fun (x : Nat) => Value.int .u64 (x : Int)).toArray t (0, 0))
  lt : allLt ws

theorem BlkW.size {w : World} {b : Nat} {t : TypeId} {ws : List Nat} (h : BlkW w b t ws) : b < w.heap.size := by
  rcases Nat.lt_or_ge b w.heap.size with hlt | hge
  · exact hlt
  · have := h.heap; rw [Array.getElem?_eq_none hge] at this; cases this
theorem BlkW.cell {w : World} {b : Nat} {t : TypeId} {ws : List Nat} (h : BlkW w b t ws) {i : Nat} (hi : i < ws.length) : w.cell? ⟨b, i, none⟩ = some (.int .u64 (at64 ws i)) := by
  rw [cell_of_row w b i _ t (0, 0) h.heap]
  simp [at64, List.getElem?_eq_getElem hi, List.getD_eq_getElem?_getD]
theorem BlkW.frozen {w : World} {b : Nat} {t : TypeId} {ws : List Nat} (h : BlkW w b t ws) (i : Nat) : w.frozen? ⟨b, i, none⟩ = false := by
  simp [World.frozen?, h.heap]
theorem BlkW.below {w w' : World} {b B : Nat} {t : TypeId} {ws : List Nat} (h : BlkW w b t ws) (hb : Below B w w') (hB : b < B) : BlkW w' b t ws :=
  ⟨(hb.block b hB).trans h.heap, h.lt⟩
theorem BlkW.set {w : World} {b : Nat} {t : TypeId} {ws : List Nat} (h : BlkW w b t ws) (i : Nat) (x : Nat) (hx : x < 18446744073709551616) :
    BlkW (w.setCell ⟨b, i, none⟩ (.int .u64 (x : Int))) b t (ws.set i x) := by
  refine ⟨?_, ?_⟩
  · simp [World.setCell, Array.getElem?_modify, h.heap, List.map_set]
  · intro y hy
    rcases List.mem_or_eq_of_mem_set hy with h' | h'
    · exact h.lt y h'
    · subst h'; exact hx
/-- A piece of a block, read. -/
theorem BlkW.rd {w : World} {b : Nat} {t : TypeId} {ws : List Nat} (h : BlkW w b t ws) {off n B : Nat} (hn : off + n ≤ ws.length) (hB : b < B) : Rd w B (some ⟨b, off, none⟩) n ((ws.drop off).take n) := by
  refine ⟨by simp; omega, fun x hx => h.lt x (List.mem_of_mem_drop (List.mem_of_mem_take hx)), fun _ => ⟨b, off, rfl, hB, fun i hi => ?_⟩⟩
  rw [h.cell (by omega)]
  simp [at64, List.getD_eq_getElem?_getD, hi]
theorem below_drewN {B : Nat} {a w : World} (h : Below B a w) (n : Nat) : Below B a (w.drewN n) := ⟨h.os, h.tape, h.output, h.size, h.block⟩
end Go.Proofs.YtdepkfdceidikaaGreatDoor
/-
  Numbers as lists of digits: plain arithmetic, nothing of the program.
-/
namespace Go.Proofs.YtdepkfdceidikaaGreatDoor

/-- The number of the first k digits of l in base W. -/
def pv (W : Nat) (l : List Nat) : Nat → Nat
  | 0 => 0
  | k + 1 => pv W l k + l.getD k 0 * W ^ k
/-- The number of a list. -/
def val (W : Nat) (l : List Nat) : Nat := pv W l l.length

theorem pv_zero (W : Nat) (l : List Nat) : pv W l 0 = 0 := rfl
theorem pv_succ (W : Nat) (l : List Nat) (k : Nat) : pv W l (k + 1) = pv W l k + l.getD k 0 * W ^ k := rfl
theorem getD_set_ne (l : List Nat) (i j x : Nat) (h : i ≠ j) : (l.set i x).getD j 0 = l.getD j 0 := by
  simp [List.getD_eq_getElem?_getD, List.getElem?_set_ne h]
theorem getD_set_eq (l : List Nat) (i x : Nat) (h : i < l.length) : (l.set i x).getD i 0 = x := by
  simp [List.getD_eq_getElem?_getD, h]
theorem pv_congr (W : Nat) (l l' : List Nat) (k : Nat) (h : ∀ i, i < k → l.getD i 0 = l'.getD i 0) : pv W l k = pv W l' k := by
  induction k with
  | zero => rfl
  | succ k ih => rw [pv_succ, pv_succ, ih (fun i hi => h i (by omega)), h k (by omega)]
theorem pv_set (W : Nat) (l : List Nat) (i x k : Nat) (h : k ≤ i) : pv W (l.set i x) k = pv W l k :=
  pv_congr W _ _ k fun j hj => getD_set_ne l i j x (by omega)
theorem pv_set_succ (W : Nat) (l : List Nat) (i x : Nat) (h : i < l.length) : pv W (l.set i x) (i + 1) = pv W l i + x * W ^ i := by
  rw [pv_succ, pv_set W l i x i (Nat.le_refl _), getD_set_eq l i x h]
theorem getD_out (l : List Nat) (i : Nat) (h : l.length ≤ i) : l.getD i 0 = 0 := by
  rw [List.getD_eq_getElem?_getD, List.getElem?_eq_none h]; rfl
theorem pv_out (W : Nat) (l : List Nat) (k : Nat) (h : l.length ≤ k) : pv W l k = val W l := by
  unfold val
  induction k with
  | zero => have : l.length = 0 := by omega
            rw [this]
  | succ k ih =>
    by_cases hk : l.length ≤ k
    · rw [pv_succ, getD_out l k hk, ih hk]; omega
    · have : l.length = k + 1 := by omega
      rw [this]
theorem getD_lt (W : Nat) (hW : 0 < W) (l : List Nat) (h : ∀ x ∈ l, x < W) (i : Nat) : l.getD i 0 < W := by
  by_cases hi : i < l.length
  · rw [List.getD_eq_getElem?_getD, List.getElem?_eq_getElem hi]; exact h _ (List.getElem_mem hi)
  · rw [getD_out l i (by omega)]; exact hW
theorem pv_lt (W : Nat) (hW : 0 < W) (l : List Nat) (h : ∀ x ∈ l, x < W) (k : Nat) : pv W l k < W ^ k := by
  induction k with
  | zero => simp [pv]
  | succ k ih =>
    have h1 := getD_lt W hW l h k
    have h2 : (l.getD k 0 + 1) * W ^ k ≤ W * W ^ k := Nat.mul_le_mul_right _ h1
    rw [pv_succ, Nat.pow_succ, Nat.mul_comm (W ^ k) W]
    rw [Nat.add_mul] at h2; omega
theorem val_lt (W : Nat) (hW : 0 < W) (l : List Nat) (h : ∀ x ∈ l, x < W) : val W l < W ^ l.length := pv_lt W hW l h _
theorem pv_inj (W : Nat) (hW : 0 < W) (l l' : List Nat) (h : ∀ x ∈ l, x < W) (h' : ∀ x ∈ l', x < W) (k : Nat) (e : pv W l k = pv W l' k) : ∀ i, i < k → l.getD i 0 = l'.getD i 0 := by
  induction k with
  | zero => intro i hi; omega
  | succ k ih =>
    rw [pv_succ, pv_succ] at e
    have b1 := pv_lt W hW l h k
    have b2 := pv_lt W hW l' h' k
    have hp : 0 < W ^ k := Nat.pow_pos hW
    have e1 : l.getD k 0 = l'.getD k 0 := by
      have := congrArg (· / W ^ k) e
      simpa [Nat.add_mul_div_right _ _ hp, Nat.div_eq_of_lt b1, Nat.div_eq_of_lt b2] using this
    have e2 : pv W l k = pv W l' k := by rw [e1] at e; omega
    intro i hi
    by_cases hik : i = k
    · subst hik; exact e1
    · exact ih e2 i (by omega)
theorem val_inj (W : Nat) (hW : 0 < W) (l l' : List Nat) (h : ∀ x ∈ l, x < W) (h' : ∀ x ∈ l', x < W) (hl : l.length = l'.length) (e : val W l = val W l') : l = l' := by
  unfold val at e
  rw [← hl] at e
  have := pv_inj W hW l l' h h' l.length e
  apply List.ext_getElem hl
  intro i h1 h2
  have := this i h1
  simpa [List.getD_eq_getElem?_getD, List.getElem?_eq_getElem h1, List.getElem?_eq_getElem h2] using this
theorem pv_drop (W : Nat) (l : List Nat) (i k : Nat) : pv W l (i + k) = pv W l i + W ^ i * pv W (l.drop i) k := by
  induction k with
  | zero => simp [pv]
  | succ k ih =>
    have e : (l.drop i).getD k 0 = l.getD (i + k) 0 := by simp [List.getD_eq_getElem?_getD]
    rw [show i + (k + 1) = (i + k) + 1 from rfl, pv_succ, ih, pv_succ, e, Nat.mul_add, Nat.pow_add, Nat.add_assoc]
    congr 2
    rw [← Nat.mul_assoc, ← Nat.mul_assoc, Nat.mul_comm (l.getD (i + k) 0)]
theorem pv_take (W : Nat) (l : List Nat) (n k : Nat) (h : k ≤ n) : pv W (l.take n) k = pv W l k :=
  pv_congr W _ _ k fun i hi => by simp [List.getD_eq_getElem?_getD, show i < n by omega]
theorem pv_replicate (W : Nat) (n k : Nat) : pv W (List.replicate n 0) k = 0 := by
  induction k with
  | zero => rfl
  | succ k ih =>
    have : (List.replicate n 0).getD k 0 = 0 := by
      rw [List.getD_eq_getElem?_getD, List.getElem?_replicate]; split <;> rfl
    rw [pv_succ, ih, this]; omega
theorem val_nil (W : Nat) : val W [] = 0 := rfl

theorem pv_tail (W : Nat) (la lb : List Nat) (k m : Nat) (h : ∀ j, k ≤ j → la.getD j 0 = lb.getD j 0) (hm : k ≤ m) : pv W la m + pv W lb k = pv W lb m + pv W la k := by
  induction m with
  | zero => have : k = 0 := by omega
            subst this; omega
  | succ m ih =>
    by_cases hk : k ≤ m
    · have := ih hk
      rw [pv_succ, pv_succ, h m hk]; omega
    · have : k = m + 1 := by omega
      subst this; omega
theorem pv_less (W : Nat) (hW : 0 < W) (la lb : List Nat) (hla : ∀ x ∈ la, x < W) (k m : Nat) (h : ∀ j, k < j → la.getD j 0 = lb.getD j 0) (hk : la.getD k 0 < lb.getD k 0) (hm : k < m) : pv W la m < pv W lb m := by
  have h1 := pv_lt W hW la hla k
  have h2 := pv_tail W la lb (k + 1) m h hm
  have h3 : (la.getD k 0 + 1) * W ^ k ≤ lb.getD k 0 * W ^ k := Nat.mul_le_mul_right _ hk
  rw [pv_succ, pv_succ] at h2
  rw [Nat.add_mul] at h3
  omega

/-- One step of adding. -/
theorem add_step (W p q r c s c' x y P : Nat) (h : r + c * P = p + q) (e : s + c' * W = x + y + c) : (r + s * P) + c' * (P * W) = (p + x * P) + (q + y * P) := by
  have : (s + c' * W) * P = (x + y + c) * P := by rw [e]
  grind
end Go.Proofs.YtdepkfdceidikaaGreatDoor
