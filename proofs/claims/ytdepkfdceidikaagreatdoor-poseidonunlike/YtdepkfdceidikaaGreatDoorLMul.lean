import Derived.WalkKit
import Derived.WalkSpells
import Derived.WalkLawsBesides
import Derived.Test.YtdepkfdceidikaaGreatDoorRows
import Derived.Shelf.Spec.BitsCarry
import Derived.Deep.OwnRows
import Derived.Lib.MinMax
import Derived.Shelf.Bits.Mul64
/-
  Words for memory: a slice of words that is read (Rd), a block of words that is known whole (BlkW). Helpers for the walks; nothing of the program.
-/
namespace Go.Proofs.YtdepkfdceidikaaGreatDoor
open Go.RowKit

/-- A fact kept from the walk. -/
theorem hid {p : Prop} (h : p) : Hid p := h

theorem ret_int {k : IntKind} {a b : Int} (h : a = b) : Ending.returned (.int k a) = .returned (.int k b) := by rw [h]
theorem ret_bool {a b : Bool} (h : a = b) : Ending.returned (.bool a) = .returned (.bool b) := by rw [h]

/-- The i-th word of a list, as the walk writes it. -/
def at64 (l : List Nat) (i : Nat) : Int := ((l.getD i 0 : Nat) : Int)

def allLt (l : List Nat) : Prop := ∀ x ∈ l, x < 18446744073709551616

theorem at64_nonneg (l : List Nat) (i : Nat) : 0 ≤ at64 l i := by unfold at64; omega
theorem at64_lt {l : List Nat} (h : allLt l) (i : Nat) : at64 l i < 18446744073709551616 := by
  unfold at64
  by_cases hi : i < l.length
  · have := h l[i] (List.getElem_mem hi)
    rw [List.getD_eq_getElem?_getD, List.getElem?_eq_getElem hi]
    simp only [Option.getD_some]; omega
  · rw [List.getD_eq_getElem?_getD, List.getElem?_eq_none (by omega)]
    simp
theorem at64_out {l : List Nat} {i : Nat} (h : l.length ≤ i) : at64 l i = 0 := by
  unfold at64; rw [List.getD_eq_getElem?_getD, List.getElem?_eq_none h]; rfl

/-- The slice of n words at A reads as l, and lies below block B (nil and empty ones let in). -/
structure Rd (w : World) (B : Nat) (A : Option Addr) (n : Nat) (l : List Nat) : Prop where
  len : l.length = n
  lt : allLt l
  cells : 0 < n → ∃ b off, A = some ⟨b, off, none⟩ ∧ b < B ∧ ∀ i, i < n → w.cell? ⟨b, off + i, none⟩ = some (.int .u64 (at64 l i))

theorem Rd.keep {w w' : World} {B n : Nat} {A : Option Addr} {l : List Nat} (h : Rd w B A n l) (hk : ∀ p : Addr, p.block < B → w'.cell? p = w.cell? p) : Rd w' B A n l :=
  ⟨h.len, h.lt, fun hn => by
    obtain ⟨b, off, e, hb, hc⟩ := h.cells hn
    exact ⟨b, off, e, hb, fun i hi => (hk ⟨b, off + i, none⟩ hb).trans (hc i hi)⟩⟩
theorem Rd.more {w : World} {B B' n : Nat} {A : Option Addr} {l : List Nat} (h : Rd w B A n l) (hB : B ≤ B') : Rd w B' A n l :=
  ⟨h.len, h.lt, fun hn => by
    obtain ⟨b, off, e, hb, hc⟩ := h.cells hn
    exact ⟨b, off, e, by omega, hc⟩⟩
theorem Rd.below {w w' : World} {B B' n : Nat} {A : Option Addr} {l : List Nat} (h : Rd w B A n l) (hb : Below B' w w') (hB : B ≤ B') : Rd w' B A n l :=
  h.keep fun _ hp => hb.cell (Nat.lt_of_lt_of_le hp hB)
theorem Rd.up {w w' : World} {B n : Nat} {A : Option Addr} {l : List Nat} (h : Rd w B A n l) (hb : Below w.heap.size w w') (hB : B ≤ w.heap.size) : Rd w' w'.heap.size A n l :=
  (h.below hb hB).more (Nat.le_trans hB hb.size)
theorem Rd.nil (w : World) (B : Nat) (A : Option Addr) : Rd w B A 0 [] := ⟨rfl, by intro x hx; simp at hx, fun h => absurd h (by omega)⟩
theorem Rd.at_ {w : World} {B n : Nat} {A : Option Addr} {l : List Nat} (h : Rd w B A n l) {k : Nat} (hk : k < n) :
    ∃ b off, A = some ⟨b, off, none⟩ ∧ b < B ∧ w.cell? ⟨b, off + k, none⟩ = some (.int .u64 (at64 l k)) := by
  obtain ⟨b, off, e, hb, hc⟩ := h.cells (by omega)
  exact ⟨b, off, e, hb, hc k hk⟩

/-- Block b is just the words ws (of element type t), none frozen. -/
structure BlkW (w : World) (b : Nat) (t : TypeId) (ws : List Nat) : Prop where
  heap : w.heap[b]? = some (.cells (ws.map fun (x : Nat) => Value.int .u64 (x : Int)).toArray t (0, 0))
  lt : allLt ws

theorem BlkW.size {w : World} {b : Nat} {t : TypeId} {ws : List Nat} (h : BlkW w b t ws) : b < w.heap.size := by
  rcases Nat.lt_or_ge b w.heap.size with hlt | hge
  · exact hlt
  · have := h.heap; rw [Array.getElem?_eq_none hge] at this; cases this
theorem BlkW.cell {w : World} {b : Nat} {t : TypeId} {ws : List Nat} (h : BlkW w b t ws) {i : Nat} (hi : i < ws.length) : w.cell? ⟨b, i, none⟩ = some (.int .u64 (at64 ws i)) := by
  rw [cell_of_row w b i _ t (0, 0) h.heap]
  simp [at64, List.getElem?_eq_getElem hi, List.getD_eq_getElem?_getD]
theorem BlkW.frozen {w : World} {b : Nat} {t : TypeId} {ws : List Nat} (h : BlkW w b t ws) (i : Nat) : w.frozen? ⟨b, i, none⟩ = false := by
  simp [World.frozen?, h.heap]
theorem BlkW.below {w w' : World} {b B : Nat} {t : TypeId} {ws : List Nat} (h : BlkW w b t ws) (hb : Below B w w') (hB : b < B) : BlkW w' b t ws :=
  ⟨(hb.block b hB).trans h.heap, h.lt⟩
theorem BlkW.set {w : World} {b : Nat} {t : TypeId} {ws : List Nat} (h : BlkW w b t ws) (i : Nat) (x : Nat) (hx : x < 18446744073709551616) :
    BlkW (w.setCell ⟨b, i, none⟩ (.int .u64 (x : Int))) b t (ws.set i x) := by
  refine ⟨?_, ?_⟩
  · simp [World.setCell, Array.getElem?_modify, h.heap, List.map_set]
  · intro y hy
    rcases List.mem_or_eq_of_mem_set hy with h' | h'
    · exact h.lt y h'
    · subst h'; exact hx
/-- A piece of a block, read. -/
theorem BlkW.rd {w : World} {b : Nat} {t : TypeId} {ws : List Nat} (h : BlkW w b t ws) {off n B : Nat} (hn : off + n ≤ ws.length) (hB : b < B) : Rd w B (some ⟨b, off, none⟩) n ((ws.drop off).take n) := by
  refine ⟨by simp; omega, fun x hx => h.lt x (List.mem_of_mem_drop (List.mem_of_mem_take hx)), fun _ => ⟨b, off, rfl, hB, fun i hi => ?_⟩⟩
  rw [h.cell (by omega)]
  simp [at64, List.getD_eq_getElem?_getD, hi]
theorem below_drewN {B : Nat} {a w : World} (h : Below B a w) (n : Nat) : Below B a (w.drewN n) := ⟨h.os, h.tape, h.output, h.size, h.block⟩
end Go.Proofs.YtdepkfdceidikaaGreatDoor
/-
  Numbers as lists of digits: plain arithmetic, nothing of the program.
-/
namespace Go.Proofs.YtdepkfdceidikaaGreatDoor

/-- The number of the first k digits of l in base W. -/
def pv (W : Nat) (l : List Nat) : Nat → Nat
  | 0 => 0
  | k + 1 => pv W l k + l.getD k 0 * W ^ k
/-- The number of a list. -/
def val (W : Nat) (l : List Nat) : Nat := pv W l l.length

theorem pv_zero (W : Nat) (l : List Nat) : pv W l 0 = 0 := rfl
theorem pv_succ (W : Nat) (l : List Nat) (k : Nat) : pv W l (k + 1) = pv W l k + l.getD k 0 * W ^ k := rfl
theorem getD_set_ne (l : List Nat) (i j x : Nat) (h : i ≠ j) : (l.set i x).getD j 0 = l.getD j 0 := by
  simp [List.getD_eq_getElem?_getD, List.getElem?_set_ne h]
theorem getD_set_eq (l : List Nat) (i x : Nat) (h : i < l.length) : (l.set i x).getD i 0 = x := by
  simp [List.getD_eq_getElem?_getD, h]
theorem pv_congr (W : Nat) (l l' : List Nat) (k : Nat) (h : ∀ i, i < k → l.getD i 0 = l'.getD i 0) : pv W l k = pv W l' k := by
  induction k with
  | zero => rfl
  | succ k ih => rw [pv_succ, pv_succ, ih (fun i hi => h i (by omega)), h k (by omega)]
theorem pv_set (W : Nat) (l : List Nat) (i x k : Nat) (h : k ≤ i) : pv W (l.set i x) k = pv W l k :=
  pv_congr W _ _ k fun j hj => getD_set_ne l i j x (by omega)
theorem pv_set_succ (W : Nat) (l : List Nat) (i x : Nat) (h : i < l.length) : pv W (l.set i x) (i + 1) = pv W l i + x * W ^ i := by
  rw [pv_succ, pv_set W l i x i (Nat.le_refl _), getD_set_eq l i x h]
theorem getD_out (l : List Nat) (i : Nat) (h : l.length ≤ i) : l.getD i 0 = 0 := by
  rw [List.getD_eq_getElem?_getD, List.getElem?_eq_none h]; rfl
theorem pv_out (W : Nat) (l : List Nat) (k : Nat) (h : l.length ≤ k) : pv W l k = val W l := by
  unfold val
  induction k with
  | zero => have : l.length = 0 := by omega
            rw [this]
  | succ k ih =>
    by_cases hk : l.length ≤ k
    · rw [pv_succ, getD_out l k hk, ih hk]; omega
    · have : l.length = k + 1 := by omega
      rw [this]
theorem getD_lt (W : Nat) (hW : 0 < W) (l : List Nat) (h : ∀ x ∈ l, x < W) (i : Nat) : l.getD i 0 < W := by
  by_cases hi : i < l.length
  · rw [List.getD_eq_getElem?_getD, List.getElem?_eq_getElem hi]; exact h _ (List.getElem_mem hi)
  · rw [getD_out l i (by omega)]; exact hW
theorem pv_lt (W : Nat) (hW : 0 < W) (l : List Nat) (h : ∀ x ∈ l, x < W) (k : Nat) : pv W l k < W ^ k := by
  induction k with
  | zero => simp [pv]
  | succ k ih =>
    have h1 := getD_lt W hW l h k
    have h2 : (l.getD k 0 + 1) * W ^ k ≤ W * W ^ k := Nat.mul_le_mul_right _ h1
    rw [pv_succ, Nat.pow_succ, Nat.mul_comm (W ^ k) W]
    rw [Nat.add_mul] at h2; omega
theorem val_lt (W : Nat) (hW : 0 < W) (l : List Nat) (h : ∀ x ∈ l, x < W) : val W l < W ^ l.length := pv_lt W hW l h _
theorem pv_inj (W : Nat) (hW : 0 < W) (l l' : List Nat) (h : ∀ x ∈ l, x < W) (h' : ∀ x ∈ l', x < W) (k : Nat) (e : pv W l k = pv W l' k) : ∀ i, i < k → l.getD i 0 = l'.getD i 0 := by
  induction k with
  | zero => intro i hi; omega
  | succ k ih =>
    rw [pv_succ, pv_succ] at e
    have b1 := pv_lt W hW l h k
    have b2 := pv_lt W hW l' h' k
    have hp : 0 < W ^ k := Nat.pow_pos hW
    have e1 : l.getD k 0 = l'.getD k 0 := by
      have := congrArg (· / W ^ k) e
      simpa [Nat.add_mul_div_right _ _ hp, Nat.div_eq_of_lt b1, Nat.div_eq_of_lt b2] using this
    have e2 : pv W l k = pv W l' k := by rw [e1] at e; omega
    intro i hi
    by_cases hik : i = k
    · subst hik; exact e1
    · exact ih e2 i (by omega)
theorem val_inj (W : Nat) (hW : 0 < W) (l l' : List Nat) (h : ∀ x ∈ l, x < W) (h' : ∀ x ∈ l', x < W) (hl : l.length = l'.length) (e : val W l = val W l') : l = l' := by
  unfold val at e
  rw [← hl] at e
  have := pv_inj W hW l l' h h' l.length e
  apply List.ext_getElem hl
  intro i h1 h2
  have := this i h1
  simpa [List.getD_eq_getElem?_getD, List.getElem?_eq_getElem h1, List.getElem?_eq_getElem h2] using this
theorem pv_drop (W : Nat) (l : List Nat) (i k : Nat) : pv W l (i + k) = pv W l i + W ^ i * pv W (l.drop i) k := by
  induction k with
  | zero => simp [pv]
  | succ k ih =>
    have e : (l.drop i).getD k 0 = l.getD (i + k) 0 := by simp [List.getD_eq_getElem?_getD]
    rw [show i + (k + 1) = (i + k) + 1 from rfl, pv_succ, ih, pv_succ, e, Nat.mul_add, Nat.pow_add, Nat.add_assoc]
    congr 2
    rw [← Nat.mul_assoc, ← Nat.mul_assoc, Nat.mul_comm (l.getD (i + k) 0)]
theorem pv_take (W : Nat) (l : List Nat) (n k : Nat) (h : k ≤ n) : pv W (l.take n) k = pv W l k :=
  pv_congr W _ _ k fun i hi => by simp [List.getD_eq_getElem?_getD, show i < n by omega]
theorem pv_replicate (W : Nat) (n k : Nat) : pv W (List.replicate n 0) k = 0 := by
  induction k with
  | zero => rfl
  | succ k ih =>
    have : (List.replicate n 0).getD k 0 = 0 := by
      rw [List.getD_eq_getElem?_getD, List.getElem?_replicate]; split <;> rfl
    rw [pv_succ, ih, this]; omega
theorem val_nil (W : Nat) : val W [] = 0 := rfl

theorem pv_tail (W : Nat) (la lb : List Nat) (k m : Nat) (h : ∀ j, k ≤ j → la.getD j 0 = lb.getD j 0) (hm : k ≤ m) : pv W la m + pv W lb k = pv W lb m + pv W la k := by
  induction m with
  | zero => have : k = 0 := by omega
            subst this; omega
  | succ m ih =>
    by_cases hk : k ≤ m
    · have := ih hk
      rw [pv_succ, pv_succ, h m hk]; omega
    · have : k = m + 1 := by omega
      subst this; omega
theorem pv_less (W : Nat) (hW : 0 < W) (la lb : List Nat) (hla : ∀ x ∈ la, x < W) (k m : Nat) (h : ∀ j, k < j → la.getD j 0 = lb.getD j 0) (hk : la.getD k 0 < lb.getD k 0) (hm : k < m) : pv W la m < pv W lb m := by
  have h1 := pv_lt W hW la hla k
  have h2 := pv_tail W la lb (k + 1) m h hm
  have h3 : (la.getD k 0 + 1) * W ^ k ≤ lb.getD k 0 * W ^ k := Nat.mul_le_mul_right _ hk
  rw [pv_succ, pv_succ] at h2
  rw [Nat.add_mul] at h3
  omega

/-- One step of adding. -/
theorem add_step (W p q r c s c' x y P : Nat) (h : r + c * P = p + q) (e : s + c' * W = x + y + c) : (r + s * P) + c' * (P * W) = (p + x * P) + (q + y * P) := by
  have : (s + c' * W) * P = (x + y + c) * P := by rw [e]
  grind
end Go.Proofs.YtdepkfdceidikaaGreatDoor
/-
  The walks' closed facts: make of words, the model's own entries for bits.Add64 and bits.Sub64.
-/
namespace Go.Proofs.YtdepkfdceidikaaGreatDoor
open Go.RowKit

theorem add64 (x y c : Int) (hx : 0 ≤ x) (hy : 0 ≤ y) (hc0 : 0 ≤ c) (hc : c ≤ 1) (w : World) : (callFunc 104 #[.int .u64 x, .int .u64 y, .int .u64 c]).run Tryz.prog w =
    .ok (.value (.tuple #[.int .u64 ((x + y + c) % 18446744073709551616), .int .u64 ((x + y + c) / 18446744073709551616)])) w := by
  rw [run_callFunc_extern Tryz.func104 (by kernel_rfl) (by kernel_rfl) (by kernel_rfl) (e := add64Entry) (by kernel_rfl), run_add64 x y c hx hy hc0 hc]
  rfl
theorem add64_0 (x y : Int) (hx : 0 ≤ x) (hy : 0 ≤ y) (w : World) : (callFunc 104 #[.int .u64 x, .int .u64 y, .int .u64 0]).run Tryz.prog w =
    .ok (.value (.tuple #[.int .u64 ((x + y) % 18446744073709551616), .int .u64 ((x + y) / 18446744073709551616)])) w := by
  simpa using add64 x y 0 hx hy (Int.le_refl 0) (by decide) w
/-- The borrow, under a name. -/
def bor (x y : Int) : Int := if x < y then 1 else 0
theorem bor_nonneg (x y : Int) : 0 ≤ bor x y := by unfold bor; split <;> decide
theorem bor_le (x y : Int) : bor x y ≤ 1 := by unfold bor; split <;> decide
theorem sub64 (x y b : Int) (hx : 0 ≤ x) (hy : 0 ≤ y) (hy' : y < 18446744073709551616) (hb0 : 0 ≤ b) (hb : b ≤ 1) (w : World) : (callFunc 105 #[.int .u64 x, .int .u64 y, .int .u64 b]).run Tryz.prog w =
    .ok (.value (.tuple #[.int .u64 ((x - y - b) % 18446744073709551616), .int .u64 (bor x (y + b))])) w := by
  obtain ⟨x, rfl⟩ := Int.eq_ofNat_of_zero_le hx
  obtain ⟨y, rfl⟩ := Int.eq_ofNat_of_zero_le hy
  obtain ⟨b, rfl⟩ := Int.eq_ofNat_of_zero_le hb0
  have e1 : (((x + 18446744073709551616 - y - b) % 18446744073709551616 : Nat) : Int) = ((x : Int) - y - b) % 18446744073709551616 := by omega
  have e2 : ((if x < y + b then 1 else 0 : Nat) : Int) = bor x (y + b) := by unfold bor; split <;> split <;> omega
  rw [← e1, ← e2]
  rw [run_callFunc_extern Tryz.func105 (by kernel_rfl) (by kernel_rfl) (by kernel_rfl) (e := sub64Entry) (by kernel_rfl), run_sub64 x y b (by omega)]
  rfl
theorem sub64_0 (x y : Int) (hx : 0 ≤ x) (hy : 0 ≤ y) (hy' : y < 18446744073709551616) (w : World) : (callFunc 105 #[.int .u64 x, .int .u64 y, .int .u64 0]).run Tryz.prog w =
    .ok (.value (.tuple #[.int .u64 ((x - y) % 18446744073709551616), .int .u64 (bor x y)])) w := by
  simpa using sub64 x y 0 hx hy hy' (Int.le_refl 0) (by decide) w

theorem u64_info : (Tryz.prog.info? 34).map (fun i => (i.zero, i.size, i.bytes)) = some (some (.int .u64 0), 1, 8) := by kernel_rfl
/-- n words that are 0. -/
def zeros (n : Nat) : Array Value := madeCells (Value.int .u64 0).cells (n * 1)
theorem zeros_eq (n : Nat) : zeros n = ((List.replicate n 0).map fun (x : Nat) => Value.int .u64 (x : Int)).toArray := by
  unfold zeros madeCells
  apply Array.ext
  · simp
  · intro i h1 h2
    simp [Value.cells, Nat.mod_one]
theorem make64 (n c : Nat) (hn : n ≤ c) (hc : c ≤ 1000000) (w : World) : (Instr.makeSlice 50 (.int .i64 (n : Int)) (.int .i64 (c : Int))).run Tryz.prog w =
    .ok (.slice (some ⟨w.heap.size, 0, none⟩) n c) (w.alloc (.cells (zeros c) 34)) := by
  obtain ⟨i, hi, hz, hs, hb⟩ := info_parts u64_info
  have hr := run_make (P := Tryz.prog) w 50 34 i _ Tryz.underlying50 hi hz .i64 .i64 n c (by omega) (by omega) (by rw [hb]; omega) (by omega)
  simp only [Int.toNat_natCast, hs] at hr
  exact hr
theorem make64I (n c : Nat) (hn : n ≤ c) (hc : c ≤ 1000000) (N C : Int) (e1 : N = (n : Int)) (e2 : C = (c : Int)) (w : World) : (Instr.makeSlice 50 (.int .i64 N) (.int .i64 C)).run Tryz.prog w =
    .ok (.slice (some ⟨w.heap.size, 0, none⟩) n c) (w.alloc (.cells (zeros c) 34)) := by subst e1 e2; exact make64 n c hn hc w
theorem blk_zeros (w : World) (n : Nat) : BlkW (w.alloc (.cells (zeros n) 34)) w.heap.size 34 (List.replicate n 0) := by
  refine ⟨?_, ?_⟩
  · rw [← zeros_eq]; exact heap_alloc_new w _
  · intro x hx; have := List.eq_of_mem_replicate hx; omega
theorem BlkW.setI {w : World} {b : Nat} {t : TypeId} {ws : List Nat} (h : BlkW w b t ws) (i : Nat) (x : Nat) (v : Int) (hx : x < 18446744073709551616) (hv : v = (x : Int)) :
    BlkW (w.setCell ⟨b, i, none⟩ (.int .u64 v)) b t (ws.set i x) := by subst hv; exact h.set i x hx
end Go.Proofs.YtdepkfdceidikaaGreatDoor
/-
  limb.wordAt, limb.Add, limb.Sub: what each call does.
-/
namespace Go.Proofs.YtdepkfdceidikaaGreatDoor
open Go.RowKit
set_option linter.unusedVariables false

theorem wordAt_c (A : Option Addr) (n c B : Nat) (l : List Nat) (k : Nat) (w : World) (h : Rd w B A n l) :
    Calls Tryz.prog 106 #[.slice A n c, .int .i64 k] w fun e w' => e = .returned (.int .u64 (at64 l k)) ∧ w = w' := by
  by_cases hk : k < n
  · obtain ⟨b, off, rfl, hb, hc⟩ := h.at_ hk
    go_enter Tryz.func106, Tryz.ntmps106
    go_wp2
    go_ret
    exact ⟨rfl, rfl⟩
  · have e := at64_out (l := l) (i := k) (by rw [h.len]; omega)
    rw [e]
    go_enter Tryz.func106, Tryz.ntmps106
    go_wp2
    go_ret
    exact ⟨rfl, rfl⟩

/-- The relation of Add's loop. -/
def AddRel (w : World) (b n : Nat) (la lb : List Nat) (wr : World) (k c : Nat) : Prop :=
  ∃ ws : List Nat, ws.length = n ∧ BlkW wr b 34 ws ∧ Below b w wr ∧ c ≤ 1 ∧ pv 18446744073709551616 ws k + c * 18446744073709551616 ^ k = pv 18446744073709551616 la k + pv 18446744073709551616 lb k

theorem AddRel.step {w wr : World} {b n k c : Nat} {la lb : List Nat} (ha : allLt la) (hb : allLt lb) (h : AddRel w b n la lb wr k c) (hk : k < n) :
    AddRel w b n la lb (wr.setCell ⟨b, k, none⟩ (.int .u64 ((at64 la k + at64 lb k + (c : Int)) % 18446744073709551616))) (k + 1) ((la.getD k 0 + lb.getD k 0 + c) / 18446744073709551616) := by
  obtain ⟨ws, hl, hB, hb', hc, he⟩ := h
  have h1 := getD_lt _ (by decide) la ha k
  have h2 := getD_lt _ (by decide) lb hb k
  refine ⟨ws.set k ((la.getD k 0 + lb.getD k 0 + c) % 18446744073709551616), by simp [hl], hB.setI k _ _ (Nat.mod_lt _ (by decide)) ?_, hb'.setCell (Nat.le_refl _) _, by omega, ?_⟩
  · unfold at64; omega
  · rw [pv_set_succ _ _ _ _ (by omega), pv_succ, pv_succ, Nat.pow_succ]
    exact add_step _ _ _ _ c _ _ _ _ _ he (by rw [Nat.mul_comm]; exact Nat.mod_add_div _ _)

end Go.Proofs.YtdepkfdceidikaaGreatDoor
/-
  limb.Sub, limb.Cmp: what each call does.
-/
namespace Go.Proofs.YtdepkfdceidikaaGreatDoor
open Go.RowKit
set_option linter.unusedVariables false

def borN (x y : Nat) : Nat := if x < y then 1 else 0
theorem bor_nat (x y : Nat) : bor (x : Int) (y : Int) = ((borN x y : Nat) : Int) := by unfold bor borN; split <;> split <;> omega
theorem borN_le (x y : Nat) : borN x y ≤ 1 := by unfold borN; split <;> omega
theorem sub_word (x y c : Nat) (hx : x < 18446744073709551616) (hy : y < 18446744073709551616) (hc : c ≤ 1) :
    (x + 18446744073709551616 - y - c) % 18446744073709551616 + y + c = x + borN x (y + c) * 18446744073709551616 := by
  unfold borN; split <;> omega
theorem sub_step (W p q r c s c' x y P : Nat) (h : r + q = p + c * P) (e : s + y + c = x + c' * W) : (r + s * P) + (q + y * P) = (p + x * P) + c' * (P * W) := by
  have : (s + y + c) * P = (x + c' * W) * P := by rw [e]
  grind

/-- The relation of Sub's loop. -/
def SubRel (w : World) (b n : Nat) (la lb : List Nat) (wr : World) (k c : Nat) : Prop :=
  ∃ ws : List Nat, ws.length = n ∧ BlkW wr b 34 ws ∧ Below b w wr ∧ c ≤ 1 ∧ pv 18446744073709551616 ws k + pv 18446744073709551616 lb k = pv 18446744073709551616 la k + c * 18446744073709551616 ^ k

theorem SubRel.step {w wr : World} {b n k c : Nat} {la lb : List Nat} (ha : allLt la) (hb : allLt lb) (h : SubRel w b n la lb wr k c) (hk : k < n) :
    SubRel w b n la lb (wr.setCell ⟨b, k, none⟩ (.int .u64 ((at64 la k - at64 lb k - (c : Int)) % 18446744073709551616))) (k + 1) (borN (la.getD k 0) (lb.getD k 0 + c)) := by
  obtain ⟨ws, hl, hB, hb', hc, he⟩ := h
  have h1 := getD_lt _ (by decide) la ha k
  have h2 := getD_lt _ (by decide) lb hb k
  refine ⟨ws.set k ((la.getD k 0 + 18446744073709551616 - lb.getD k 0 - c) % 18446744073709551616), by simp [hl], hB.setI k _ _ (Nat.mod_lt _ (by decide)) ?_, hb'.setCell (Nat.le_refl _) _, borN_le _ _, ?_⟩
  · unfold at64; omega
  · rw [pv_set_succ _ _ _ _ (by omega), pv_succ, pv_succ, Nat.pow_succ]
    exact sub_step _ _ _ _ c _ _ _ _ _ he (sub_word _ _ _ h1 h2 hc)

set_option maxHeartbeats 400000 in
theorem sub_c (A B : Option Addr) (na nb ca cb : Nat) (la lb : List Nat) (w : World) (ha : Rd w w.heap.size A na la) (hb : Rd w w.heap.size B nb lb) (hna : na ≤ 100000) (hnb : nb ≤ 100000) :
    Calls Tryz.prog 76 #[.slice A na ca, .slice B nb cb] w fun e w' => ∃ c, e = .returned (.tuple #[.slice (some ⟨w.heap.size, 0, none⟩) (max na nb) (max na nb), .int .u64 ((c : Nat) : Int)]) ∧ SubRel w w.heap.size (max na nb) la lb w' (max na nb) c := by
  obtain ⟨n, hn⟩ : ∃ n : Nat, n = max na nb := ⟨_, rfl⟩
  rw [← hn]
  have hmax : max (na : Int) (nb : Int) = (n : Int) := by omega
  have hn1 : n ≤ 100000 := by omega
  have HN := hid hn
  clear hn
  have hmk := make64 n n (Nat.le_refl _) (by omega)
  go_enter Tryz.func76, Tryz.ntmps76
  go_wp2
  clear hmk hmax
  go_loopw [7, 17] (fun c i wr => ∃ k q : Nat, k ≤ n ∧ i = .int .i64 k ∧ c = .int .u64 q ∧ SubRel w w.heap.size n la lb wr k q) (fun _ i _ => n - (intOf i).toNat)
  case atStart =>
    refine ⟨0, 0, Nat.zero_le _, rfl, rfl, List.replicate n 0, by simp, blk_zeros w n, (Below.refl _ _).alloc (Nat.le_refl _) _, by omega, by simp [pv]⟩
  case round =>
    obtain ⟨k, q, hk, rfl, rfl, hrel⟩ := hrel
    obtain ⟨ws, hl, hB, hbl, hq, he⟩ := id hrel
    by_cases hlt : k < n
    · have hcell := hB.cell (i := k) (by omega)
      have hfz := hB.frozen k
      have h1 := at64_nonneg la k
      have h2 := at64_nonneg lb k
      have h3 := at64_lt hb.lt k
      have hst := hrel.step ha.lt hb.lt hlt
      have ra := ha.below hbl (Nat.le_refl _)
      have rb := hb.below hbl (Nat.le_refl _)
      have q0 : (0 : Int) ≤ q := by omega
      have q1 : (q : Int) ≤ 1 := by omega
      have HL := hid hl
      have HE := hid he
      clear hl he
      go_wp2_with fail
      refine (wordAt_c A na ca _ la k _ ra).mono ?_
      rintro e w' ⟨rfl, rfl⟩
      go_wp2_with fail
      refine (wordAt_c B nb cb _ lb k _ rb).mono ?_
      rintro e w' ⟨rfl, rfl⟩
      go_wp2_with (simp only [sub64 _ _ _ h1 h2 h3 q0 q1])
      go_roundw
      case rel =>
        exact ⟨k + 1, _, by omega, by go_num, (by rw [← bor_nat]; unfold at64; go_num), hst⟩
      case measure => simp [intOf]; omega
    · have : k = n := by omega
      subst this
      go_wp2
      go_ret2
      exact ⟨q, rfl, hrel⟩

/-- -1, 0 or 1. -/
def cmpN (x y : Nat) : Int := if x < y then -1 else if y < x then 1 else 0
def cmpI (x y : Int) : Int := if x < y then -1 else if y < x then 1 else 0
theorem cmpI_nat (x y : Nat) : cmpI x y = cmpN x y := by unfold cmpI cmpN; split <;> split <;> (try split) <;> omega

theorem compare_c (x y : Int) (w : World) : Calls Tryz.prog 133 #[.int .u64 x, .int .u64 y] w fun e w' => e = .returned (.int .i64 (cmpI x y)) ∧ w = w' := by
  rcases Int.lt_trichotomy x y with h | h | h
  · have e : cmpI x y = -1 := by unfold cmpI; rw [if_pos h]
    rw [e]
    go_enter Tryz.func133, Tryz.ntmps133
    go_wp2
    go_ret
    exact ⟨rfl, rfl⟩
  · subst h
    have e : cmpI x x = 0 := by unfold cmpI; rw [if_neg (by omega), if_neg (by omega)]
    rw [e]
    go_enter Tryz.func133, Tryz.ntmps133
    go_wp2
    go_ret
    exact ⟨rfl, rfl⟩
  · have e : cmpI x y = 1 := by unfold cmpI; rw [if_neg (by omega), if_pos h]
    rw [e]
    have h' : ¬ x < y := by omega
    go_enter Tryz.func133, Tryz.ntmps133
    go_wp2
    go_ret
    exact ⟨rfl, rfl⟩

theorem cmpN_lt {x y : Nat} (h : x < y) : cmpN x y = -1 := by unfold cmpN; rw [if_pos h]
theorem cmpN_gt {x y : Nat} (h : y < x) : cmpN x y = 1 := by unfold cmpN; rw [if_neg (by omega), if_pos h]
theorem cmpN_eq (x : Nat) : cmpN x x = 0 := by unfold cmpN; rw [if_neg (by omega), if_neg (by omega)]
theorem cmp_words (la lb : List Nat) (ha : allLt la) (hb : allLt lb) (k n : Nat) (h : ∀ j, k < j → la.getD j 0 = lb.getD j 0) (hk : k < n) (hna : la.length ≤ n) (hnb : lb.length ≤ n)
    (hne : cmpN (la.getD k 0) (lb.getD k 0) ≠ 0) : cmpN (la.getD k 0) (lb.getD k 0) = cmpN (val 18446744073709551616 la) (val 18446744073709551616 lb) := by
  rw [← pv_out _ la n hna, ← pv_out _ lb n hnb]
  rcases Nat.lt_trichotomy (la.getD k 0) (lb.getD k 0) with h' | h' | h'
  · rw [cmpN_lt h', cmpN_lt (pv_less _ (by decide) la lb ha k n h h' hk)]
  · rw [h', cmpN_eq] at hne; exact absurd rfl hne
  · rw [cmpN_gt h', cmpN_gt (pv_less _ (by decide) lb la hb k n (fun j hj => (h j hj).symm) h' hk)]
theorem cmpN_zero {x y : Nat} (h : cmpN x y = 0) : x = y := by
  rcases Nat.lt_trichotomy x y with h' | h' | h'
  · rw [cmpN_lt h'] at h; omega
  · exact h'
  · rw [cmpN_gt h'] at h; omega

set_option maxHeartbeats 400000 in
theorem cmp_c (A B : Option Addr) (na nb ca cb : Nat) (la lb : List Nat) (w : World) (C : Nat) (ha : Rd w C A na la) (hb : Rd w C B nb lb) (hna : na ≤ 100000) (hnb : nb ≤ 100000) :
    Calls Tryz.prog 119 #[.slice A na ca, .slice B nb cb] w fun e w' => e = .returned (.int .i64 (cmpN (val 18446744073709551616 la) (val 18446744073709551616 lb))) ∧ w = w' := by
  obtain ⟨n, hn⟩ : ∃ n : Nat, n = max na nb := ⟨_, rfl⟩
  have hmax : max (na : Int) (nb : Int) = (n : Int) := by omega
  have hn1 : n ≤ 100000 := by omega
  have hla : la.length ≤ n := by rw [ha.len]; omega
  have hlb : lb.length ≤ n := by rw [hb.len]; omega
  clear hn
  go_enter Tryz.func119, Tryz.ntmps119
  go_wp2
  clear hmax
  go_loop [5] (fun i => ∃ k : Nat, k ≤ n ∧ i = .int .i64 ((k : Int) - 1) ∧ Hid (∀ j, k ≤ j → la.getD j 0 = lb.getD j 0)) (fun i => (intOf i + 1).toNat)
  case atStart =>
    refine ⟨n, Nat.le_refl _, rfl, fun j hj => ?_⟩
    rw [getD_out la j (by omega), getD_out lb j (by omega)]
  case round =>
    obtain ⟨k, hk, rfl, H⟩ := hrel
    rcases k with _ | k
    · have e : la.getD 0 0 = la.getD 0 0 := rfl
      have hv : cmpN (val 18446744073709551616 la) (val 18446744073709551616 lb) = 0 := by
        rw [← pv_out _ la n hla, ← pv_out _ lb n hlb, pv_congr _ la lb n (fun i _ => H.out i (Nat.zero_le _)), cmpN_eq]
      have HV := hid hv
      clear hv e
      go_wp2
      go_ret
      exact ⟨ret_int HV.out.symm, rfl⟩
    · have e1 : (((k + 1 : Nat) : Int) - 1) = (k : Int) := by omega
      rw [e1]
      by_cases hne : cmpN (la.getD k 0) (lb.getD k 0) = 0
      · have hz : (cmpI (at64 la k) (at64 lb k) != 0) = false := by unfold at64; rw [cmpI_nat, hne]; rfl
        have H2 : Hid (∀ j, k ≤ j → la.getD j 0 = lb.getD j 0) := by
          intro j hj
          by_cases hj' : j = k
          · subst hj'; exact cmpN_zero hne
          · exact H.out j (by omega)
        have HNE := hid hne
        clear hne
        go_wp2_with fail
        refine (wordAt_c A na ca _ la k _ ha).mono ?_
        rintro e w' ⟨rfl, rfl⟩
        go_wp2_with fail
        refine (wordAt_c B nb cb _ lb k _ hb).mono ?_
        rintro e w' ⟨rfl, rfl⟩
        go_wp2_with fail
        refine (compare_c _ _ _).mono ?_
        rintro e w' ⟨rfl, rfl⟩
        go_wp2
        go_round
        case rel => exact ⟨k, by omega, rfl, H2⟩
        case measure => simp [intOf]
      · have hz : (cmpI (at64 la k) (at64 lb k) != 0) = true := by unfold at64; rw [cmpI_nat]; simpa using hne
        have HV := hid (cmp_words la lb ha.lt hb.lt k n (fun j hj => H.out j hj) (by omega) hla hlb hne)
        have HI : Hid (cmpI (at64 la k) (at64 lb k) = cmpN (la.getD k 0) (lb.getD k 0)) := by unfold at64; exact cmpI_nat _ _
        clear hne
        go_wp2_with fail
        refine (wordAt_c A na ca _ la k _ ha).mono ?_
        rintro e w' ⟨rfl, rfl⟩
        go_wp2_with fail
        refine (wordAt_c B nb cb _ lb k _ hb).mono ?_
        rintro e w' ⟨rfl, rfl⟩
        go_wp2_with fail
        refine (compare_c _ _ _).mono ?_
        rintro e w' ⟨rfl, rfl⟩
        go_wp2
        go_ret
        exact ⟨ret_int (HI.out.trans HV.out), rfl⟩
end Go.Proofs.YtdepkfdceidikaaGreatDoor
/-
  bits.Mul64, limb.addMultiple, limb.subMultiple: what each call does.
-/
namespace Go.Proofs.YtdepkfdceidikaaGreatDoor
open Go.RowKit
set_option linter.unusedVariables false

/-- The high and the low word of a product. -/
def mulHi (x y : Int) : Int := x * y / 18446744073709551616
def mulLo (x y : Int) : Int := x * y % 18446744073709551616

set_option maxHeartbeats 1000000 in
theorem mul64_n (x y : Nat) (hx : x < 18446744073709551616) (hy : y < 18446744073709551616) (w : World) :
    Calls Tryz.prog 120 #[.int .u64 x, .int .u64 y] w fun e w' => e = .returned (.tuple #[.int .u64 ((x * y / 18446744073709551616 : Nat) : Int), .int .u64 ((x * y % 18446744073709551616 : Nat) : Int)]) ∧ w = w' := by
  obtain ⟨bd, bt, bw, hhi⟩ := Lib.mul64_hi x y hx hy
  have ba := Lib.half_mul_le (a := x / 4294967296) (b := y / 4294967296) (by omega) (by omega)
  have bb := Lib.half_mul_le (a := x / 4294967296) (b := y % 4294967296) (by omega) (by omega)
  have bc := Lib.half_mul_le (a := x % 4294967296) (b := y / 4294967296) (by omega) (by omega)
  have ba' : x / 4294967296 * (y / 4294967296) < 18446744073709551616 := by omega
  have bb' : x / 4294967296 * (y % 4294967296) < 18446744073709551616 := by omega
  have bc' : x % 4294967296 * (y / 4294967296) < 18446744073709551616 := by omega
  have bh1 : x / 4294967296 * (y / 4294967296) + (x / 4294967296 * (y % 4294967296) + x % 4294967296 * (y % 4294967296) / 4294967296) / 4294967296 < 18446744073709551616 := by omega
  have bh : x / 4294967296 * (y / 4294967296) + (x / 4294967296 * (y % 4294967296) + x % 4294967296 * (y % 4294967296) / 4294967296) / 4294967296 + ((x / 4294967296 * (y % 4294967296) + x % 4294967296 * (y % 4294967296) / 4294967296) % 4294967296 + x % 4294967296 * (y / 4294967296)) / 4294967296 < 18446744073709551616 := by omega
  go_enter Tryz.func120, Tryz.ntmps120
  go_wp2
  simp only [Mul64.maskN x hx, Mul64.maskN y hy, Mul64.divN, Mul64.mulN, Mul64.addN, Mul64.wrapN _ bd, Mul64.wrapN _ bb', Mul64.wrapN _ bt, Mul64.maskN _ bt, Mul64.wrapN _ bc', Mul64.wrapN _ bw, Mul64.wrapN _ ba', Mul64.wrapN _ bh1, Mul64.wrapN _ bh, Mul64.wrapM (x * y)]
  rw [hhi]
  go_ret2
  exact ⟨rfl, rfl⟩
theorem mul64_c (x y : Int) (hx0 : 0 ≤ x) (hx : x < 18446744073709551616) (hy0 : 0 ≤ y) (hy : y < 18446744073709551616) (w : World) :
    Calls Tryz.prog 120 #[.int .u64 x, .int .u64 y] w fun e w' => e = .returned (.tuple #[.int .u64 (mulHi x y), .int .u64 (mulLo x y)]) ∧ w = w' := by
  obtain ⟨x, rfl⟩ := Int.eq_ofNat_of_zero_le hx0
  obtain ⟨y, rfl⟩ := Int.eq_ofNat_of_zero_le hy0
  refine (mul64_n x y (by omega) (by omega) w).mono ?_
  rintro e w' ⟨rfl, rfl⟩
  exact ⟨rfl, rfl⟩

theorem mul_bound (x y : Nat) (hx : x < 18446744073709551616) (hy : y < 18446744073709551616) : x * y ≤ 340282366920938463426481119284349108225 :=
  Nat.mul_le_mul (Nat.le_of_lt_succ hx) (Nat.le_of_lt_succ hy)
theorem mulHi_bd (x y : Int) (hx0 : 0 ≤ x) (hx : x < 18446744073709551616) (hy0 : 0 ≤ y) (hy : y < 18446744073709551616) : 0 ≤ mulHi x y ∧ mulHi x y ≤ 18446744073709551614 := by
  obtain ⟨x, rfl⟩ := Int.eq_ofNat_of_zero_le hx0
  obtain ⟨y, rfl⟩ := Int.eq_ofNat_of_zero_le hy0
  have := mul_bound x y (by omega) (by omega)
  unfold mulHi
  rw [← Int.natCast_mul]
  omega
theorem mulLo_bd (x y : Int) : 0 ≤ mulLo x y ∧ mulLo x y < 18446744073709551616 := by unfold mulLo; omega

theorem getD_drop (l : List Nat) (o k : Nat) : (l.drop o).getD k 0 = l.getD (o + k) 0 := by simp [List.getD_eq_getElem?_getD]
theorem pv_drop_set (W : Nat) (ws : List Nat) (o k s : Nat) (h : o + k < ws.length) : pv W ((ws.set (o + k) s).drop o) (k + 1) = pv W (ws.drop o) k + s * W ^ k := by
  rw [pv_succ, getD_drop, getD_set_eq _ _ _ h]
  congr 1
  exact pv_congr W _ _ k fun i hi => by rw [getD_drop, getD_drop, getD_set_ne _ _ _ _ (by omega)]

/-- The relation of addMultiple's loop. -/
def AMRel (w : World) (b o n : Nat) (ws0 lb : List Nat) (f : Nat) (wr : World) (k c : Nat) : Prop :=
  ∃ ws : List Nat, ws.length = ws0.length ∧ BlkW wr b 34 ws ∧ Below b w wr ∧ (∀ j, (j < o ∨ o + k ≤ j) → ws.getD j 0 = ws0.getD j 0) ∧ c < 18446744073709551616 ∧
    pv 18446744073709551616 (ws.drop o) k + c * 18446744073709551616 ^ k = pv 18446744073709551616 (ws0.drop o) k + f * pv 18446744073709551616 lb k

theorem am_step (W p q r c s c' x y f P : Nat) (h : r + c * P = p + f * q) (e : s + c' * W = x + y * f + c) : (r + s * P) + c' * (P * W) = (p + x * P) + f * (q + y * P) := by
  have : (s + c' * W) * P = (x + y * f + c) * P := by rw [e]
  grind

theorem am_word (o p c : Nat) (ho : o < 18446744073709551616) (hp : p ≤ 340282366920938463426481119284349108225) (hc : c < 18446744073709551616) :
    p / 18446744073709551616 + (p % 18446744073709551616 + c) / 18446744073709551616 + (o + (p % 18446744073709551616 + c) % 18446744073709551616) / 18446744073709551616 < 18446744073709551616 ∧
    (o + (p % 18446744073709551616 + c) % 18446744073709551616) % 18446744073709551616 + (p / 18446744073709551616 + (p % 18446744073709551616 + c) / 18446744073709551616 + (o + (p % 18446744073709551616 + c) % 18446744073709551616) / 18446744073709551616) * 18446744073709551616 = o + p + c := by
  omega

/-- The word that is stored, and the carry that goes on. -/
def amS (o x f c : Int) : Int := (o + (mulLo x f + c)) % 18446744073709551616
def amC (o x f c : Int) : Int := mulHi x f + (mulLo x f + c) / 18446744073709551616 + (o + (mulLo x f + c) % 18446744073709551616) / 18446744073709551616

theorem AMRel.step {w wr : World} {b o n k c f : Nat} {ws0 lb ws : List Nat} (hb : allLt lb) (h0 : allLt ws0) (hf : f < 18446744073709551616) (h : AMRel w b o n ws0 lb f wr k c) (hk : o + k < ws0.length) :
    ∃ c' : Nat, (c' : Int) = amC (at64 ws0 (o + k)) (at64 lb k) f c ∧ AMRel w b o n ws0 lb f (wr.setCell ⟨b, o + k, none⟩ (.int .u64 (amS (at64 ws0 (o + k)) (at64 lb k) f c))) (k + 1) c' := by
  obtain ⟨ws, hl, hB, hb', hj, hc, he⟩ := h
  have h1 := getD_lt _ (by decide) ws0 h0 (o + k)
  have h2 := getD_lt _ (by decide) lb hb k
  have h3 := mul_bound _ _ h2 hf
  obtain ⟨g1, g2⟩ := am_word _ _ c h1 h3 hc
  refine ⟨_, ?_, ws.set (o + k) ((ws0.getD (o + k) 0 + (lb.getD k 0 * f % 18446744073709551616 + c) % 18446744073709551616) % 18446744073709551616), by simp [hl], hB.setI _ _ _ (Nat.mod_lt _ (by decide)) ?_, hb'.setCell (Nat.le_refl _) _, ?_, g1, ?_⟩
  · unfold amC mulHi mulLo at64
    rw [← Int.natCast_mul]; omega
  · unfold amS mulLo at64
    rw [← Int.natCast_mul]; omega
  · intro j hjj
    rw [getD_set_ne _ _ _ _ (by omega)]
    exact hj j (by omega)
  · rw [pv_drop_set _ _ _ _ _ (by omega), pv_succ, pv_succ, Nat.pow_succ, getD_drop]
    exact am_step _ _ _ _ c _ _ _ _ _ _ he g2

set_option maxHeartbeats 1000000 in
theorem addMultiple_c (A Bb : Option Addr) (b o n ca cb : Nat) (ws0 lb : List Nat) (f : Nat) (w : World) (hA : 0 < n → A = some ⟨b, o, none⟩) (hw : BlkW w b 34 ws0) (ho : o + n ≤ ws0.length)
    (hb : Rd w b Bb n lb) (hf : f < 18446744073709551616) (hn : n ≤ 100000) :
    Calls Tryz.prog 123 #[.slice A n ca, .slice Bb n cb, .int .u64 f] w fun e w' => ∃ c : Nat, e = .returned (.int .u64 c) ∧ AMRel w b o n ws0 lb f w' n c := by
  have hf0 : (0 : Int) ≤ f := by omega
  have hf1 : (f : Int) < 18446744073709551616 := by omega
  go_enter Tryz.func123, Tryz.ntmps123
  go_wp2
  go_loopw [7, 15] (fun c i wr => ∃ k q : Nat, k ≤ n ∧ i = .int .i64 k ∧ c = .int .u64 q ∧ AMRel w b o n ws0 lb f wr k q) (fun _ i _ => n - (intOf i).toNat)
  case atStart =>
    exact ⟨0, 0, Nat.zero_le _, rfl, rfl, ws0, rfl, hw, Below.refl _ _, fun _ _ => rfl, by omega, by simp [pv]⟩
  case round =>
    obtain ⟨k, q, hk, rfl, rfl, hrel⟩ := hrel
    by_cases hlt : k < n
    · have hst := AMRel.step (n := n) (ws := ws0) hb.lt hw.lt hf hrel (by omega)
      obtain ⟨ws, hl, hB, hbl, hj, hq, he⟩ := hrel
      have rb := hb.below hbl (Nat.le_refl _)
      obtain ⟨bb, ob, rfl, hbb, hcb⟩ := rb.at_ hlt
      obtain rfl := hA (by omega)
      have hcell := hB.cell (i := o + k) (by omega)
      have hfz := hB.frozen (o + k)
      have hgd : at64 ws (o + k) = at64 ws0 (o + k) := by unfold at64; rw [hj _ (Or.inr (Nat.le_refl _))]
      rw [hgd] at hcell
      have h1 := at64_nonneg lb k
      have h1' := at64_lt hb.lt k
      have h2 := at64_nonneg ws0 (o + k)
      have h2' := at64_lt hw.lt (o + k)
      have q0 : (0 : Int) ≤ q := by omega
      have q1 : (q : Int) < 18446744073709551616 := by omega
      obtain ⟨l0, l1⟩ := mulLo_bd (at64 lb k) f
      obtain ⟨m0, m1⟩ := mulHi_bd (at64 lb k) f h1 h1' hf0 hf1
      clear hl hj he hgd
      go_wp2_with fail
      refine (mul64_c _ _ h1 h1' hf0 hf1 _).mono ?_
      rintro e w' ⟨rfl, rfl⟩
      go_wp2_with (first | simp only [add64_0 _ _ l0 q0] | simp only [add64_0 _ _ h2 (show (0:Int) ≤ (mulLo (at64 lb k) f + q) % 18446744073709551616 by omega)])
      go_roundw
      case rel =>
        obtain ⟨c', e', r'⟩ := hst
        refine ⟨k + 1, c', by omega, by go_num, ?_, r'⟩
        have : c' < 18446744073709551616 := (by obtain ⟨_, _, _, _, _, h, _⟩ := r'; exact h)
        rw [IntKind.wrap_u64, e']
        have e2 : amC (at64 ws0 (o + k)) (at64 lb k) f q % 18446744073709551616 = amC (at64 ws0 (o + k)) (at64 lb k) f q := by omega
        rw [← e2]; rfl
      case measure => simp [intOf]; omega
    · have : k = n := by omega
      subst this
      go_wp2
      go_ret
      exact ⟨q, rfl, hrel⟩
end Go.Proofs.YtdepkfdceidikaaGreatDoor
