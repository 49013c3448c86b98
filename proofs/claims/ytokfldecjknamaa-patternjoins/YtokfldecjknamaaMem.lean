/-
  Words for memory: a slice of words that is read (Rd), a block of words that is known whole (BlkW). Helpers for the walks; nothing of the program.
-/
import Derived.WalkKit
import Derived.WalkSpells
import Derived.WalkLawsBesides
namespace Go.Proofs.Ytokfldecjknamaa
open Go.RowKit

/-- A fact kept from the walk. -/
theorem hid {p : Prop} (h : p) : Hid p := h

theorem ret_int {k : IntKind} {a b : Int} (h : a = b) : Ending.returned (.int k a) = .returned (.int k b) := by rw [h]
theorem ret_bool {a b : Bool} (h : a = b) : Ending.returned (.bool a) = .returned (.bool b) := by rw [h]

/-- The i-th word of a list, as the walk writes it. -/
def at64 (l : List Nat) (i : Nat) : Int := ((l.getD i 0 : Nat) : Int)

def allLt (l : List Nat) : Prop := ∀ x ∈ l, x < 18446744073709551616

theorem at64_nonneg (l : List Nat) (i : Nat) : 0 ≤ at64 l i := by unfold at64; omega
theorem at64_lt {l : List Nat} (h : allLt l) (i : Nat) : at64 l i < 18446744073709551616 := by
  unfold at64
  by_cases hi : i < l.length
  · have := h l[i] (List.getElem_mem hi)
    rw [List.getD_eq_getElem?_getD, List.getElem?_eq_getElem hi]
    simp only [Option.getD_some]; omega
  · rw [List.getD_eq_getElem?_getD, List.getElem?_eq_none (by omega)]
    simp
theorem at64_out {l : List Nat} {i : Nat} (h : l.length ≤ i) : at64 l i = 0 := by
  unfold at64; rw [List.getD_eq_getElem?_getD, List.getElem?_eq_none h]; rfl

/-- The slice of n words at A reads as l, and lies below block B (nil and empty ones let in). -/
structure Rd (w : World) (B : Nat) (A : Option Addr) (n : Nat) (l : List Nat) : Prop where
  len : l.length = n
  lt : allLt l
  cells : 0 < n → ∃ b off, A = some ⟨b, off, none⟩ ∧ b < B ∧ ∀ i, i < n → w.cell? ⟨b, off + i, none⟩ = some (.int .u64 (at64 l i))

theorem Rd.keep {w w' : World} {B n : Nat} {A : Option Addr} {l : List Nat} (h : Rd w B A n l) (hk : ∀ p : Addr, p.block < B → w'.cell? p = w.cell? p) : Rd w' B A n l :=
  ⟨h.len, h.lt, fun hn => by
    obtain ⟨b, off, e, hb, hc⟩ := h.cells hn
    exact ⟨b, off, e, hb, fun i hi => (hk ⟨b, off + i, none⟩ hb).trans (hc i hi)⟩⟩
theorem Rd.more {w : World} {B B' n : Nat} {A : Option Addr} {l : List Nat} (h : Rd w B A n l) (hB : B ≤ B') : Rd w B' A n l :=
  ⟨h.len, h.lt, fun hn => by
    obtain ⟨b, off, e, hb, hc⟩ := h.cells hn
    exact ⟨b, off, e, by omega, hc⟩⟩
theorem Rd.below {w w' : World} {B B' n : Nat} {A : Option Addr} {l : List Nat} (h : Rd w B A n l) (hb : Below B' w w') (hB : B ≤ B') : Rd w' B A n l :=
  h.keep fun _ hp => hb.cell (Nat.lt_of_lt_of_le hp hB)
theorem Rd.up {w w' : World} {B n : Nat} {A : Option Addr} {l : List Nat} (h : Rd w B A n l) (hb : Below w.heap.size w w') (hB : B ≤ w.heap.size) : Rd w' w'.heap.size A n l :=
  (h.below hb hB).more (Nat.le_trans hB hb.size)
theorem Rd.nil (w : World) (B : Nat) (A : Option Addr) : Rd w B A 0 [] := ⟨rfl, by intro x hx; simp at hx, fun h => absurd h (by omega)⟩
theorem Rd.at_ {w : World} {B n : Nat} {A : Option Addr} {l : List Nat} (h : Rd w B A n l) {k : Nat} (hk : k < n) :
    ∃ b off, A = some ⟨b, off, none⟩ ∧ b < B ∧ w.cell? ⟨b, off + k, none⟩ = some (.int .u64 (at64 l k)) := by
  obtain ⟨b, off, e, hb, hc⟩ := h.cells (by omega)
  exact ⟨b, off, e, hb, hc k hk⟩

/-- Block b is just the words ws (of element type t), none frozen. -/
structure BlkW (w : World) (b : Nat) (t : TypeId) (ws : List Nat) : Prop where
  heap : w.heap[b]? = some (.cells (ws.map fun (x : Nat) => Value.int .u64 (x : Int)).toArray t (0, 0))
  lt : allLt ws

theorem BlkW.size {w : World} {b : Nat} {t : TypeId} {ws : List Nat} (h : BlkW w b t ws) : b < w.heap.size := by
  rcases Nat.lt_or_ge b w.heap.size with hlt | hge
  · exact hlt
  · have := h.heap; rw [Array.getElem?_eq_none hge] at this; cases this
theorem BlkW.cell {w : World} {b : Nat} {t : TypeId} {ws : List Nat} (h : BlkW w b t ws) {i : Nat} (hi : i < ws.length) : w.cell? ⟨b, i, none⟩ = some (.int .u64 (at64 ws i)) := by
  rw [cell_of_row w b i _ t (0, 0) h.heap]
  simp [at64, List.getElem?_eq_getElem hi, List.getD_eq_getElem?_getD]
theorem BlkW.frozen {w : World} {b : Nat} {t : TypeId} {ws : List Nat} (h : BlkW w b t ws) (i : Nat) : w.frozen? ⟨b, i, none⟩ = false := by
  simp [World.frozen?, h.heap]
theorem BlkW.below {w w' : World} {b B : Nat} {t : TypeId} {ws : List Nat} (h : BlkW w b t ws) (hb : Below B w w') (hB : b < B) : BlkW w' b t ws :=
  ⟨(hb.block b hB).trans h.heap, h.lt⟩
theorem BlkW.set {w : World} {b : Nat} {t : TypeId} {ws : List Nat} (h : BlkW w b t ws) (i : Nat) (x : Nat) (hx : x < 18446744073709551616) :
    BlkW (w.setCell ⟨b, i, none⟩ (.int .u64 (x : Int))) b t (ws.set i x) := by
  refine ⟨?_, ?_⟩
  · simp [World.setCell, Array.getElem?_modify, h.heap, List.map_set]
  · intro y hy
    rcases List.mem_or_eq_of_mem_set hy with h' | h'
    · exact h.lt y h'
    · subst h'; exact hx
/-- A piece of a block, read. -/
theorem BlkW.rd {w : World} {b : Nat} {t : TypeId} {ws : List Nat} (h : BlkW w b t ws) {off n B : Nat} (hn : off + n ≤ ws.length) (hB : b < B) : Rd w B (some ⟨b, off, none⟩) n ((ws.drop off).take n) := by
  refine ⟨by simp; omega, fun x hx => h.lt x (List.mem_of_mem_drop (List.mem_of_mem_take hx)), fun _ => ⟨b, off, rfl, hB, fun i hi => ?_⟩⟩
  rw [h.cell (by omega)]
  simp [at64, List.getD_eq_getElem?_getD, hi]
theorem below_drewN {B : Nat} {a w : World} (h : Below B a w) (n : Nat) : Below B a (w.drewN n) := ⟨h.os, h.tape, h.output, h.size, h.block⟩
theorem bchain {a b c : World} (h : Below a.heap.size a b) (k : Below b.heap.size b c) : Below a.heap.size a c := h.trans (k.mono h.size)
/-- What is wanted goes on. -/
theorem ready_go {c : Bool} {A B : Prop} (h : c = true) (a : A) : if c = true then A else B := by
  rw [if_pos h]
  exact a
end Go.Proofs.Ytokfldecjknamaa
