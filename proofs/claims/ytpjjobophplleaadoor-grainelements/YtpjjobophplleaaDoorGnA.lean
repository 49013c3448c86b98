/-
  A register of 80 bits as 80 bytes that are 0 or 1 (grain's), and as 80 bools (avouchref08's): in memory and as a value. Helpers for the walks of stage 8.
-/
import Derived.Test.YtpjjobophplleaaDoorNumP
import Derived.Test.YtpjjobophplleaaDoorLfC
namespace Go.Proofs.YtpjjobophplleaaDoor
open Go.RowKit
set_option linter.unusedVariables false

/-- The bits of s, as numbers. -/
def g8 (s : Nat) : List Nat := (List.range 80).map fun i => (s.testBit i).toNat
theorem g8_len (s : Nat) : (g8 s).length = 80 := by unfold g8; rw [List.length_map, List.length_range]
theorem g8_getD (s : Nat) {i : Nat} (h : i < 80) : (g8 s).getD i 0 = (s.testBit i).toNat := by
  unfold g8
  rw [List.getD_eq_getElem?_getD, List.getElem?_map, List.getElem?_range h]
  rfl
theorem g8_lt (s : Nat) : allLt8 (g8 s) := by
  intro x hx
  unfold g8 at hx
  obtain ⟨i, _, rfl⟩ := List.mem_map.1 hx
  have := bool_le (s.testBit i)
  omega
theorem c8_leng (s : Nat) : (cells8 (g8 s)).length = 80 := by unfold cells8; rw [List.length_map, g8_len]
/-- Block b is just grain's register s (of any type). -/
abbrev G8 (w : World) (b : Nat) (t : TypeId) (s : Nat) : Prop := BlkV w b t (cells8 (g8 s))
theorem cells8_at {l : List Nat} {i : Nat} (h : i < l.length) : (cells8 l)[i]? = some (.int .u8 (at64 l i)) := by
  simp [cells8, at64, List.getElem?_eq_getElem h, List.getD_eq_getElem?_getD]
theorem BlkV.cell8 {w : World} {b : Nat} {t : TypeId} {l : List Nat} (h : BlkV w b t (cells8 l)) {i : Nat} (hi : i < l.length) : w.cell? ⟨b, i, none⟩ = some (.int .u8 (at64 l i)) := by
  have hl : i < (cells8 l).length := by unfold cells8; rw [List.length_map]; exact hi
  rw [BlkV.cell h hl, ← List.getElem?_eq_getElem hl, cells8_at hi]
theorem G8.bit {w : World} {b s : Nat} {t : TypeId} (h : G8 w b t s) {i : Nat} (hi : i < 80) : w.cell? ⟨b, i, none⟩ = some (.int .u8 ((s.testBit i).toNat : Int)) := by
  rw [BlkV.cell8 h (by rw [g8_len]; exact hi)]
  unfold at64
  rw [g8_getD s hi]
theorem cells8_set (l : List Nat) (i x : Nat) : (cells8 l).set i (.int .u8 (x : Int)) = cells8 (l.set i x) := by unfold cells8; rw [List.map_set]
/-- A turn. -/
theorem g8_turn {s : Nat} (h : s < g80) : (splice (g8 s) 0 ((g8 s).drop 1)).set 79 (gtap s).toNat = g8 (gT s) := by
  have hl : (splice (g8 s) 0 ((g8 s).drop 1)).length = 80 := by
    unfold splice
    simp only [List.length_append, List.length_take, List.length_drop, g8_len]
    omega
  apply List.ext_getElem?
  intro i
  rcases Nat.lt_or_ge i 80 with hi | hi
  · have e2 : (g8 (gT s))[i]? = some ((gT s).testBit i).toNat := by
      unfold g8
      rw [List.getElem?_map, List.getElem?_range hi]
      rfl
    rw [e2, gT_bit h]
    by_cases c : i = 79
    · subst c
      rw [List.getElem?_set_self (by rw [hl]; decide), if_neg (by decide)]
      cases gtap s <;> rfl
    · rw [List.getElem?_set_ne (by omega), if_pos (by omega)]
      unfold splice
      rw [List.take_zero, List.nil_append, List.getElem?_append_left (by rw [List.length_drop, g8_len]; omega), List.getElem?_drop, Nat.add_comm 1 i]
      unfold g8
      rw [List.getElem?_map, List.getElem?_range (show i + 1 < 80 by omega)]
      rfl
  · rw [List.getElem?_eq_none (by rw [List.length_set, hl]; exact hi), List.getElem?_eq_none (by rw [g8_len]; exact hi)]
theorem cells8_splice (s : Nat) : splice (cells8 (g8 s)) 0 (cells8 ((g8 s).drop 1)) = cells8 (splice (g8 s) 0 ((g8 s).drop 1)) := by
  unfold splice cells8
  rw [List.length_map]
  simp only [List.map_append, List.map_drop, List.take_zero, List.nil_append]
/-- The taps, as the walk writes them. -/
theorem bits_u8 (a b : Bool) : bits .xor .u8 ((a.toNat : Nat) : Int) ((b.toNat : Nat) : Int) = (((a ^^ b).toNat : Nat) : Int) := by cases a <;> cases b <;> decide
theorem tap_u8 (s : Nat) : bits .xor .u8 (bits .xor .u8 (bits .xor .u8 (bits .xor .u8 (bits .xor .u8 ((s.testBit 62).toNat : Int) ((s.testBit 51).toNat : Int)) ((s.testBit 38).toNat : Int)) ((s.testBit 23).toNat : Int)) ((s.testBit 13).toNat : Int)) ((s.testBit 0).toNat : Int) = ((gtap s).toNat : Int) := by
  rw [bits_u8, bits_u8, bits_u8, bits_u8, bits_u8]
  unfold gtap
  cases s.testBit 62 <;> cases s.testBit 51 <;> cases s.testBit 38 <;> cases s.testBit 23 <;> cases s.testBit 13 <;> cases s.testBit 0 <;> rfl

/-- The register of the document's answer: a value, a block. -/
def rg (s : Nat) : Value := .agg (bcell 80 s.testBit).toArray
abbrev RG (w : World) (b s : Nat) : Prop := BF w b 29 80 s.testBit
def oR (s : Nat) : Obj := .cells (bcell 80 s.testBit).toArray 29
theorem rg_len (s : Nat) : (bcell 80 s.testBit).length = 80 := bcell_len 80 _
theorem oR_new (w : World) (s : Nat) : RG (w.alloc (oR s)) w.heap.size s := BlkV.new w _ _
theorem rg_zero_f : bcell 80 (Nat.testBit 0) = bcell 80 fun _ => false := bcell_eq fun k _ => Nat.zero_testBit k
theorem zeroR (v : World) : (zeroValue 29).run Tryd.prog v = .ok (.agg (bcell 80 (Nat.testBit 0)).toArray) v := by
  rw [rg_zero_f]
  kernel_rfl
theorem sizeR : (Tryd.prog.info? 29).map (·.size) = some 80 := by kernel_rfl
theorem sizeR_s (s : Nat) : (Tryd.prog.info? 29).map (·.size) = some (bcell 80 s.testBit).length := sizeR.trans (congrArg some (rg_len s).symm)
theorem RG.result {fn : Func} {p q : Tmp} {w : World} {tmps : Array Value} {b s : Nat} {u : Value} (hr : Hid (RG w b s)) (h : fn.results = #[.cell p 29, .tmp q]) (hp : tmps.getD p undef = .pointer (some ⟨b, 0, none⟩)) (hq : tmps.getD q undef = u) :
    (results fn tmps).run Tryd.prog w = .ok (.tuple #[rg s, u]) w :=
  results_cell_tmp0 h ⟨b, 0, none⟩ _ u hp (run_loadVar_mid _ b 0 29 (bcell 80 s.testBit) _ hr.out.range Tryd.underlying29 rfl (sizeR_s s)) hq
theorem oR_store {P : Program} {w : World} {b s : Nat} (x : Nat) (h : RG w b s) : (storeCells ⟨b, 0, none⟩ (bcell 80 x.testBit)).run P w = .ok () (w.setCells b 0 (bcell 80 x.testBit)) := storeF x.testBit h
theorem RG.put {w : World} {b s : Nat} (x : Nat) (h : RG w b s) : RG (w.setCells b 0 (bcell 80 x.testBit)) b x := BF.over x.testBit h
end Go.Proofs.YtpjjobophplleaaDoor
