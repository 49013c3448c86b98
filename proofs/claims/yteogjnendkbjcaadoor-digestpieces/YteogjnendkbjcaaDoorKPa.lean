/-
  A state as a value (st); keccak.lane, bits.RotateLeft64: what each call does.
-/
import Derived.Test.YteogjnendkbjcaaDoorAgg
import Derived.Test.YteogjnendkbjcaaDoorBytesB
import Derived.Test.YteogjnendkbjcaaDoorKecF
import Derived.Laws.Bits64
import Derived.Laws.Bits64b
import Derived.StillTailTactics
namespace Go.Proofs.YteogjnendkbjcaaDoor
open Go.RowKit
set_option linter.unusedVariables false

/-- 25 lanes as a value. -/
def st (l : List Nat) : Value := .agg (cellsOf64 l).toArray

theorem lane_c (x y : Nat) (hx : x < 100) (hy : y < 100) (w : World) :
    Calls Tryd.prog 40 #[.int .i64 (x : Int), .int .i64 (y : Int)] w fun e w' => e = .returned (.int .i64 ((x % 5 + 5 * (y % 5) : Nat) : Int)) ∧ w = w' := by
  obtain ⟨p, hp⟩ : ∃ p, p = x % 5 := ⟨_, rfl⟩
  obtain ⟨q, hq⟩ : ∃ q, q = y % 5 := ⟨_, rfl⟩
  rw [← hp, ← hq]
  have e1 : (x : Int).tmod 5 = (p : Int) := by rw [hp, Int.tmod_eq_emod_of_nonneg (by omega)]; rfl
  have e2 : (y : Int).tmod 5 = (q : Int) := by rw [hq, Int.tmod_eq_emod_of_nonneg (by omega)]; rfl
  have h1 : p < 5 := by omega
  have h2 : q < 5 := by omega
  clear hp hq
  go_enter Tryd.func40, Tryd.ntmps40
  go_wp2
  go_ret
  refine ⟨ret_int ?_, rfl⟩
  omega

theorem rot_eq (v n : Nat) (hv : v < 18446744073709551616) (hn : n < 64) : bits .or .u64 (IntKind.u64.wrap ((v : Int) * 2 ^ n)) ((v : Int) / 2 ^ (64 - n)) = ((lrot n v : Nat) : Int) := by
  have e1 : IntKind.u64.wrap ((v : Int) * 2 ^ n) = ((v * 2 ^ n % 18446744073709551616 : Nat) : Int) := by
    rw [IntKind.wrap_u64, show (v : Int) * 2 ^ n = ((v * 2 ^ n : Nat) : Int) by rw [Int.natCast_mul, Int.natCast_pow]; rfl]
    rfl
  have e2 : (v : Int) / 2 ^ (64 - n) = ((v / 2 ^ (64 - n) : Nat) : Int) := by
    rw [Int.natCast_ediv, Int.natCast_pow]; rfl
  have hb : v / 2 ^ (64 - n) < 18446744073709551616 := Nat.lt_of_le_of_lt (Nat.div_le_self _ _) hv
  rw [e1, e2, bits_or_u64_nat _ _ (Nat.mod_lt _ (by decide)) hb]
  unfold lrot
  rw [show (18446744073709551616 : Nat) = 2 ^ 64 by decide, Nat.or_mod_two_pow, Nat.shiftLeft_eq, Nat.shiftRight_eq_div_pow]
  congr 2
  rw [show (18446744073709551616 : Nat) = 2 ^ 64 by decide] at hb
  exact (Nat.mod_eq_of_lt hb).symm
theorem rot_c (v n : Nat) (hv : v < 18446744073709551616) (hn : n < 64) (w : World) :
    Calls Tryd.prog 39 #[.int .u64 (v : Int), .int .i64 (n : Int)] w fun e w' => e = .returned (.int .u64 (lrot n v : Nat)) ∧ w = w' := by
  have e1 : IntKind.u64.wrap (n : Int) = (n : Int) := by rw [IntKind.wrap_u64]; omega
  have e2 : bits .and .u64 (n : Int) 63 = (n : Int) := by
    have := bits_and_u64_nat n 63 (by omega) (by omega)
    rw [show ((63 : Nat) : Int) = 63 by rfl] at this
    rw [this, show (63 : Nat) = 2 ^ 6 - 1 by decide, Nat.and_two_pow_sub_one_eq_mod, Nat.mod_eq_of_lt (by omega)]
  have HR := hid (rot_eq v n hv hn)
  go_enter Tryd.func39, Tryd.ntmps39
  go_wp2
  go_ret
  exact ⟨ret_int HR.out, rfl⟩

/-- What the program's tables hold. -/
structure GlobK (w : World) : Prop where
  size : 1 < w.heap.size ∧ 0 < w.heap.size
  consts : ∀ i, i < 24 → w.cell? ⟨1, i, none⟩ = some (.int .u64 ((kconst.getD i 0 : Nat) : Int))
  offs : ∀ i, i < 25 → w.cell? ⟨0, i, none⟩ = some (.int .i64 ((koff.getD i 0 : Nat) : Int))
theorem GlobK.up {w w' : World} (h : GlobK w) (hb : Below w.heap.size w w') : GlobK w' :=
  ⟨⟨Nat.lt_of_lt_of_le h.size.1 hb.size, Nat.lt_of_lt_of_le h.size.2 hb.size⟩, fun i hi => (hb.cell (p := ⟨1, i, none⟩) h.size.1).trans (h.consts i hi),
    fun i hi => (hb.cell (p := ⟨0, i, none⟩) h.size.2).trans (h.offs i hi)⟩
theorem GlobK.below {w w' : World} {B : Nat} (h : GlobK w) (hb : Below B w w') (hB : w.heap.size ≤ B) : GlobK w' := h.up (hb.mono hB)

/-- Blocks of words. -/
def oW (t : TypeId) (l : List Nat) : Obj := .cells (cellsOf64 l).toArray t
theorem oW_new (w : World) (t : TypeId) (l : List Nat) (hl : allLt l) : BlkW (w.alloc (oW t l)) w.heap.size t l := BlkW.new64 w t l hl
theorem Lanes.all {l : List Nat} (h : Lanes l) : allLt l := h.lt
theorem c64_len (l : List Nat) : (cellsOf64 l).length = l.length := by simp [cellsOf64]
/-- A word set, of a block of words. -/
theorem BlkW.overW {w : World} {b : Nat} {t : TypeId} {ws : List Nat} (us : List Nat) (h : BlkW w b t ws) (hl : us.length = ws.length) (hu : allLt us) : BlkW (w.setCells b 0 (cellsOf64 us)) b t us := by
  have h1 : BlkV w b t (cellsOf64 ws) := ⟨h.heap⟩
  exact ⟨(BlkV.whole (cellsOf64 us) h1 (by rw [c64_len, c64_len, hl])).heap, hu⟩
theorem BlkW.putC {w : World} {b c : Nat} {t : TypeId} {ws : List Nat} (h : BlkW w b t ws) (hne : b ≠ c) (us : List Value) (o : Nat) : BlkW (w.setCells c o us) b t ws :=
  ⟨(BlkV.put hne us o w (⟨h.heap⟩ : BlkV w b t (cellsOf64 ws))).heap, h.lt⟩
theorem BlkW.drew' {w : World} {b : Nat} {t : TypeId} {ws : List Nat} (h : BlkW w b t ws) : BlkW w.drew b t ws := ⟨h.heap, h.lt⟩

/-- The columns, behind k words. -/
def lcolk (l : List Nat) : Nat → Nat → Nat
  | 0, _ => 0
  | k + 1, x => if k % 5 = x then lcolk l k x ^^^ l.getD k 0 else lcolk l k x
theorem lcolk_lt {l : List Nat} (h : Lanes l) (x : Nat) : ∀ k, lcolk l k x < 18446744073709551616
  | 0 => by unfold lcolk; decide
  | k + 1 => by
    unfold lcolk
    split
    · exact xor_lt (lcolk_lt h x k) (h.at_ _)
    · exact lcolk_lt h x k
theorem lcolk_end (l : List Nat) {x : Nat} (hx : x < 5) : lcolk l 25 x = lcol l x := by
  match x, hx with
  | 0, _ => simp [lcolk, lcol, Nat.xor_assoc]
  | 1, _ => simp [lcolk, lcol, Nat.xor_assoc]
  | 2, _ => simp [lcolk, lcol, Nat.xor_assoc]
  | 3, _ => simp [lcolk, lcol, Nat.xor_assoc]
  | 4, _ => simp [lcolk, lcol, Nat.xor_assoc]
def lcols (l : List Nat) : List Nat := [lcol l 0, lcol l 1, lcol l 2, lcol l 3, lcol l 4]
theorem lcols_at (l : List Nat) {x : Nat} (hx : x < 5) : (lcols l).getD x 0 = lcol l x := by
  match x, hx with
  | 0, _ => rfl
  | 1, _ => rfl
  | 2, _ => rfl
  | 3, _ => rfl
  | 4, _ => rfl
theorem lcols_lt {l : List Nat} (h : Lanes l) : allLt (lcols l) := by
  intro x hx
  simp only [lcols, List.mem_cons, List.not_mem_nil, or_false] at hx
  rcases hx with rfl | rfl | rfl | rfl | rfl <;> exact lcol_lt h _
/-- Lists of as many words are the same if their words are. -/
theorem same_getD {l m : List Nat} (hl : l.length = m.length) (h : ∀ i, i < l.length → l.getD i 0 = m.getD i 0) : l = m := same_of_all hl h
end Go.Proofs.YteogjnendkbjcaaDoor
