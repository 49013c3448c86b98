import Derived.Test.YteogjnendkbjcaaDoorBlkV
import Derived.Test.YteogjnendkbjcaaDoorAgg
import Derived.Test.YteogjnendkbjcaaDoorBytesB
import Derived.Laws.Bits64
import Derived.Laws.Bits64b
import Derived.StillTailTactics
/-
  A state's bits as cells: read and written at a place; numbers bit by bit.
-/
namespace Go.Proofs.YteogjnendkbjcaaDoor
open Go.RowKit
set_option linter.unusedVariables false

/-- The cells of a state's bits. -/
def kcell (a : KB) : List Value := (List.range 1600).map fun k => .bool (a (k / 320) (k / 64 % 5) (k % 64))
theorem kcell_len (a : KB) : (kcell a).length = 1600 := by unfold kcell; rw [List.length_map, List.length_range]
theorem kcell_at (a : KB) {k : Nat} (h : k < 1600) : (kcell a)[k]? = some (.bool (a (k / 320) (k / 64 % 5) (k % 64))) := by
  unfold kcell
  rw [List.getElem?_map, List.getElem?_range h]
  rfl
theorem kcell_get (a : KB) {x y z : Nat} (hx : x < 5) (hy : y < 5) (hz : z < 64) : (kcell a)[320 * x + 64 * y + z]? = some (.bool (a x y z)) := by
  rw [kcell_at a (by omega), show (320 * x + 64 * y + z) / 320 = x by omega, show (320 * x + 64 * y + z) / 64 % 5 = y by omega, show (320 * x + 64 * y + z) % 64 = z by omega]
theorem kcell_eq {a b : KB} (h : KEq a b) : kcell a = kcell b := by
  apply List.ext_getElem?
  intro k
  rcases Nat.lt_or_ge k 1600 with hk | hk
  · rw [kcell_at a hk, kcell_at b hk, h _ _ _ (by omega) (by omega) (by omega)]
  · rw [List.getElem?_eq_none (by rw [kcell_len]; exact hk), List.getElem?_eq_none (by rw [kcell_len]; exact hk)]
theorem kcell_inj {a b : KB} (h : kcell a = kcell b) : KEq a b := fun x y z hx hy hz => by
  have h1 := kcell_get a hx hy hz
  rw [h, kcell_get b hx hy hz] at h1
  exact (Value.bool.inj (Option.some.inj h1)).symm
/-- One bit set. -/
def kset (a : KB) (x y z : Nat) (v : Bool) : KB := fun x' y' z' => if x' = x ∧ y' = y ∧ z' = z then v else a x' y' z'
theorem kcell_set (a : KB) {x y z : Nat} (hx : x < 5) (hy : y < 5) (hz : z < 64) (v : Bool) : (kcell a).set (320 * x + 64 * y + z) (.bool v) = kcell (kset a x y z v) := by
  apply List.ext_getElem?
  intro k
  rcases Nat.lt_or_ge k 1600 with hk | hk
  · rw [kcell_at _ hk]
    by_cases e : 320 * x + 64 * y + z = k
    · rw [← e, List.getElem?_set_self (by rw [kcell_len]; omega)]
      unfold kset
      rw [if_pos ⟨by omega, by omega, by omega⟩]
    · rw [List.getElem?_set_ne e, kcell_at a hk]
      unfold kset
      rw [if_neg (fun h => e (by omega))]
  · rw [List.getElem?_eq_none (by rw [List.length_set, kcell_len]; exact hk), List.getElem?_eq_none (by rw [kcell_len]; exact hk)]
theorem kcell_one (a : KB) : ∀ v ∈ kcell a, v.oneCell' = true := by
  intro v hv
  unfold kcell at hv
  obtain ⟨k, _, rfl⟩ := List.mem_map.1 hv
  rfl
/-- All 0. -/
def kzero : KB := fun _ _ _ => false
theorem kcell_zero : kcell kzero = List.replicate 1600 (.bool false) := by
  apply List.ext_getElem?
  intro k
  rcases Nat.lt_or_ge k 1600 with hk | hk
  · rw [kcell_at _ hk, List.getElem?_replicate, if_pos hk]
    rfl
  · rw [List.getElem?_eq_none (by rw [kcell_len]; exact hk), List.getElem?_replicate, if_neg (by omega)]
/-- A number, its lowest bit, and the rest. -/
theorem kbit_low (v : Nat) : v % 2 = if v.testBit 0 then 1 else 0 := by
  rw [Nat.testBit_zero]
  by_cases h : v % 2 = 1
  · rw [decide_eq_true h, if_pos rfl, h]
  · rw [decide_eq_false h, if_neg (by decide)]; omega
theorem kbit_at (v z : Nat) : (v / 2 ^ z) % 2 = if v.testBit z then 1 else 0 := by
  rw [kbit_low, Nat.testBit_div_two_pow, Nat.zero_add]
theorem kbit_up (v z : Nat) : v / 2 ^ z = 2 * (v / 2 ^ (z + 1)) + if v.testBit z then 1 else 0 := by
  rw [← kbit_at, Nat.pow_succ, ← Nat.div_div_eq_div_mul, Nat.div_add_mod]
end Go.Proofs.YteogjnendkbjcaaDoor
/-
  How rho walks over the lanes, how theta counts: plain arithmetic, nothing of the program.
-/
namespace Go.Proofs.YteogjnendkbjcaaDoor
set_option linter.unusedVariables false

/-- The lanes that rho comes to, one after the other. -/
def kx : Nat → Nat × Nat
  | 0 => (1, 0)
  | t + 1 => ((kx t).2, (2 * (kx t).1 + 3 * (kx t).2) % 5)
theorem kx_lt : ∀ t, (kx t).1 < 5 ∧ (kx t).2 < 5
  | 0 => by decide
  | t + 1 => ⟨(kx_lt t).2, Nat.mod_lt _ (by decide)⟩
theorem kx_off {t : Nat} (h : t < 24) : koff.getD ((kx t).1 + 5 * (kx t).2) 0 = (t + 1) * (t + 2) / 2 % 64 := by
  have key : ∀ t : Fin 24, koff.getD ((kx t.val).1 + 5 * (kx t.val).2) 0 = (t.val + 1) * (t.val + 2) / 2 % 64 := by decide +kernel
  exact key ⟨t, h⟩
theorem kx_all {x y : Nat} (hx : x < 5) (hy : y < 5) (h : ¬ (x = 0 ∧ y = 0)) : ∃ s, s < 24 ∧ kx s = (x, y) := by
  have key : ∀ x : Fin 5, ∀ y : Fin 5, (decide (x.val = 0 ∧ y.val = 0) || (List.range 24).any fun s => kx s == (x.val, y.val)) = true := by decide +kernel
  have k := key ⟨x, hx⟩ ⟨y, hy⟩
  rw [Bool.or_eq_true, decide_eq_true_eq] at k
  rcases k with k | k
  · exact absurd k h
  · obtain ⟨s, hs, e⟩ := List.any_eq_true.1 k
    exact ⟨s, List.mem_range.1 hs, eq_of_beq e⟩
theorem kx_ne {s t : Nat} (hs : s < t) (ht : t < 24) : kx s ≠ kx t := by
  have key : ∀ t : Fin 24, ∀ s : Fin 24, (decide (s.val < t.val) && (kx s.val == kx t.val)) = false := by decide +kernel
  have k := key ⟨t, ht⟩ ⟨s, by omega⟩
  intro e
  rw [decide_eq_true hs, e, Bool.true_and, beq_self_eq_true] at k
  cases k
theorem kx_zero {t : Nat} (ht : t < 24) : kx t ≠ (0, 0) := by
  have key : ∀ t : Fin 24, (kx t.val == (0, 0)) = false := by decide +kernel
  intro e
  have k := key ⟨t, ht⟩
  rw [e] at k
  cases k
/-- What rho has laid down behind t lanes. -/
def krho_at (a : KB) (t : Nat) : KB := fun x y z => if (x = 0 ∧ y = 0) ∨ ∃ s, s < t ∧ kx s = (x, y) then krh a x y z else false
theorem krho_end (a : KB) : KEq (krho_at a 24) (krh a) := fun x y z hx hy hz => by
  unfold krho_at
  by_cases h : x = 0 ∧ y = 0
  · rw [if_pos (Or.inl h)]
  · rw [if_pos (Or.inr (kx_all hx hy h))]
/-- A count of five bits. -/
theorem count5 (p0 p1 p2 p3 p4 : Bool) : (((if p0 then 1 else 0) + (if p1 then 1 else 0) + (if p2 then 1 else 0) + (if p3 then 1 else 0) + (if p4 then 1 else 0)) % 2 == 1) = (p0 ^^ (p1 ^^ (p2 ^^ (p3 ^^ p4)))) := by
  cases p0 <;> cases p1 <;> cases p2 <;> cases p3 <;> cases p4 <;> rfl
end Go.Proofs.YteogjnendkbjcaaDoor
/-
  A state as a value (st); keccak.lane, bits.RotateLeft64: what each call does.
-/
namespace Go.Proofs.YteogjnendkbjcaaDoor
open Go.RowKit
set_option linter.unusedVariables false

/-- 25 lanes as a value. -/
def st (l : List Nat) : Value := .agg (cellsOf64 l).toArray

theorem lane_c (x y : Nat) (hx : x < 100) (hy : y < 100) (w : World) :
    Calls Tryd.prog 40 #[.int .i64 (x : Int), .int .i64 (y : Int)] w fun e w' => e = .returned (.int .i64 ((x % 5 + 5 * (y % 5) : Nat) : Int)) ∧ w = w' := by
  obtain ⟨p, hp⟩ : ∃ p, p = x % 5 := ⟨_, rfl⟩
  obtain ⟨q, hq⟩ : ∃ q, q = y % 5 := ⟨_, rfl⟩
  rw [← hp, ← hq]
  have e1 : (x : Int).tmod 5 = (p : Int) := by rw [hp, Int.tmod_eq_emod_of_nonneg (by omega)]; rfl
  have e2 : (y : Int).tmod 5 = (q : Int) := by rw [hq, Int.tmod_eq_emod_of_nonneg (by omega)]; rfl
  have h1 : p < 5 := by omega
  have h2 : q < 5 := by omega
  clear hp hq
  go_enter Tryd.func40, Tryd.ntmps40
  go_wp2
  go_ret
  refine ⟨ret_int ?_, rfl⟩
  omega

theorem rot_eq (v n : Nat) (hv : v < 18446744073709551616) (hn : n < 64) : bits .or .u64 (IntKind.u64.wrap ((v : Int) * 2 ^ n)) ((v : Int) / 2 ^ (64 - n)) = ((lrot n v : Nat) : Int) := by
  have e1 : IntKind.u64.wrap ((v : Int) * 2 ^ n) = ((v * 2 ^ n % 18446744073709551616 : Nat) : Int) := by
    rw [IntKind.wrap_u64, show (v : Int) * 2 ^ n = ((v * 2 ^ n : Nat) : Int) by rw [Int.natCast_mul, Int.natCast_pow]; rfl]
    rfl
  have e2 : (v : Int) / 2 ^ (64 - n) = ((v / 2 ^ (64 - n) : Nat) : Int) := by
    rw [Int.natCast_ediv, Int.natCast_pow]; rfl
  have hb : v / 2 ^ (64 - n) < 18446744073709551616 := Nat.lt_of_le_of_lt (Nat.div_le_self _ _) hv
  rw [e1, e2, bits_or_u64_nat _ _ (Nat.mod_lt _ (by decide)) hb]
  unfold lrot
  rw [show (18446744073709551616 : Nat) = 2 ^ 64 by decide, Nat.or_mod_two_pow, Nat.shiftLeft_eq, Nat.shiftRight_eq_div_pow]
  congr 2
  rw [show (18446744073709551616 : Nat) = 2 ^ 64 by decide] at hb
  exact (Nat.mod_eq_of_lt hb).symm
theorem rot_c (v n : Nat) (hv : v < 18446744073709551616) (hn : n < 64) (w : World) :
    Calls Tryd.prog 39 #[.int .u64 (v : Int), .int .i64 (n : Int)] w fun e w' => e = .returned (.int .u64 (lrot n v : Nat)) ∧ w = w' := by
  have e1 : IntKind.u64.wrap (n : Int) = (n : Int) := by rw [IntKind.wrap_u64]; omega
  have e2 : bits .and .u64 (n : Int) 63 = (n : Int) := by
    have := bits_and_u64_nat n 63 (by omega) (by omega)
    rw [show ((63 : Nat) : Int) = 63 by rfl] at this
    rw [this, show (63 : Nat) = 2 ^ 6 - 1 by decide, Nat.and_two_pow_sub_one_eq_mod, Nat.mod_eq_of_lt (by omega)]
  have HR := hid (rot_eq v n hv hn)
  go_enter Tryd.func39, Tryd.ntmps39
  go_wp2
  go_ret
  exact ⟨ret_int HR.out, rfl⟩

/-- What the program's tables hold. -/
structure GlobK (w : World) : Prop where
  size : 1 < w.heap.size ∧ 0 < w.heap.size
  consts : ∀ i, i < 24 → w.cell? ⟨1, i, none⟩ = some (.int .u64 ((kconst.getD i 0 : Nat) : Int))
  offs : ∀ i, i < 25 → w.cell? ⟨0, i, none⟩ = some (.int .i64 ((koff.getD i 0 : Nat) : Int))
theorem GlobK.up {w w' : World} (h : GlobK w) (hb : Below w.heap.size w w') : GlobK w' :=
  ⟨⟨Nat.lt_of_lt_of_le h.size.1 hb.size, Nat.lt_of_lt_of_le h.size.2 hb.size⟩, fun i hi => (hb.cell (p := ⟨1, i, none⟩) h.size.1).trans (h.consts i hi),
    fun i hi => (hb.cell (p := ⟨0, i, none⟩) h.size.2).trans (h.offs i hi)⟩
theorem GlobK.below {w w' : World} {B : Nat} (h : GlobK w) (hb : Below B w w') (hB : w.heap.size ≤ B) : GlobK w' := h.up (hb.mono hB)

/-- Blocks of words. -/
def oW (t : TypeId) (l : List Nat) : Obj := .cells (cellsOf64 l).toArray t
theorem oW_new (w : World) (t : TypeId) (l : List Nat) (hl : allLt l) : BlkW (w.alloc (oW t l)) w.heap.size t l := BlkW.new64 w t l hl
theorem Lanes.all {l : List Nat} (h : Lanes l) : allLt l := h.lt
theorem c64_len (l : List Nat) : (cellsOf64 l).length = l.length := by simp [cellsOf64]
/-- A word set, of a block of words. -/
theorem BlkW.overW {w : World} {b : Nat} {t : TypeId} {ws : List Nat} (us : List Nat) (h : BlkW w b t ws) (hl : us.length = ws.length) (hu : allLt us) : BlkW (w.setCells b 0 (cellsOf64 us)) b t us := by
  have h1 : BlkV w b t (cellsOf64 ws) := ⟨h.heap⟩
  exact ⟨(BlkV.whole (cellsOf64 us) h1 (by rw [c64_len, c64_len, hl])).heap, hu⟩
theorem BlkW.putC {w : World} {b c : Nat} {t : TypeId} {ws : List Nat} (h : BlkW w b t ws) (hne : b ≠ c) (us : List Value) (o : Nat) : BlkW (w.setCells c o us) b t ws :=
  ⟨(BlkV.put hne us o w (⟨h.heap⟩ : BlkV w b t (cellsOf64 ws))).heap, h.lt⟩
theorem BlkW.drew' {w : World} {b : Nat} {t : TypeId} {ws : List Nat} (h : BlkW w b t ws) : BlkW w.drew b t ws := ⟨h.heap, h.lt⟩

/-- The columns, behind k words. -/
def lcolk (l : List Nat) : Nat → Nat → Nat
  | 0, _ => 0
  | k + 1, x => if k % 5 = x then lcolk l k x ^^^ l.getD k 0 else lcolk l k x
theorem lcolk_lt {l : List Nat} (h : Lanes l) (x : Nat) : ∀ k, lcolk l k x < 18446744073709551616
  | 0 => by unfold lcolk; decide
  | k + 1 => by
    unfold lcolk
    split
    · exact xor_lt (lcolk_lt h x k) (h.at_ _)
    · exact lcolk_lt h x k
theorem lcolk_end (l : List Nat) {x : Nat} (hx : x < 5) : lcolk l 25 x = lcol l x := by
  match x, hx with
  | 0, _ => simp [lcolk, lcol, Nat.xor_assoc]
  | 1, _ => simp [lcolk, lcol, Nat.xor_assoc]
  | 2, _ => simp [lcolk, lcol, Nat.xor_assoc]
  | 3, _ => simp [lcolk, lcol, Nat.xor_assoc]
  | 4, _ => simp [lcolk, lcol, Nat.xor_assoc]
def lcols (l : List Nat) : List Nat := [lcol l 0, lcol l 1, lcol l 2, lcol l 3, lcol l 4]
theorem lcols_at (l : List Nat) {x : Nat} (hx : x < 5) : (lcols l).getD x 0 = lcol l x := by
  match x, hx with
  | 0, _ => rfl
  | 1, _ => rfl
  | 2, _ => rfl
  | 3, _ => rfl
  | 4, _ => rfl
theorem lcols_lt {l : List Nat} (h : Lanes l) : allLt (lcols l) := by
  intro x hx
  simp only [lcols, List.mem_cons, List.not_mem_nil, or_false] at hx
  rcases hx with rfl | rfl | rfl | rfl | rfl <;> exact lcol_lt h _
/-- Lists of as many words are the same if their words are. -/
theorem same_getD {l m : List Nat} (hl : l.length = m.length) (h : ∀ i, i < l.length → l.getD i 0 = m.getD i 0) : l = m := same_of_all hl h
end Go.Proofs.YteogjnendkbjcaaDoor
