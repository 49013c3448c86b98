import Derived.Test.YteogjnendkbjcaaDoorBlkV
import Derived.Test.YteogjnendkbjcaaDoorBytes0
import Derived.Test.YteogjnendkbjcaaDoorBytesB
import Derived.Test.YteogjnendkbjcaaDoorFrameK
/-
  SHA3-256 by lists of bytes: plain arithmetic, nothing of the program.
-/
namespace Go.Proofs.YteogjnendkbjcaaDoor
set_option linter.unusedVariables false

/-- The bytes of 25 lanes; the lanes of 200 bytes. -/
def kby (l : List Nat) : List Nat := (List.range 200).map fun i => l.getD (i / 8) 0 / 256 ^ (i % 8) % 256
def kwd (b : List Nat) : List Nat := lane fun i => pv 256 (b.drop (8 * i)) 8
theorem kby_len (l : List Nat) : (kby l).length = 200 := by unfold kby; rw [List.length_map, List.length_range]
theorem kby_at (l : List Nat) {i : Nat} (h : i < 200) : (kby l).getD i 0 = l.getD (i / 8) 0 / 256 ^ (i % 8) % 256 := by
  unfold kby
  rw [List.getD_eq_getElem?_getD, List.getElem?_map, List.getElem?_range h]
  rfl
theorem kby_lt (l : List Nat) : allLt8 (kby l) := by
  intro x hx
  unfold kby at hx
  obtain ⟨i, _, rfl⟩ := List.mem_map.1 hx
  exact Nat.mod_lt _ (by decide)
theorem kby_pv (l : List Nat) {j : Nat} (hj : j < 25) : ∀ k, k ≤ 8 → pv 256 ((kby l).drop (8 * j)) k = l.getD j 0 % 256 ^ k
  | 0, _ => by rw [Nat.pow_zero, Nat.mod_one]; rfl
  | k + 1, h => by
    rw [pv_succ, kby_pv l hj k (by omega), getD_drop, kby_at l (by omega), show (8 * j + k) / 8 = j by omega, show (8 * j + k) % 8 = k by omega, Nat.pow_succ, Nat.mod_mul, Nat.mul_comm (256 ^ k)]
theorem kwd_lt {b : List Nat} (h : allLt8 b) (i : Nat) : pv 256 (b.drop (8 * i)) 8 < 18446744073709551616 := by
  have h1 := pv_lt 256 (by decide) (b.drop (8 * i)) (fun x hx => h x (List.mem_of_mem_drop hx)) 8
  exact Nat.lt_of_lt_of_le h1 (by decide)
theorem kwd_lanes {b : List Nat} (h : allLt8 b) : Lanes (kwd b) := lane_lanes fun i _ => kwd_lt h i
theorem kwd_kby {l : List Nat} (hl : Lanes l) : kwd (kby l) = l := by
  refine List.ext_getElem (by rw [hl.len]; simp [kwd, lane]) fun i h1 h2 => ?_
  have hi : i < 25 := by rw [← hl.len]; exact h2
  have e := lane_getD (fun i => pv 256 ((kby l).drop (8 * i)) 8) hi
  rw [kby_pv l hi 8 (Nat.le_refl _), show (256 : Nat) ^ 8 = 18446744073709551616 by decide, Nat.mod_eq_of_lt (hl.at_ i)] at e
  have e1 : (kwd (kby l)).getD i 0 = (kwd (kby l))[i] := by rw [List.getD_eq_getElem?_getD, List.getElem?_eq_getElem h1]; rfl
  have e2 : l.getD i 0 = l[i] := by rw [List.getD_eq_getElem?_getD, List.getElem?_eq_getElem h2]; rfl
  exact e1.symm.trans (e.trans e2)
/-- The same number. -/
theorem kby_val {l : List Nat} (hl : Lanes l) : val 256 (kby l) = val 18446744073709551616 l := by
  have e := pv_chunks 8 l (kby l) 25 fun j hj => by
    rw [kby_pv l hj 8 (Nat.le_refl _), show (256 : Nat) ^ 8 = 18446744073709551616 by decide, Nat.mod_eq_of_lt (hl.at_ j)]
  have e1 : val 18446744073709551616 l = pv 18446744073709551616 l 25 := by unfold val; rw [hl.len]
  have e2 : val 256 (kby l) = pv 256 (kby l) (8 * 25) := by unfold val; rw [kby_len]
  rw [e1, e2]
  exact e.symm
theorem kwd_val {b : List Nat} (h : allLt8 b) (hn : b.length = 200) : val 18446744073709551616 (kwd b) = val 256 b := by
  have e := pv_chunks 8 (kwd b) b 25 fun j hj => lane_getD (fun i => pv 256 (b.drop (8 * i)) 8) hj
  have e1 : val 18446744073709551616 (kwd b) = pv 18446744073709551616 (kwd b) 25 := by unfold val; rw [(kwd_lanes h).len]
  have e2 : val 256 b = pv 256 b (8 * 25) := by unfold val; rw [hn]
  rw [e1, e2]
  exact e
/-- A list of bytes whose number is that of a state is the state's. -/
theorem kby_of {l bs : List Nat} (hl : Lanes l) (h : allLt8 bs) (hn : bs.length = 200) (hv : val 256 bs = val 18446744073709551616 l) : bs = kby l :=
  val_inj 256 (by decide) _ _ h (kby_lt l) (by rw [hn, kby_len]) (hv.trans (kby_val hl).symm)
theorem kwd_of {l bs : List Nat} (hl : Lanes l) (h : allLt8 bs) (hn : bs.length = 200) (hv : val 18446744073709551616 l = val 256 bs) : l = kwd bs :=
  val_inj 18446744073709551616 (by decide) _ _ hl.lt (kwd_lanes h).lt (by rw [hl.len, (kwd_lanes h).len]) (hv.trans (kwd_val h hn).symm)
/-- How many bytes there are behind the padding. -/
def padN (n : Nat) : Nat := 136 * (n / 136 + 1)
def padB (b : List Nat) : List Nat := (List.range (padN b.length)).map fun i => (if i < b.length then b.getD i 0 else if i = b.length then 6 else 0) + if i = padN b.length - 1 then 128 else 0
theorem padN_gt (n : Nat) : n < padN n := by unfold padN; omega
theorem padB_len (b : List Nat) : (padB b).length = padN b.length := by unfold padB; rw [List.length_map, List.length_range]
theorem padB_at (b : List Nat) {i : Nat} (h : i < padN b.length) : (padB b).getD i 0 = (if i < b.length then b.getD i 0 else if i = b.length then 6 else 0) + if i = padN b.length - 1 then 128 else 0 := by
  unfold padB
  rw [List.getD_eq_getElem?_getD, List.getElem?_map, List.getElem?_range h]
  rfl
theorem padB_lt {b : List Nat} (h : allLt8 b) : allLt8 (padB b) := by
  intro x hx
  unfold padB at hx
  obtain ⟨i, hi, rfl⟩ := List.mem_map.1 hx
  have hi := List.mem_range.1 hi
  have hp := padN_gt b.length
  by_cases c : i < b.length
  · have h1 := getD_lt _ (by decide) b h i
    simp only [if_pos c]
    rw [if_neg (by omega)]
    omega
  · simp only [if_neg c]
    split <;> split <;> omega
/-- A block xored into a state's bytes; the state behind k blocks. -/
def xorb (bs p : List Nat) (k : Nat) : List Nat := (List.range 200).map fun i => if i < 136 then bs.getD i 0 ^^^ p.getD (136 * k + i) 0 else bs.getD i 0
def labs (l p : List Nat) (k : Nat) : List Nat := lperm (kwd (xorb (kby l) p k))
def lblk (p : List Nat) : Nat → List Nat
  | 0 => List.replicate 25 0
  | k + 1 => labs (lblk p k) p k
def dig (b : List Nat) : List Nat := (kby (lblk (padB b) (b.length / 136 + 1))).take 32
theorem xorb_len (bs p : List Nat) (k : Nat) : (xorb bs p k).length = 200 := by unfold xorb; rw [List.length_map, List.length_range]
theorem xorb_at (bs p : List Nat) (k : Nat) {i : Nat} (h : i < 200) : (xorb bs p k).getD i 0 = if i < 136 then bs.getD i 0 ^^^ p.getD (136 * k + i) 0 else bs.getD i 0 := by
  unfold xorb
  rw [List.getD_eq_getElem?_getD, List.getElem?_map, List.getElem?_range h]
  rfl
theorem xor8_lt {a b : Nat} (ha : a < 256) (hb : b < 256) : a ^^^ b < 256 := by
  rw [show (256 : Nat) = 2 ^ 8 by decide] at *
  exact Nat.xor_lt_two_pow ha hb
theorem xorb_lt {bs p : List Nat} (h : allLt8 bs) (hp : allLt8 p) (k : Nat) : allLt8 (xorb bs p k) := by
  intro x hx
  unfold xorb at hx
  obtain ⟨i, _, rfl⟩ := List.mem_map.1 hx
  have h1 := getD_lt _ (by decide) bs h i
  have h2 := getD_lt _ (by decide) p hp (136 * k + i)
  show (if i < 136 then _ else _) < 256
  split
  · exact xor8_lt h1 h2
  · exact h1
/-- The document's example. -/
theorem dig_nil : (dig []).take 4 = [167, 255, 198, 248] := by decide +kernel
end Go.Proofs.YteogjnendkbjcaaDoor
/-
  A state's bits as a value and in memory (1600 cells): how it begins and ends. Helpers for the walks of avouchref06.
-/
namespace Go.Proofs.YteogjnendkbjcaaDoor
open Go.RowKit
set_option linter.unusedVariables false

theorem zeroB (v : World) : (zeroValue 60).run Tryd.prog v = .ok (.agg (kcell kzero).toArray) v := by kernel_rfl
theorem sizeB : (Tryd.prog.info? 60).map (·.size) = some 1600 := by kernel_rfl
theorem sizeW25 : (Tryd.prog.info? 30).map (·.size) = some 25 := by kernel_rfl
theorem sizeB_k (a : KB) : (Tryd.prog.info? 60).map (·.size) = some (kcell a).length := sizeB.trans (congrArg some (kcell_len a).symm)
/-- The bits as a value. -/
def bt (a : KB) : Value := .agg (kcell a).toArray
/-- A block of a state's bits. -/
def oB (a : KB) : Obj := .cells (kcell a).toArray 60
abbrev BB (w : World) (b : Nat) (a : KB) : Prop := BlkV w b 60 (kcell a)
theorem oB_new (w : World) (a : KB) : BB (w.alloc (oB a)) w.heap.size a := BlkV.new w _ _
theorem BB.cellk {w : World} {b : Nat} {a : KB} (h : BB w b a) {x y z : Nat} (hx : x < 5) (hy : y < 5) (hz : z < 64) : w.cell? ⟨b, x * 320 + y * 64 + z, none⟩ = some (.bool (a x y z)) := by
  rw [show x * 320 + y * 64 + z = 320 * x + 64 * y + z by omega]
  have hi : 320 * x + 64 * y + z < (kcell a).length := by rw [kcell_len]; omega
  rw [h.cell hi, ← kcell_get a hx hy hz, List.getElem?_eq_getElem hi]
theorem BB.setk {w : World} {b : Nat} {a : KB} (h : BB w b a) {x y z : Nat} (hx : x < 5) (hy : y < 5) (hz : z < 64) (v : Bool) : BB (w.setCell ⟨b, x * 320 + y * 64 + z, none⟩ (.bool v)) b (kset a x y z v) := by
  rw [show x * 320 + y * 64 + z = 320 * x + 64 * y + z by omega]
  have := BlkV.set h (320 * x + 64 * y + z) (.bool v)
  rw [kcell_set a hx hy hz v] at this
  exact this
theorem storeB {w : World} {b : Nat} {a : KB} (c : KB) (h : BB w b a) : (storeCells ⟨b, 0, none⟩ (kcell c)).run Tryd.prog w = .ok () (w.setCells b 0 (kcell c)) :=
  storeV (kcell c) 0 h (by rw [kcell_len, kcell_len]; exact Nat.le_refl _) (kcell_one c)
theorem BB.over {w : World} {b : Nat} {a : KB} (c : KB) (h : BB w b a) : BB (w.setCells b 0 (kcell c)) b c := BlkV.whole (kcell c) h (by rw [kcell_len, kcell_len])
theorem BB.bt_result {fn : Func} {p : Tmp} {w : World} {tmps : Array Value} {b : Nat} {a : KB} (hr : BB w b a) (h : fn.results = #[.cell p 60]) (hp : tmps.getD p undef = .pointer (some ⟨b, 0, none⟩)) :
    (results fn tmps).run Tryd.prog w = .ok (bt a) w :=
  results_cell1 h ⟨b, 0, none⟩ _ hp (run_loadVar_mid _ b 0 60 (kcell a) _ hr.range Tryd.underlying60 rfl (sizeB_k a))
theorem BB.eq {w : World} {b : Nat} {a c : KB} (h : BB w b a) (e : KEq a c) : BB w b c := by
  unfold BB at *
  rw [← kcell_eq e]
  exact h
/-- Bits boxed, room for the result, and the result as it is made. -/
theorem bootB (w : World) (a : KB) : BB ((((w.alloc (oB a)).alloc (oB kzero)).alloc (oB kzero)).setCells (w.heap.size + 1 + 1) 0 (kcell kzero)) w.heap.size a ∧
    BB ((((w.alloc (oB a)).alloc (oB kzero)).alloc (oB kzero)).setCells (w.heap.size + 1 + 1) 0 (kcell kzero)) (w.heap.size + 1) kzero ∧
    BB ((((w.alloc (oB a)).alloc (oB kzero)).alloc (oB kzero)).setCells (w.heap.size + 1 + 1) 0 (kcell kzero)) (w.heap.size + 1 + 1) kzero ∧
    Below w.heap.size w ((((w.alloc (oB a)).alloc (oB kzero)).alloc (oB kzero)).setCells (w.heap.size + 1 + 1) 0 (kcell kzero)) ∧
    (storeCells ⟨w.heap.size + 1 + 1, 0, none⟩ (kcell kzero)).run Tryd.prog (((w.alloc (oB a)).alloc (oB kzero)).alloc (oB kzero)) = .ok () ((((w.alloc (oB a)).alloc (oB kzero)).alloc (oB kzero)).setCells (w.heap.size + 1 + 1) 0 (kcell kzero)) := by
  have e1 : (w.alloc (oB a)).heap.size = w.heap.size + 1 := by simp
  have e2 : ((w.alloc (oB a)).alloc (oB kzero)).heap.size = w.heap.size + 1 + 1 := by simp
  have h1 := ((oB_new w a).alloc (oB kzero)).alloc (oB kzero)
  have h2 := (oB_new (w.alloc (oB a)) kzero).alloc (oB kzero)
  have h3 := oB_new ((w.alloc (oB a)).alloc (oB kzero)) kzero
  rw [e1] at h2
  rw [e2] at h3
  exact ⟨BlkV.put (by omega) _ _ _ h1, BlkV.put (by omega) _ _ _ h2, h3.over kzero, below_cells (by omega) _ _ _ ((((Below.refl _ _).alloc (Nat.le_refl _) _).alloc (by omega) _).alloc (by omega) _), storeB kzero h3⟩
end Go.Proofs.YteogjnendkbjcaaDoor
