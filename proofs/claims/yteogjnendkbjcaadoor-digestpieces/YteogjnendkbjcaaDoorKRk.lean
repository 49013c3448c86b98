/-
  Rows of bits as cells, of any length; the parities (320), a lane (64). Helpers; nothing of the program but its types' sizes.
-/
import Derived.Test.YteogjnendkbjcaaDoorKRa
namespace Go.Proofs.YteogjnendkbjcaaDoor
open Go.RowKit
set_option linter.unusedVariables false

def bcell (n : Nat) (f : Nat → Bool) : List Value := (List.range n).map fun k => .bool (f k)
theorem bcell_len (n : Nat) (f : Nat → Bool) : (bcell n f).length = n := by unfold bcell; rw [List.length_map, List.length_range]
theorem bcell_at {n : Nat} (f : Nat → Bool) {k : Nat} (h : k < n) : (bcell n f)[k]? = some (.bool (f k)) := by
  unfold bcell
  rw [List.getElem?_map, List.getElem?_range h]
  rfl
theorem bcell_eq {n : Nat} {f g : Nat → Bool} (h : ∀ k, k < n → f k = g k) : bcell n f = bcell n g := by
  apply List.ext_getElem?
  intro k
  rcases Nat.lt_or_ge k n with hk | hk
  · rw [bcell_at f hk, bcell_at g hk, h k hk]
  · rw [List.getElem?_eq_none (by rw [bcell_len]; exact hk), List.getElem?_eq_none (by rw [bcell_len]; exact hk)]
theorem bcell_set {n : Nat} (f : Nat → Bool) {k : Nat} (h : k < n) (v : Bool) : (bcell n f).set k (.bool v) = bcell n fun j => if j = k then v else f j := by
  apply List.ext_getElem?
  intro j
  rcases Nat.lt_or_ge j n with hj | hj
  · rw [bcell_at _ hj]
    by_cases e : k = j
    · rw [← e, List.getElem?_set_self (by rw [bcell_len]; exact h), if_pos rfl]
    · rw [List.getElem?_set_ne e, bcell_at f hj, if_neg (by omega)]
  · rw [List.getElem?_eq_none (by rw [List.length_set, bcell_len]; exact hj), List.getElem?_eq_none (by rw [bcell_len]; exact hj)]
theorem bcell_one (n : Nat) (f : Nat → Bool) : ∀ v ∈ bcell n f, v.oneCell' = true := by
  intro v hv
  unfold bcell at hv
  obtain ⟨k, _, rfl⟩ := List.mem_map.1 hv
  rfl
theorem bcell_inj {n : Nat} {f g : Nat → Bool} (h : bcell n f = bcell n g) : ∀ k, k < n → f k = g k := fun k hk => by
  have h1 := bcell_at f hk
  rw [h, bcell_at g hk] at h1
  exact (Value.bool.inj (Option.some.inj h1)).symm
/-- A block of bits. -/
abbrev BF (w : World) (b : Nat) (t : TypeId) (n : Nat) (f : Nat → Bool) : Prop := BlkV w b t (bcell n f)
def oF (t : TypeId) (n : Nat) (f : Nat → Bool) : Obj := .cells (bcell n f).toArray t
theorem oF_new (w : World) (t : TypeId) (n : Nat) (f : Nat → Bool) : BF (w.alloc (oF t n f)) w.heap.size t n f := BlkV.new w _ _
theorem BF.cellf {w : World} {b : Nat} {t : TypeId} {n : Nat} {f : Nat → Bool} (h : BF w b t n f) {k : Nat} (hk : k < n) : w.cell? ⟨b, k, none⟩ = some (.bool (f k)) := by
  have hi : k < (bcell n f).length := by rw [bcell_len]; exact hk
  rw [BlkV.cell h hi, ← bcell_at f hk, List.getElem?_eq_getElem hi]
theorem BF.setf {w : World} {b : Nat} {t : TypeId} {n : Nat} {f : Nat → Bool} (h : BF w b t n f) {k : Nat} (hk : k < n) (v : Bool) : BF (w.setCell ⟨b, k, none⟩ (.bool v)) b t n fun j => if j = k then v else f j := by
  have := BlkV.set h k (.bool v)
  rw [bcell_set f hk v] at this
  exact this
theorem BF.eq {w : World} {b : Nat} {t : TypeId} {n : Nat} {f g : Nat → Bool} (h : BF w b t n f) (e : ∀ k, k < n → f k = g k) : BF w b t n g := by
  unfold BF at *
  rw [← bcell_eq e]
  exact h
theorem storeF {w : World} {b : Nat} {t : TypeId} {n : Nat} {f : Nat → Bool} (g : Nat → Bool) (h : BF w b t n f) : (storeCells ⟨b, 0, none⟩ (bcell n g)).run Tryd.prog w = .ok () (w.setCells b 0 (bcell n g)) :=
  storeV (bcell n g) 0 h (by rw [bcell_len, bcell_len]; omega) (bcell_one n g)
theorem BF.over {w : World} {b : Nat} {t : TypeId} {n : Nat} {f : Nat → Bool} (g : Nat → Bool) (h : BF w b t n f) : BF (w.setCells b 0 (bcell n g)) b t n g := BlkV.whole (bcell n g) h (by rw [bcell_len, bcell_len])
def f0 : Nat → Bool := fun _ => false
theorem zeroP (v : World) : (zeroValue 58).run Tryd.prog v = .ok (.agg (bcell 320 f0).toArray) v := by kernel_rfl
theorem zeroL (v : World) : (zeroValue 57).run Tryd.prog v = .ok (.agg (bcell 64 f0).toArray) v := by kernel_rfl
theorem sizeP : (Tryd.prog.info? 58).map (·.size) = some 320 := by kernel_rfl
theorem sizeL : (Tryd.prog.info? 57).map (·.size) = some 64 := by kernel_rfl
theorem sizeL_f (f : Nat → Bool) : (Tryd.prog.info? 57).map (·.size) = some (bcell 64 f).length := sizeL.trans (congrArg some (bcell_len 64 f).symm)
/-- A lane of the bits. -/
theorem kcell_lane (a : KB) {x y : Nat} (hx : x < 5) (hy : y < 5) : ((kcell a).drop (x * 320 + y * 64)).take 64 = bcell 64 (a x y) := by
  apply List.ext_getElem?
  intro k
  rcases Nat.lt_or_ge k 64 with hk | hk
  · rw [List.getElem?_take_of_lt hk, List.getElem?_drop, bcell_at _ hk, show x * 320 + y * 64 + k = 320 * x + 64 * y + k by omega, kcell_get a hx hy hk]
  · rw [List.getElem?_eq_none (by rw [List.length_take]; omega), List.getElem?_eq_none (by rw [bcell_len]; exact hk)]
theorem BB.lane {w : World} {b : Nat} {a : KB} (h : BB w b a) {x y : Nat} (hx : x < 5) (hy : y < 5) : w.rangeAt b (x * 320 + y * 64) (bcell 64 (a x y)) := by
  have := BlkV.rangeAt h (x * 320 + y * 64) 64 (by rw [kcell_len]; omega)
  rw [kcell_lane a hx hy] at this
  exact this
/-- One lane set. -/
def klane (a : KB) (x y : Nat) (f : Nat → Bool) : KB := fun x' y' z => if x' = x ∧ y' = y then f z else a x' y' z
theorem kcell_put (a : KB) {x y : Nat} (hx : x < 5) (hy : y < 5) (f : Nat → Bool) : (kcell a).take (x * 320 + y * 64) ++ bcell 64 f ++ (kcell a).drop (x * 320 + y * 64 + (bcell 64 f).length) = kcell (klane a x y f) := by
  have l1 : ((kcell a).take (x * 320 + y * 64)).length = x * 320 + y * 64 := by rw [List.length_take, kcell_len]; omega
  have l2 := bcell_len 64 f
  apply List.ext_getElem?
  intro k
  rcases Nat.lt_or_ge k 1600 with hk | hk
  · rw [kcell_at _ hk]
    unfold klane
    by_cases c1 : k < x * 320 + y * 64
    · rw [List.append_assoc, List.getElem?_append_left (by rw [l1]; exact c1), List.getElem?_take_of_lt c1, kcell_at a hk, if_neg (by omega)]
    · by_cases c2 : k < x * 320 + y * 64 + 64
      · rw [List.getElem?_append_left (by rw [List.length_append, l1, l2]; exact c2), List.getElem?_append_right (by rw [l1]; omega), l1, bcell_at f (by omega), if_pos (by omega), show k - (x * 320 + y * 64) = k % 64 by omega]
      · rw [List.getElem?_append_right (by rw [List.length_append, l1, l2]; omega), List.length_append, l1, l2, List.getElem?_drop, show x * 320 + y * 64 + 64 + (k - (x * 320 + y * 64 + 64)) = k by omega, kcell_at a hk, if_neg (by omega)]
  · rw [List.getElem?_eq_none (by rw [List.length_append, List.length_append, l1, l2, List.length_drop, kcell_len]; omega), List.getElem?_eq_none (by rw [kcell_len]; exact hk)]
theorem BB.putL {w : World} {b : Nat} {a : KB} (h : BB w b a) {x y : Nat} (hx : x < 5) (hy : y < 5) (f : Nat → Bool) : BB (w.setCells b (x * 320 + y * 64) (bcell 64 f)) b (klane a x y f) := by
  have := BlkV.over (bcell 64 f) (x * 320 + y * 64) w (kcell a) h (by rw [kcell_len, bcell_len]; omega)
  rw [kcell_put a hx hy f] at this
  exact this
theorem storeBL {w : World} {b : Nat} {a : KB} (h : BB w b a) {x y : Nat} (hx : x < 5) (hy : y < 5) (f : Nat → Bool) : (storeCells ⟨b, x * 320 + y * 64, none⟩ (bcell 64 f)).run Tryd.prog w = .ok () (w.setCells b (x * 320 + y * 64) (bcell 64 f)) :=
  storeV (bcell 64 f) (x * 320 + y * 64) h (by rw [kcell_len, bcell_len]; omega) (bcell_one 64 f)
/-- What is stored into a result's place of 25 words, of any type, and read from it. -/
theorem w_stored {w : World} {r : Nat} {t : TypeId} {L : List Nat} (hL : Lanes L) (h : BlkW w r t l0) :
    (storeCells ⟨r, 0, none⟩ (cellsOf64 L)).run Tryd.prog w = .ok () (w.setCells r 0 (cellsOf64 L)) ∧ Hid ((w.setCells r 0 (cellsOf64 L)).rangeAt r 0 (cellsOf64 L)) := by
  have hth := h.there
  rw [show l0.length = 25 from rfl] at hth
  exact ⟨store64 r L w (by rw [hL.len]; exact hth), World.rangeAt_setCells_same w r 0 (cellsOf64 L) (by rw [st_len hL]; exact hth)⟩
theorem w_size {L : List Nat} (hL : Lanes L) : (Tryd.prog.info? 30).map (·.size) = some (cellsOf64 L).length := sizeW25.trans (congrArg some (st_len hL).symm)
theorem w_result {fn : Func} {p : Tmp} {w : World} {tmps : Array Value} {b : Nat} {L : List Nat} (hL : Lanes L) (h : fn.results = #[.cell p 30]) (hp : tmps.getD p undef = .pointer (some ⟨b, 0, none⟩)) (hr : Hid (w.rangeAt b 0 (cellsOf64 L))) :
    (results fn tmps).run Tryd.prog w = .ok (st L) w :=
  results_cell1 h ⟨b, 0, none⟩ _ hp (run_loadVar_mid _ b 0 30 (cellsOf64 L) _ hr.out Tryd.underlying30 rfl (w_size hL))
theorem z25_size : (Tryd.prog.info? 30).map (·.size) = some (#[.int .u64 0, .int .u64 0, .int .u64 0, .int .u64 0, .int .u64 0, .int .u64 0, .int .u64 0, .int .u64 0, .int .u64 0, .int .u64 0, .int .u64 0, .int .u64 0, .int .u64 0, .int .u64 0, .int .u64 0, .int .u64 0, .int .u64 0, .int .u64 0, .int .u64 0, .int .u64 0, .int .u64 0, .int .u64 0, .int .u64 0, .int .u64 0, .int .u64 0] : Array Value).size := by kernel_rfl
theorem z25_all : (#[.int .u64 0, .int .u64 0, .int .u64 0, .int .u64 0, .int .u64 0, .int .u64 0, .int .u64 0, .int .u64 0, .int .u64 0, .int .u64 0, .int .u64 0, .int .u64 0, .int .u64 0, .int .u64 0, .int .u64 0, .int .u64 0, .int .u64 0, .int .u64 0, .int .u64 0, .int .u64 0, .int .u64 0, .int .u64 0, .int .u64 0, .int .u64 0, .int .u64 0] : Array Value).all (·.oneCell') = true := by simp [Value.oneCell']
theorem z25_list : cellsOf64 l0 = [.int .u64 0, .int .u64 0, .int .u64 0, .int .u64 0, .int .u64 0, .int .u64 0, .int .u64 0, .int .u64 0, .int .u64 0, .int .u64 0, .int .u64 0, .int .u64 0, .int .u64 0, .int .u64 0, .int .u64 0, .int .u64 0, .int .u64 0, .int .u64 0, .int .u64 0, .int .u64 0, .int .u64 0, .int .u64 0, .int .u64 0, .int .u64 0, .int .u64 0] := rfl
theorem z25_there {w : World} {r : Nat} {t : TypeId} (h : BlkW w r t l0) : w.there r 0 (#[.int .u64 0, .int .u64 0, .int .u64 0, .int .u64 0, .int .u64 0, .int .u64 0, .int .u64 0, .int .u64 0, .int .u64 0, .int .u64 0, .int .u64 0, .int .u64 0, .int .u64 0, .int .u64 0, .int .u64 0, .int .u64 0, .int .u64 0, .int .u64 0, .int .u64 0, .int .u64 0, .int .u64 0, .int .u64 0, .int .u64 0, .int .u64 0, .int .u64 0] : Array Value).size := h.there
end Go.Proofs.YteogjnendkbjcaaDoor
