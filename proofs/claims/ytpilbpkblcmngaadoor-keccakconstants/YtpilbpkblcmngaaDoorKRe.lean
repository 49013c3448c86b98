/-
  Bits that are laid one after the other (fil), and what lies in memory meanwhile (BRel). Helpers for the walks of avouchref06.
-/
import Derived.Test.YtpilbpkblcmngaaDoorKRk
import Derived.StillTailTactics
namespace Go.Proofs.YtpilbpkblcmngaaDoor
open Go.RowKit
set_option linter.unusedVariables false

/-- The bits of g, as far as they are laid. -/
def fil (g : KB) (x y z : Nat) : KB := fun x' y' z' => if x' * 320 + y' * 64 + z' < x * 320 + y * 64 + z then g x' y' z' else false
theorem fil_set (g : KB) {x y z : Nat} (hx : x < 5) (hy : y < 5) (hz : z < 64) : KEq (kset (fil g x y z) x y z (g x y z)) (fil g x y (z + 1)) := fun x' y' z' hx' hy' hz' => by
  unfold kset
  split
  · next h =>
    obtain ⟨rfl, rfl, rfl⟩ := h
    unfold fil
    rw [if_pos (by omega)]
  · next h =>
    unfold fil
    by_cases c : x' * 320 + y' * 64 + z' < x * 320 + y * 64 + z
    · rw [if_pos c, if_pos (by omega)]
    · rw [if_neg c, if_neg (fun h' => h (by omega))]
theorem fil_y (g : KB) (x y : Nat) : KEq (fil g x y 64) (fil g x (y + 1) 0) := fun x' y' z' hx' hy' hz' => by
  unfold fil
  rw [show x * 320 + y * 64 + 64 = x * 320 + (y + 1) * 64 + 0 by omega]
theorem fil_x (g : KB) (x : Nat) : KEq (fil g x 5 0) (fil g (x + 1) 0 0) := fun x' y' z' hx' hy' hz' => by
  unfold fil
  rw [show x * 320 + 5 * 64 + 0 = (x + 1) * 320 + 0 * 64 + 0 by omega]
theorem fil_end (g : KB) : KEq (fil g 5 0 0) g := fun x' y' z' hx' hy' hz' => by
  unfold fil
  rw [if_pos (by omega)]
theorem fil_start (g : KB) : KEq kzero (fil g 0 0 0) := fun x' y' z' hx' hy' hz' => by
  unfold fil
  rw [if_neg (by omega)]
  rfl
structure BRel (w : World) (a c : KB) (wr : World) : Prop where
  o : BB wr (w.heap.size + 1 + 1) c
  z : BB wr (w.heap.size + 1) kzero
  s : BB wr w.heap.size a
  b : Below w.heap.size w wr
theorem BRel.eq {w : World} {a c d : KB} {wr : World} (h : BRel w a c wr) (e : KEq c d) : BRel w a d wr := ⟨h.o.eq e, h.z, h.s, h.b⟩
theorem BRel.set {w : World} {a c : KB} {wr : World} (h : BRel w a c wr) {x y z : Nat} (hx : x < 5) (hy : y < 5) (hz : z < 64) (v : Bool) : BRel w a (kset c x y z v) (wr.setCell ⟨w.heap.size + 1 + 1, x * 320 + y * 64 + z, none⟩ (.bool v)) :=
  ⟨h.o.setk hx hy hz v, h.z.other (by omega), h.s.other (by omega), h.b.setCell (by show w.heap.size ≤ w.heap.size + 1 + 1; omega) _⟩
theorem BRel.put {w : World} {a c : KB} {wr : World} (h : BRel w a c wr) {x y : Nat} (hx : x < 5) (hy : y < 5) (f : Nat → Bool) : BRel w a (klane c x y f) (wr.setCells (w.heap.size + 1 + 1) (x * 320 + y * 64) (bcell 64 f)) :=
  ⟨h.o.putL hx hy f, BlkV.put (by omega) _ _ _ h.z, BlkV.put (by omega) _ _ _ h.s, below_cells (by omega) _ _ _ h.b⟩
theorem BRel.drewN {w : World} {a c : KB} {wr : World} (h : BRel w a c wr) (n : Nat) : BRel w a c (wr.drewN n) := ⟨h.o.drewN n, h.z.drewN n, h.s.drewN n, below_drewN h.b n⟩
theorem BRel.start (w : World) (a : KB) : BRel w a kzero ((((w.alloc (oB a)).alloc (oB kzero)).alloc (oB kzero)).setCells (w.heap.size + 1 + 1) 0 (kcell kzero)) := by
  obtain ⟨h1, h2, h3, h4, h5⟩ := bootB w a
  exact ⟨h3, h2, h1, h4⟩
end Go.Proofs.YtpilbpkblcmngaaDoor
