/-
  field.Sum: what the call does; slices of elements (RdE).
-/
import Derived.Test.YtjohbepdmnigcaaDoorFldI
namespace Go.Proofs.YtjohbepdmnigcaaDoor
open Go.RowKit
set_option linter.unusedVariables false

/-- The slice of n elements at A reads as the numbers xs, and lies below block B. -/
structure RdE (w : World) (B : Nat) (A : Option Addr) (n : Nat) (xs : List Nat) : Prop where
  len : xs.length = n
  cells : 0 < n → ∃ b off, A = some ⟨b, off, none⟩ ∧ b < B ∧ ∀ i, i < n → ∃ r0 r1 r2 r3 : Int, El (w4 r0 r1 r2 r3) (xs.getD i 0) ∧
    w.cell? ⟨b, off + i * 4, none⟩ = some (.int .u64 r0) ∧ w.cell? ⟨b, off + i * 4 + 1, none⟩ = some (.int .u64 r1) ∧ w.cell? ⟨b, off + i * 4 + 2, none⟩ = some (.int .u64 r2) ∧ w.cell? ⟨b, off + i * 4 + 3, none⟩ = some (.int .u64 r3)
theorem RdE.below {w w' : World} {B B' n : Nat} {A : Option Addr} {l : List Nat} (h : RdE w B A n l) (hb : Below B' w w') (hB : B ≤ B') : RdE w' B A n l :=
  ⟨h.len, fun hn => by
    obtain ⟨b, off, e, hbB, hc⟩ := h.cells hn
    have k : ∀ i, w'.cell? ⟨b, i, none⟩ = w.cell? ⟨b, i, none⟩ := fun i => hb.cell (p := ⟨b, i, none⟩) (Nat.lt_of_lt_of_le hbB hB)
    refine ⟨b, off, e, hbB, fun i hi => ?_⟩
    obtain ⟨r0, r1, r2, r3, h0, h1, h2, h3, h4⟩ := hc i hi
    exact ⟨r0, r1, r2, r3, h0, (k _).trans h1, (k _).trans h2, (k _).trans h3, (k _).trans h4⟩⟩
theorem RdE.more {w : World} {B B' n : Nat} {A : Option Addr} {l : List Nat} (h : RdE w B A n l) (hB : B ≤ B') : RdE w B' A n l :=
  ⟨h.len, fun hn => by
    obtain ⟨b, off, e, hb, hc⟩ := h.cells hn
    exact ⟨b, off, e, by omega, hc⟩⟩
theorem RdE.nil (w : World) (B : Nat) (A : Option Addr) : RdE w B A 0 [] := ⟨rfl, fun h => absurd h (by omega)⟩

/-- The sum of the first k numbers. -/
def psum (l : List Nat) : Nat → Nat
  | 0 => 0
  | k + 1 => psum l k + l.getD k 0
def SRel (w : World) (l : List Nat) (wr : World) (k : Nat) : Prop :=
  ∃ o0 o1 o2 o3 : Int, B4 wr w.heap.size 0 0 0 0 ∧ B4 wr (w.heap.size + 1) o0 o1 o2 o3 ∧ Below w.heap.size w wr ∧ El (w4 o0 o1 o2 o3) (psum l k % pN)

end Go.Proofs.YtjohbepdmnigcaaDoor
