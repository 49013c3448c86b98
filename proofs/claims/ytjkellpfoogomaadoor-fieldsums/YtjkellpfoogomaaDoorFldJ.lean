/-
  field.Sum: what the call does; slices of elements (RdE).
-/
import Derived.Test.YtjkellpfoogomaaDoorFldI
namespace Go.Proofs.YtjkellpfoogomaaDoor
open Go.RowKit
set_option linter.unusedVariables false

/-- The slice of n elements at A reads as the numbers xs, and lies below block B. -/
structure RdE (w : World) (B : Nat) (A : Option Addr) (n : Nat) (xs : List Nat) : Prop where
  len : xs.length = n
  cells : 0 < n → ∃ b off, A = some ⟨b, off, none⟩ ∧ b < B ∧ ∀ i, i < n → ∃ r0 r1 r2 r3 : Int, El (w4 r0 r1 r2 r3) (xs.getD i 0) ∧
    w.cell? ⟨b, off + i * 4, none⟩ = some (.int .u64 r0) ∧ w.cell? ⟨b, off + i * 4 + 1, none⟩ = some (.int .u64 r1) ∧ w.cell? ⟨b, off + i * 4 + 2, none⟩ = some (.int .u64 r2) ∧ w.cell? ⟨b, off + i * 4 + 3, none⟩ = some (.int .u64 r3)
theorem RdE.below {w w' : World} {B B' n : Nat} {A : Option Addr} {l : List Nat} (h : RdE w B A n l) (hb : Below B' w w') (hB : B ≤ B') : RdE w' B A n l :=
  ⟨h.len, fun hn => by
    obtain ⟨b, off, e, hbB, hc⟩ := h.cells hn
    have k : ∀ i, w'.cell? ⟨b, i, none⟩ = w.cell? ⟨b, i, none⟩ := fun i => hb.cell (p := ⟨b, i, none⟩) (Nat.lt_of_lt_of_le hbB hB)
    refine ⟨b, off, e, hbB, fun i hi => ?_⟩
    obtain ⟨r0, r1, r2, r3, h0, h1, h2, h3, h4⟩ := hc i hi
    exact ⟨r0, r1, r2, r3, h0, (k _).trans h1, (k _).trans h2, (k _).trans h3, (k _).trans h4⟩⟩
theorem RdE.more {w : World} {B B' n : Nat} {A : Option Addr} {l : List Nat} (h : RdE w B A n l) (hB : B ≤ B') : RdE w B' A n l :=
  ⟨h.len, fun hn => by
    obtain ⟨b, off, e, hb, hc⟩ := h.cells hn
    exact ⟨b, off, e, by omega, hc⟩⟩
theorem RdE.nil (w : World) (B : Nat) (A : Option Addr) : RdE w B A 0 [] := ⟨rfl, fun h => absurd h (by omega)⟩

/-- The sum of the first k numbers. -/
def psum (l : List Nat) : Nat → Nat
  | 0 => 0
  | k + 1 => psum l k + l.getD k 0
def SRel (w : World) (l : List Nat) (wr : World) (k : Nat) : Prop :=
  ∃ o0 o1 o2 o3 : Int, B4 wr w.heap.size 0 0 0 0 ∧ B4 wr (w.heap.size + 1) o0 o1 o2 o3 ∧ Below w.heap.size w wr ∧ El (w4 o0 o1 o2 o3) (psum l k % pN)

set_option maxRecDepth 20000 in
set_option maxHeartbeats 4000000 in
theorem sumE_c (A : Option Addr) (n c : Nat) (l : List Nat) (w : World) (ha : RdE w w.heap.size A n l) (hn : n ≤ 10000) (hG : Glob w) :
    Calls Tryd.prog 32 #[.slice A n c] w fun e w' => ∃ r, e = .returned r ∧ El r (psum l n % pN) ∧ Below w.heap.size w w' := by
  go_enter Tryd.func32, Tryd.ntmps32
  go_wp2
  go_loopw [8] (fun i wr => ∃ k : Nat, k ≤ n ∧ i = .int .i64 k ∧ SRel w l wr k) (fun i _ => n - (intOf i).toNat)
  case atStart =>
    refine ⟨0, by omega, rfl, 0, 0, 0, 0, ?_, ?_, ?_, ?_⟩
    · exact (o4_new w 27 0 0 0 0).alloc _
    · have h := o4_new (w.alloc (o4 27 0 0 0 0)) 27 0 0 0 0
      rw [show (w.alloc (o4 27 0 0 0 0)).heap.size = w.heap.size + 1 by simp] at h
      exact h
    · go_grown
    · exact El.zero
  case round =>
    obtain ⟨k, hk, rfl, o0, o1, o2, o3, hZ, hO, hl, hE⟩ := hrel
    have HE := hid hE
    have co0 := hO.c0
    have co1 := hO.c1
    have co2 := hO.c2
    have co3 := hO.c3
    clear hE
    by_cases hlt : k < n
    · obtain ⟨b, off, rfl, hbB, hc⟩ := ha.cells (by omega)
      obtain ⟨r0, r1, r2, r3, hx, h0, h1, h2, h3⟩ := hc k hlt
      have kk : ∀ i, wr.cell? ⟨b, i, none⟩ = w.cell? ⟨b, i, none⟩ := fun i => hl.cell (p := ⟨b, i, none⟩) hbB
      have h0 := (kk _).trans h0
      have h1 := (kk _).trans h1
      have h2 := (kk _).trans h2
      have h3 := (kk _).trans h3
      have HX := hid hx
      have k0 : (0 : Int) ≤ (k : Int) := by omega
      have k1 : (k : Int) < (n : Int) := by omega
      clear kk hx hc
      have hO1 := hO.alloc (o4 27 r0 r1 r2 r3)
      have hZ1 := hZ.alloc (o4 27 r0 r1 r2 r3)
      have hl1 := hl.alloc hl.size (o4 27 r0 r1 r2 r3)
      have hG1 := hG.up hl1
      clear co0 co1 co2 co3
      have co0 : (wr.alloc (.cells #[.int .u64 r0, .int .u64 r1, .int .u64 r2, .int .u64 r3] 27)).cell? ⟨w.heap.size + 1, 0, none⟩ = some (.int .u64 o0) := hO1.c0
      have co1 : (wr.alloc (.cells #[.int .u64 r0, .int .u64 r1, .int .u64 r2, .int .u64 r3] 27)).cell? ⟨w.heap.size + 1, 1, none⟩ = some (.int .u64 o1) := hO1.c1
      have co2 : (wr.alloc (.cells #[.int .u64 r0, .int .u64 r1, .int .u64 r2, .int .u64 r3] 27)).cell? ⟨w.heap.size + 1, 2, none⟩ = some (.int .u64 o2) := hO1.c2
      have co3 : (wr.alloc (.cells #[.int .u64 r0, .int .u64 r1, .int .u64 r2, .int .u64 r3] 27)).cell? ⟨w.heap.size + 1, 3, none⟩ = some (.int .u64 o3) := hO1.c3
      go_wp2_with fail
      refine (eadd_c _ _ _ _ _ HE.out HX.out hG1).mono ?_
      rintro e w2 ⟨r, rfl, hr, hb2⟩
      have HR : Hid (El r (psum l (k + 1) % pN)) := by
        rw [Nat.mod_add_mod] at hr
        exact hr
      obtain ⟨q0, q1, q2, q3, rfl, -, -, -⟩ := hr
      have hO2 := hO1.below hb2 hO1.size
      have hZ2 := hZ1.below hb2 hZ1.size
      have hl2 := hl1.trans (hb2.mono hl1.size)
      have cq0 := hO2.c0
      have cq1 := hO2.c1
      have cq2 := hO2.c2
      have cq3 := hO2.c3
      have fq := hO2.frozen
      have hO3 := hO2.all q0 q1 q2 q3
      have hZ3 := hZ2.others (c := w.heap.size + 1) (x0 := q0) (x1 := q1) (x2 := q2) (x3 := q3) (by omega)
      have hl3 := below_all (c := w.heap.size + 1) hl2 (by omega) q0 q1 q2 q3
      clear hO1 hZ1 hO hZ hO2 hZ2 hG1 hb2 co0 co1 co2 co3 h0 h1 h2 h3
      unfold w4
      go_wp2
      go_roundw
      case rel => exact ⟨k + 1, by omega, by go_num, q0, q1, q2, q3, hZ3, hO3, hl3, HR.out⟩
      case measure => simp [intOf]; omega
    · have : k = n := by omega
      subst this
      have cz0 := hZ.c0
      have cz1 := hZ.c1
      have cz2 := hZ.c2
      have cz3 := hZ.c3
      have fz := hZ.frozen
      clear hO hZ
      go_wp2
      refine bodyPost_ret (by simp [results, Tryd.results32, go_sem, cz0, cz1, cz2, cz3]; rfl) rfl ?_
      exact ⟨_, rfl, HE.out, below_all hl (by omega) _ _ _ _⟩
end Go.Proofs.YtjkellpfoogomaaDoor
