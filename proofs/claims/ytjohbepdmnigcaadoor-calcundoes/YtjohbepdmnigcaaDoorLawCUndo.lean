/-
  avouchlaw03.CalcUndoes: the walk.
-/
import Derived.Test.YtjohbepdmnigcaaDoorCalL
import Derived.Test.YtjohbepdmnigcaaDoorCalJ
namespace Go.Proofs.YtjohbepdmnigcaaDoor
open Go.RowKit
set_option linter.unusedVariables false

/-- What CalcUndoes keeps: its elements, its table of lists of steps. -/
structure EnvU (w0 wr : World) (va : Value) (xs : List Nat) (tb : Nat) (LL : List (List St)) : Prop where
  p : Pile wr w0.heap.size va xs
  sz : tb < wr.heap.size
  t : ∀ i, i < 6 → ∃ b, wr.cell? ⟨tb, i, none⟩ = some (.slice (some ⟨b, 0, none⟩) (LL.getD i []).length (LL.getD i []).length) ∧ RdS wr wr.heap.size (some ⟨b, 0, none⟩) (LL.getD i []).length (LL.getD i [])
  b : Below w0.heap.size w0 wr
theorem EnvU.up {w0 wr w' : World} {va : Value} {xs : List Nat} {tb : Nat} {LL : List (List St)} (h : EnvU w0 wr va xs tb LL) (hb : Below wr.heap.size wr w') : EnvU w0 w' va xs tb LL :=
  ⟨h.p.below hb, Nat.lt_of_lt_of_le h.sz hb.size, fun i hi => by
    obtain ⟨b, h1, h2⟩ := h.t i hi
    exact ⟨b, (hb.cell (p := ⟨tb, i, none⟩) h.sz).trans h1, h2.up hb (Nat.le_refl _)⟩, h.b.trans (hb.mono h.b.size)⟩

theorem Pile.cells {w : World} {b g n cap : Nat} {xs : List Nat} (h : Pile w b (.slice (some ⟨g, 0, none⟩) n cap) xs) (i : Nat) (hi : i < xs.length) : ∃ r0 r1 r2 r3 : Int, El (w4 r0 r1 r2 r3) (xs.getD i 0) ∧
      w.cell? ⟨g, i * 4, none⟩ = some (.int .u64 r0) ∧ w.cell? ⟨g, i * 4 + 1, none⟩ = some (.int .u64 r1) ∧ w.cell? ⟨g, i * 4 + 2, none⟩ = some (.int .u64 r2) ∧ w.cell? ⟨g, i * 4 + 3, none⟩ = some (.int .u64 r3) := by
  obtain ⟨g', cap', hv, _, _, _, _, _, h'⟩ := h.at_ i hi
  injection hv with e1 _ _
  injection e1 with e1
  injection e1 with e1
  subst e1
  exact h'
theorem lit_step {w w' : World} {B : Nat} (L : List St) (cs : Array Value) (hcs : cs.toList = flatS L) (hl : L.length ≤ 1000) (hlt : ∀ s ∈ L, s.2 < 18446744073709551616) (hB : B = w.heap.size) (hb : Below (w.alloc (.cells cs 46)).heap.size (w.alloc (.cells cs 46)) w') :
    RdS w' w'.heap.size (some ⟨B, 0, none⟩) L.length L := by
  subst hB
  obtain ⟨A, c, e, _, _, h⟩ := (OwnS.lit w 0 L cs hcs (Nat.zero_le _) hl hlt).rd
  injection e with e1 _ _
  subst e1
  exact h.up hb (Nat.le_refl _)
theorem undo_env {w0 w2 : World} {va : Value} {xs : List Nat} (v q n : Nat) (hP : Pile w2 w0.heap.size va xs) (hb : Below w0.heap.size w0 w2) (hq : q = v % n) (hv : v < 18446744073709551616) (hql : q < 18446744073709551616) :
    EnvU w0 (((((((w2.alloc (.cells #[.int .i64 4, .int .u64 0, .int .i64 4, .int .u64 0] 46)).alloc (.cells #[.int .i64 8, .int .u64 0, .int .i64 8, .int .u64 0] 46)).alloc (.cells #[.int .i64 7, .int .u64 (q : Int), .int .i64 9, .int .u64 0] 46)).alloc (.cells #[.int .i64 0, .int .u64 (v : Int), .int .i64 1, .int .u64 0, .int .i64 0, .int .u64 (v : Int), .int .i64 2, .int .u64 0] 46)).alloc (.cells #[.int .i64 6, .int .u64 0, .int .i64 6, .int .u64 0] 46)).alloc (.cells #[.int .i64 7, .int .u64 0, .int .i64 7, .int .u64 1, .int .i64 10, .int .u64 0, .int .i64 0, .int .u64 1, .int .i64 2, .int .u64 0, .int .i64 1, .int .u64 0] 46)).alloc (.cells #[.slice (some ⟨w2.heap.size, 0, none⟩) 2 2, .slice (some ⟨w2.heap.size + 1, 0, none⟩) 2 2, .slice (some ⟨w2.heap.size + 1 + 1, 0, none⟩) 2 2, .slice (some ⟨w2.heap.size + 1 + 1 + 1, 0, none⟩) 4 4, .slice (some ⟨w2.heap.size + 1 + 1 + 1 + 1, 0, none⟩) 2 2, .slice (some ⟨w2.heap.size + 1 + 1 + 1 + 1 + 1, 0, none⟩) 6 6] 32)) va xs (w2.heap.size + 1 + 1 + 1 + 1 + 1 + 1) (undoL v n) := by
  obtain ⟨w3, e3⟩ : ∃ x, x = w2.alloc (.cells #[.int .i64 4, .int .u64 0, .int .i64 4, .int .u64 0] 46) := ⟨_, rfl⟩
  rw [← e3]
  have s3 : w3.heap.size = w2.heap.size + 1 := by rw [e3]; simp
  have b3 : Below w2.heap.size w2 w3 := by rw [e3]; exact (Below.refl _ _).alloc (Nat.le_refl _) _
  obtain ⟨w4, e4⟩ : ∃ x, x = w3.alloc (.cells #[.int .i64 8, .int .u64 0, .int .i64 8, .int .u64 0] 46) := ⟨_, rfl⟩
  rw [← e4]
  have s4 : w4.heap.size = w3.heap.size + 1 := by rw [e4]; simp
  have b4 : Below w3.heap.size w3 w4 := by rw [e4]; exact (Below.refl _ _).alloc (Nat.le_refl _) _
  obtain ⟨w5, e5⟩ : ∃ x, x = w4.alloc (.cells #[.int .i64 7, .int .u64 (q : Int), .int .i64 9, .int .u64 0] 46) := ⟨_, rfl⟩
  rw [← e5]
  have s5 : w5.heap.size = w4.heap.size + 1 := by rw [e5]; simp
  have b5 : Below w4.heap.size w4 w5 := by rw [e5]; exact (Below.refl _ _).alloc (Nat.le_refl _) _
  obtain ⟨w6, e6⟩ : ∃ x, x = w5.alloc (.cells #[.int .i64 0, .int .u64 (v : Int), .int .i64 1, .int .u64 0, .int .i64 0, .int .u64 (v : Int), .int .i64 2, .int .u64 0] 46) := ⟨_, rfl⟩
  rw [← e6]
  have s6 : w6.heap.size = w5.heap.size + 1 := by rw [e6]; simp
  have b6 : Below w5.heap.size w5 w6 := by rw [e6]; exact (Below.refl _ _).alloc (Nat.le_refl _) _
  obtain ⟨w7, e7⟩ : ∃ x, x = w6.alloc (.cells #[.int .i64 6, .int .u64 0, .int .i64 6, .int .u64 0] 46) := ⟨_, rfl⟩
  rw [← e7]
  have s7 : w7.heap.size = w6.heap.size + 1 := by rw [e7]; simp
  have b7 : Below w6.heap.size w6 w7 := by rw [e7]; exact (Below.refl _ _).alloc (Nat.le_refl _) _
  obtain ⟨w8, e8⟩ : ∃ x, x = w7.alloc (.cells #[.int .i64 7, .int .u64 0, .int .i64 7, .int .u64 1, .int .i64 10, .int .u64 0, .int .i64 0, .int .u64 1, .int .i64 2, .int .u64 0, .int .i64 1, .int .u64 0] 46) := ⟨_, rfl⟩
  rw [← e8]
  have s8 : w8.heap.size = w7.heap.size + 1 := by rw [e8]; simp
  have b8 : Below w7.heap.size w7 w8 := by rw [e8]; exact (Below.refl _ _).alloc (Nat.le_refl _) _
  obtain ⟨w9, e9⟩ : ∃ x, x = w8.alloc (.cells #[.slice (some ⟨w2.heap.size, 0, none⟩) 2 2, .slice (some ⟨w2.heap.size + 1, 0, none⟩) 2 2, .slice (some ⟨w2.heap.size + 1 + 1, 0, none⟩) 2 2, .slice (some ⟨w2.heap.size + 1 + 1 + 1, 0, none⟩) 4 4, .slice (some ⟨w2.heap.size + 1 + 1 + 1 + 1, 0, none⟩) 2 2, .slice (some ⟨w2.heap.size + 1 + 1 + 1 + 1 + 1, 0, none⟩) 6 6] 32) := ⟨_, rfl⟩
  rw [← e9]
  have b9 : Below w8.heap.size w8 w9 := by rw [e9]; exact (Below.refl _ _).alloc (Nat.le_refl _) _
  have c8 := b9
  have c7 := b8.trans (c8.mono b8.size)
  have c6 := b7.trans (c7.mono b7.size)
  have c5 := b6.trans (c6.mono b6.size)
  have c4 := b5.trans (c5.mono b5.size)
  have c3 := b4.trans (c4.mono b4.size)
  have c2 := b3.trans (c3.mono b3.size)
  have hcell : ∀ i, w9.cell? ⟨w2.heap.size + 1 + 1 + 1 + 1 + 1 + 1, i, none⟩ = (#[.slice (some ⟨w2.heap.size, 0, none⟩) 2 2, .slice (some ⟨w2.heap.size + 1, 0, none⟩) 2 2, .slice (some ⟨w2.heap.size + 1 + 1, 0, none⟩) 2 2, .slice (some ⟨w2.heap.size + 1 + 1 + 1, 0, none⟩) 4 4, .slice (some ⟨w2.heap.size + 1 + 1 + 1 + 1, 0, none⟩) 2 2, .slice (some ⟨w2.heap.size + 1 + 1 + 1 + 1 + 1, 0, none⟩) 6 6] : Array Value)[i]? := by
    intro i
    have h8 : w2.heap.size + 1 + 1 + 1 + 1 + 1 + 1 = w8.heap.size := by omega
    rw [h8, e9]
    exact cell_of_row _ _ i _ _ (0, 0) (heap_alloc_new w8 _)
  refine ⟨hP.below c2, by have := c8.size; have : w9.heap.size = w8.heap.size + 1 := by { rw [e9]; simp }; omega, fun i hi => ?_, hb.trans (c2.mono hb.size)⟩
  subst hq
  match i, hi with
  | 0, _ => exact ⟨_, hcell 0, lit_step (w := w2) [(4, 0), (4, 0)] #[.int .i64 4, .int .u64 0, .int .i64 4, .int .u64 0] rfl (by simp) (by simp; try decide) (by omega) (by rw [← e3]; exact c3)⟩
  | 1, _ => exact ⟨_, hcell 1, lit_step (w := w3) [(8, 0), (8, 0)] #[.int .i64 8, .int .u64 0, .int .i64 8, .int .u64 0] rfl (by simp) (by simp; try decide) (by omega) (by rw [← e4]; exact c4)⟩
  | 2, _ => exact ⟨_, hcell 2, lit_step (w := w4) [(7, v % n), (9, 0)] #[.int .i64 7, .int .u64 ((v % n : Nat) : Int), .int .i64 9, .int .u64 0] rfl (by simp) (by simp; omega) (by omega) (by rw [← e5]; exact c5)⟩
  | 3, _ => exact ⟨_, hcell 3, lit_step (w := w5) [(0, v), (1, 0), (0, v), (2, 0)] #[.int .i64 0, .int .u64 (v : Int), .int .i64 1, .int .u64 0, .int .i64 0, .int .u64 (v : Int), .int .i64 2, .int .u64 0] rfl (by simp) (by simp; omega) (by omega) (by rw [← e6]; exact c6)⟩
  | 4, _ => exact ⟨_, hcell 4, lit_step (w := w6) [(6, 0), (6, 0)] #[.int .i64 6, .int .u64 0, .int .i64 6, .int .u64 0] rfl (by simp) (by simp; try decide) (by omega) (by rw [← e7]; exact c7)⟩
  | 5, _ => exact ⟨_, hcell 5, lit_step (w := w7) [(7, 0), (7, 1), (10, 0), (0, 1), (2, 0), (1, 0)] #[.int .i64 7, .int .u64 0, .int .i64 7, .int .u64 1, .int .i64 10, .int .u64 0, .int .i64 0, .int .u64 1, .int .i64 2, .int .u64 0, .int .i64 1, .int .u64 0] rfl (by simp) (by simp; try decide) (by omega) (by rw [← e8]; exact c8)⟩
  | i + 6, h => omega

set_option maxRecDepth 100000 in
set_option maxHeartbeats 8000000 in
theorem calcUndoes_w (A0 : Option Addr) (n0 c0 : Nat) (l : List Nat) (v : Nat) (w : World) (r0 : Rd w w.heap.size A0 n0 l) (hv : v < 18446744073709551616) (hG : Gc w.heap.size w) :
    Calls Tryd.prog 5 #[.slice A0 n0 c0, .int .u64 (v : Int)] w fun e w' => e = .returned (.bool true) ∧ Below w.heap.size w w' := by
  by_cases g0 : 2 ≤ n0 ∧ n0 ≤ 60
  · obtain ⟨g1, g2⟩ := g0
    obtain ⟨q, hq⟩ : ∃ q, q = v % n0 := ⟨_, rfl⟩
    have x1 : IntKind.u64.wrap (n0 : Int) = (n0 : Int) := by rw [IntKind.wrap_u64]; omega
    have x2 : (v : Int).tmod (n0 : Int) = (q : Int) := by rw [Int.tmod_eq_emod_of_nonneg (by omega), hq]; rfl
    have x3 : ((n0 : Int) == 0) = false := by simp; omega
    have x4 : (n0 : Int) ≠ 0 := by omega
    have HQ := hid hq
    clear hq
    go_enter Tryd.func5, Tryd.ntmps5
    go_wp2_with fail
    refine (speaks3_c w hG).mono ?_
    rintro e w1 ⟨rfl, hb1⟩
    have hG1 := (hG.below hb1).more hb1.size
    have r1 := r0.up hb1 (Nat.le_refl _)
    go_wp2_with fail
    refine (first_c A0 n0 c0 l w1 r1 (by omega) hG1.g).mono ?_
    rintro e w2 ⟨va, vb, rfl, hP2, hD2, hb2⟩
    obtain ⟨ga, ca, hva, hca, hcm, -, -, -, -⟩ := hP2.at_ 0 (by rw [r0.len]; omega)
    rw [r0.len] at hva hca
    subst hva
    have hP := hP2.mono hb1.size
    have hb02 := hb1.trans (hb2.mono hb1.size)
    have hlen := r0.len
    have HLen := hid hlen
    have hql : q < 18446744073709551616 := by rw [HQ.out]; exact Nat.lt_of_le_of_lt (Nat.mod_le _ _) hv
    have hE0 := hid (undo_env v q n0 hP hb02 HQ.out hv hql)
    clear hD2 r1 hP2 hb2 hb1 hG1 hP hb02 hlen
    go_wp2
    obtain ⟨W, hW⟩ : ∃ W, W = (((((((w2.alloc (.cells #[.int .i64 4, .int .u64 0, .int .i64 4, .int .u64 0] 46)).alloc (.cells #[.int .i64 8, .int .u64 0, .int .i64 8, .int .u64 0] 46)).alloc (.cells #[.int .i64 7, .int .u64 (q : Int), .int .i64 9, .int .u64 0] 46)).alloc (.cells #[.int .i64 0, .int .u64 (v : Int), .int .i64 1, .int .u64 0, .int .i64 0, .int .u64 (v : Int), .int .i64 2, .int .u64 0] 46)).alloc (.cells #[.int .i64 6, .int .u64 0, .int .i64 6, .int .u64 0] 46)).alloc (.cells #[.int .i64 7, .int .u64 0, .int .i64 7, .int .u64 1, .int .i64 10, .int .u64 0, .int .i64 0, .int .u64 1, .int .i64 2, .int .u64 0, .int .i64 1, .int .u64 0] 46)).alloc (.cells #[.slice (some ⟨w2.heap.size, 0, none⟩) 2 2, .slice (some ⟨w2.heap.size + 1, 0, none⟩) 2 2, .slice (some ⟨w2.heap.size + 1 + 1, 0, none⟩) 2 2, .slice (some ⟨w2.heap.size + 1 + 1 + 1, 0, none⟩) 4 4, .slice (some ⟨w2.heap.size + 1 + 1 + 1 + 1, 0, none⟩) 2 2, .slice (some ⟨w2.heap.size + 1 + 1 + 1 + 1 + 1, 0, none⟩) 6 6] 32)) := ⟨_, rfl⟩
    rw [← hW] at hE0 ⊢
    obtain ⟨tb, htb⟩ : ∃ x, x = w2.heap.size + 1 + 1 + 1 + 1 + 1 + 1 := ⟨_, rfl⟩
    rw [← htb] at hE0 ⊢
    have hE := hE0.out
    clear hE0 hW htb
    go_loopw [64] (fun i wr => ∃ (k : Nat), k ≤ 6 ∧ i = .int .i64 k ∧ EnvU w wr (.slice (some ⟨ga, 0, none⟩) n0 ca) l tb (undoL v n0)) (fun i _ => 6 - (intOf i).toNat)
    case atStart => exact ⟨0, by omega, rfl, hE⟩
    case round =>
      obtain ⟨k, hk, rfl, hR⟩ := hrel
      by_cases hlt : k < 6
      · have k0 : (0 : Int) ≤ (k : Int) := by omega
        have k1 : (k : Int) < 6 := by omega
        obtain ⟨bk, hck, hSk⟩ := hR.t k hlt
        have hundo := undo_all l (by rw [HLen.out]; exact g1) (by rw [HLen.out]; exact g2) hR.p.el v (Nat.lt_trans hv (by decide)) k hlt
        rw [HLen.out] at hundo
        have hlk : ((undoL v n0).getD k []).length ≤ 100000 := by
          match k, hlt with
          | 0, _ => simp [undoL]
          | 1, _ => simp [undoL]
          | 2, _ => simp [undoL]
          | 3, _ => simp [undoL]
          | 4, _ => simp [undoL]
          | 5, _ => simp [undoL]
          | k + 6, h => omega
        generalize (undoL v n0).getD k [] = Lk at hck hSk hundo hlk
        obtain ⟨nk, hnk⟩ : ∃ x, x = Lk.length := ⟨_, rfl⟩
        rw [← hnk] at hck hSk hlk
        have hGr := (hG.below hR.b).more hR.b.size
        obtain ⟨A5, c5, hv5, -, -, hRE⟩ := hR.p.form
        rw [HLen.out] at hv5 hRE
        injection hv5 with e5 e6 e7
        subst e5 e7
        have HU := hid hundo
        have HSk := hid hSk
        have HGr := hid hGr
        have HRE := hid hRE
        have HRR := hid hR
        clear hE hnk hundo hSk hGr hRE hR x1 x2 x3 x4 hql hv e6
        go_wp2_with fail
        refine (run_c (some ⟨bk, 0, none⟩) (some ⟨ga, 0, none⟩) nk nk n0 ca Lk l wr HSk.out hlk HRE.out (by omega) HGr.out l (-1) 0 HU.out).mono ?_
        rintro e w4 ⟨v4, rfl, hP4, hb4⟩
        obtain ⟨g4, c4, hv4, hc4, -, -, -, -, -⟩ := hP4.at_ 0 (by rw [HLen.out]; omega)
        rw [HLen.out] at hv4 hc4
        subst hv4
        have hR4 := HRR.out.up hb4
        have hP5 := hP4.mono HRR.out.b.size
        clear hck HSk HU HGr HRE hP4 hb4 HRR
        go_wp2
        go_loopw [90] (fun i wr => ∃ (j : Nat), j ≤ n0 ∧ i = .int .i64 j ∧ EnvU w wr (.slice (some ⟨ga, 0, none⟩) n0 ca) l tb (undoL v n0) ∧ Pile wr w.heap.size (.slice (some ⟨g4, 0, none⟩) n0 c4) l) (fun i _ => n0 - (intOf i).toNat)
        case atStart => exact ⟨0, by omega, rfl, hR4, hP5⟩
        case round =>
          obtain ⟨j, hj, rfl, hRj, hPj⟩ := hrel
          by_cases hjl : j < n0
          · have j0 : (0 : Int) ≤ (j : Int) := by omega
            have j1 : (j : Int) < (n0 : Int) := by omega
            have hjx : j < l.length := by rw [HLen.out]; exact hjl
            obtain ⟨a0, a1, a2, a3, ea, ca0, ca1, ca2, ca3⟩ := hRj.p.cells j hjx
            obtain ⟨b0, b1, b2, b3, eb, cb0, cb1, cb2, cb3⟩ := hPj.cells j hjx
            have HEa := hid ea
            have HEb := hid eb
            have HRj := hid hRj
            have HPj := hid hPj
            clear ea eb hRj hPj hR4 hP5
            go_wp2_with fail
            go_region_with (
              (go_at_call 13
               refine (eequal_c _ _ _ _ _ HEb.out HEa.out).mono ?_
               rintro e w6 ⟨rfl, hb6⟩
               rw [decide_eq_true rfl]
               have hb7 : Below wr.heap.size wr w6 := Below.trans ((Below.refl _ wr).drew) hb6
               have HRk := hid (HRj.out.up hb7)
               have HPk := hid (HPj.out.below hb7)
               clear hb6 hb7))
            all_goals
              clear ca0 ca1 ca2 ca3 cb0 cb1 cb2 cb3 HEa HEb HRj HPj
              go_wp2
              go_roundw
              case rel => exact ⟨j + 1, by omega, by go_num, HRk.out, HPk.out⟩
              case measure => simp [intOf]; omega
          · have hjn : j = n0 := by omega
            subst hjn
            have HRj := hid hRj
            clear hRj hPj hR4 hP5
            go_wp2
            go_roundw
            case rel => exact ⟨k + 1, by omega, by go_num, HRj.out⟩
            case measure => simp [intOf]; omega
      · have hkn : k = 6 := by omega
        subst hkn
        have HB := hid hR.b
        clear hR hE
        go_wp2
        go_ret
        exact ⟨rfl, HB.out⟩
  · have hnot : decide ((n0 : Int) < 2) = true ∨ (decide ((n0 : Int) < 2) = false ∧ decide ((60 : Int) < (n0 : Int)) = true) := by
      by_cases h : 2 ≤ n0
      · exact Or.inr ⟨decide_eq_false (by omega), decide_eq_true (by omega)⟩
      · exact Or.inl (decide_eq_true (by omega))
    rcases hnot with d1 | ⟨d1, d2⟩
    all_goals
      go_enter Tryd.func5, Tryd.ntmps5
      go_wp2_with fail
      refine (speaks3_c w hG).mono ?_
      rintro e w1 ⟨rfl, hb1⟩
      have hG1 := (hG.below hb1).more hb1.size
      go_wp2_with fail
      refine (speaks3_c w1 hG1).mono ?_
      rintro e w2 ⟨rfl, hb2⟩
      have HB := hid (hb1.trans (hb2.mono hb1.size))
      clear hb1 hb2 hG1
      go_wp2
      go_ret
      exact ⟨rfl, HB.out⟩
end Go.Proofs.YtjohbepdmnigcaaDoor
