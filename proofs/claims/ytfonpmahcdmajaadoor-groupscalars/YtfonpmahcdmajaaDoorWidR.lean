/-
  avouchref04.P, Q, fold: what each call does, by the numbers that digits are (Dg).
-/
import Derived.Test.YtfonpmahcdmajaaDoorWidG
import Derived.Test.YtfonpmahcdmajaaDoorRefE
import Derived.Test.YtfonpmahcdmajaaDoorRefF
import Derived.Test.YtfonpmahcdmajaaDoorLOpsB
namespace Go.Proofs.YtfonpmahcdmajaaDoor
open Go.RowKit
set_option linter.unusedVariables false

theorem Dg.lt {w : World} {v : Value} {X : Nat} (h : Dg w v X) : X < 4294967296 ^ bigE := by
  obtain ⟨A, c, l, rfl, h1, h2, h3, h4, h5, h6⟩ := h
  rw [← h6]
  exact Nat.lt_of_lt_of_le (val_lt 4294967296 (by decide) l h4) (Nat.pow_le_pow_right (by decide) h2)
theorem gAdd_c (u v : Value) (X Y : Nat) (w : World) (hu : Dg w u X) (hv : Dg w v Y) (hR : X + Y < 4294967296 ^ bigE) :
    Calls Tryd.prog 36 #[u, v] w fun e w' => ∃ r, e = .returned r ∧ Dg w' r (X + Y) ∧ Below w.heap.size w w' := by
  obtain ⟨A, c, l, rfl, h1, h2, h3, h4, h5, h6⟩ := hu
  obtain ⟨A', c', l', rfl, k1, k2, k3, k4, k5, k6⟩ := hv
  refine (refAdd_c A A' l.length l'.length c c' l l' w h3 k3 h4 k4 (by omega) (by omega)).mono ?_
  intro e w' h
  rw [h6, k6] at h
  exact Dg.of h hR
theorem gSub_c (u v : Value) (X Y : Nat) (w : World) (hu : Dg w u X) (hv : Dg w v Y) (hle : Y ≤ X) :
    Calls Tryd.prog 38 #[u, v] w fun e w' => ∃ r, e = .returned r ∧ Dg w' r (X - Y) ∧ Below w.heap.size w w' := by
  have hb := hu.lt
  obtain ⟨A, c, l, rfl, h1, h2, h3, h4, h5, h6⟩ := hu
  obtain ⟨A', c', l', rfl, k1, k2, k3, k4, k5, k6⟩ := hv
  refine (refSub_c A A' l.length l'.length c c' l l' w h3 k3 h4 k4 (by omega) (by rw [h6, k6]; exact hle)).mono ?_
  intro e w' h
  rw [h6, k6] at h
  exact Dg.of h (Nat.lt_of_le_of_lt (Nat.sub_le _ _) hb)
theorem gMul_c (u v : Value) (X Y : Nat) (w : World) (hu : Dg w u X) (hv : Dg w v Y) (hR : X * Y < 4294967296 ^ bigE) :
    Calls Tryd.prog 95 #[u, v] w fun e w' => ∃ r, e = .returned r ∧ Dg w' r (X * Y) ∧ Below w.heap.size w w' := by
  obtain ⟨A, c, l, rfl, h1, h2, h3, h4, h5, h6⟩ := hu
  obtain ⟨A', c', l', rfl, k1, k2, k3, k4, k5, k6⟩ := hv
  refine (refMul_c A A' l.length l'.length c c' l l' w h3 k3 h4 k4 (by omega) (by omega)).mono ?_
  intro e w' h
  rw [h6, k6] at h
  exact Dg.of h hR
theorem gCmp_c (u v : Value) (X Y : Nat) (w : World) (hu : Dg w u X) (hv : Dg w v Y) :
    Calls Tryd.prog 65 #[u, v] w fun e w' => e = .returned (.int .i64 (cmpN X Y)) ∧ w = w' := by
  obtain ⟨A, c, l, rfl, h1, h2, h3, h4, h5, h6⟩ := hu
  obtain ⟨A', c', l', rfl, k1, k2, k3, k4, k5, k6⟩ := hv
  refine (refCmp_c A A' l.length l'.length c c' l l' w _ h3 k3 h4 k4 (by omega) (by omega)).mono ?_
  rintro e w' ⟨rfl, rfl⟩
  rw [h6, k6]
  exact ⟨rfl, rfl⟩

/-- The number that a slice's digits are, read off memory: a loop's measure. -/
def cellN (w : World) (b off i : Nat) : Nat := match w.cell? ⟨b, off + i, none⟩ with | some (.int _ z) => z.toNat | _ => 0
def mval (w : World) : Value → Nat
  | .slice (some a) n _ => val 4294967296 ((List.range n).map fun i => cellN w a.block a.off i)
  | _ => 0
theorem Dg.mval {w : World} {v : Value} {X : Nat} (h : Dg w v X) : mval w v = X := by
  obtain ⟨A, c, l, rfl, h1, h2, h3, h4, h5, h6⟩ := h
  rcases Nat.eq_zero_or_pos l.length with h0 | h0
  · have : l = [] := List.eq_nil_of_length_eq_zero h0
    subst this
    rw [← h6]
    cases A <;> rfl
  · obtain ⟨b, off, rfl, hb, hc⟩ := h3.cells h0
    rw [← h6]
    show val 4294967296 ((List.range l.length).map fun i => cellN w b off i) = val 4294967296 l
    congr 1
    apply List.ext_getElem (by simp)
    intro i h7 h8
    simp only [List.getElem_map, List.getElem_range]
    unfold cellN
    rw [hc i h8]
    simp [at64, List.getD_eq_getElem?_getD, List.getElem?_eq_getElem h8]

def pW : List Nat := [4294967295, 4294967295, 2788832800, 4098638569, 1650360006, 3833967990, 1834074693, 1340159341, 4066317367, 808127085, 3443147547, 4019526067, 2385773789, 1363806329, 991140642, 34324134, 2322058356, 688016904, 2161908945, 3301335691, 560513588, 3373259426, 4294967295, 4294967295]
theorem pW_d : D32 pW := by intro x hx; simp only [pW, List.mem_cons, List.not_mem_nil, or_false] at hx; omega
theorem refP_c (w : World) : Calls Tryd.prog 59 #[] w fun e w' => ∃ r, e = .returned r ∧ Dg w' r bigP ∧ Below w.heap.size w w' := by
  have R : Hid (Dg (w.alloc (.cells (cellsOf64 pW).toArray 22)) (.slice (some ⟨w.heap.size, 0, none⟩) 24 24) bigP) := by
    have hB := BlkW.new64 w 22 pW (d32_all pW_d)
    exact ⟨some ⟨w.heap.size, 0, none⟩, 24, pW, rfl, by decide, by decide, hB.rd0 hB.size rfl, pW_d, Or.inr (by decide), by decide⟩
  go_enter Tryd.func59, Tryd.ntmps59
  go_wp2
  go_ret
  exact ⟨_, rfl, R.out, (Below.refl _ _).alloc (Nat.le_refl _) _⟩
theorem refP_l (w : World) : Calls Tryd.prog 59 #[] w fun e w' => ∃ b, e = .returned (.slice (some ⟨b, 0, none⟩) 24 24) ∧ Rd w' w'.heap.size (some ⟨b, 0, none⟩) 24 pW ∧ Below w.heap.size w w' := by
  have R : Hid (Rd (w.alloc (.cells (cellsOf64 pW).toArray 22)) (w.alloc (.cells (cellsOf64 pW).toArray 22)).heap.size (some ⟨w.heap.size, 0, none⟩) 24 pW) := by
    have hB := BlkW.new64 w 22 pW (d32_all pW_d)
    exact hB.rd0 hB.size rfl
  go_enter Tryd.func59, Tryd.ntmps59
  go_wp2
  go_ret
  exact ⟨_, rfl, R.out, (Below.refl _ _).alloc (Nat.le_refl _) _⟩

def qW : List Nat := [4294967295, 2147483647, 3541900048, 2049319284, 825180003, 4064467643, 3064520994, 2817563318, 4180642331, 2551547190, 3869057421, 4157246681, 3340370542, 681903164, 495570321, 17162067, 1161029178, 2491492100, 3228438120, 1650667845, 280256794, 3834113361, 4294967295, 2147483647]
theorem qW_d : D32 qW := by intro x hx; simp only [qW, List.mem_cons, List.not_mem_nil, or_false] at hx; omega
theorem q_word (k : Nat) (h : k < 24) : at64 pW k / 2 + (if k < 23 then at64 pW (k + 1) % 2 else 0) * 2147483648 = ((qW.getD k 0 : Nat) : Int) := by
  have key : ∀ k : Fin 24, at64 pW k.val / 2 + (if k.val < 23 then at64 pW (k.val + 1) % 2 else 0) * 2147483648 = ((qW.getD k.val 0 : Nat) : Int) := by decide +kernel
  exact key ⟨k, h⟩
theorem qW_take (k : Nat) (h : k < 24) : qW.take k ++ [qW.getD k 0] = qW.take (k + 1) := by
  rw [List.take_succ_eq_append_getElem (show k < qW.length from h)]
  simp [List.getD_eq_getElem?_getD, List.getElem?_eq_getElem (show k < qW.length from h)]

set_option maxRecDepth 20000 in
set_option maxHeartbeats 1000000 in
theorem refQ_c (w : World) : Calls Tryd.prog 39 #[] w fun e w' => ∃ r, e = .returned r ∧ Dg w' r bigQ ∧ Below w.heap.size w w' := by
  have hmk := make64I 0 24 (Nat.zero_le _) (by omega) 0 24 rfl rfl
  go_enter Tryd.func39, Tryd.ntmps39
  go_wp2_with fail
  refine (refP_l w).mono ?_
  rintro e w1 ⟨b, rfl, r1, b1⟩
  go_wp2_with fail
  clear hmk
  go_loopw [2, 3] (fun v i wr => ∃ k : Nat, k ≤ 24 ∧ i = .int .i64 k ∧ OwnW wr w1.heap.size v (qW.take k) ∧ Below w1.heap.size w1 wr) (fun _ i _ => 24 - (intOf i).toNat)
  case atStart => exact ⟨0, by omega, rfl, own_made w1 24 (by omega), (Below.refl _ _).alloc (Nat.le_refl _) _⟩
  case round =>
    obtain ⟨k, hk, rfl, hown, hbl⟩ := hrel
    have ra := r1.below hbl (Nat.le_refl _)
    have hsz := hbl.size
    have hl' : (qW.take k).length ≤ 100000 := by simp; omega
    by_cases hlt : k < 24
    · obtain ⟨b', o', e', hb', c0⟩ := ra.at_ hlt
      injection e' with e'
      injection e' with e1 e2
      subst e1 e2
      rw [Nat.zero_add] at c0
      have x0 := at64_nonneg pW k
      have hi0 : (0 : Int) ≤ (k : Int) := by omega
      have hi1 : (k : Int) < 24 := by omega
      have hx := getD_lt _ (by decide) qW qW_d k
      have HX := hid hx
      have HW := hid (q_word k hlt)
      have HT := hid (qW_take k hlt)
      clear hx
      have R : ∀ (v' : Value) (w' : World), OwnW w' w1.heap.size v' (qW.take k ++ [qW.getD k 0]) → Below w1.heap.size wr w' → OwnW w' w1.heap.size v' (qW.take (k + 1)) ∧ Below w1.heap.size w1 w' := fun v' w' h1 h2 => by
        rw [HT.out] at h1
        exact ⟨h1, hbl.trans h2⟩
      by_cases h23 : k < 23
      · obtain ⟨b', o', e', hb', c1⟩ := ra.at_ (k := k + 1) (by omega)
        injection e' with e'
        injection e' with e1 e2
        subst e1 e2
        rw [Nat.zero_add] at c1
        have x1 := at64_nonneg pW (k + 1)
        have hi2 : (k : Int) < 23 := by omega
        have hi3 : IntKind.i64.wrap ((k : Int) + 1) = (k : Int) + 1 := by rw [IntKind.wrap_i64]; omega
        have hi4 : (0 : Int) ≤ (k : Int) + 1 := by omega
        have hi5 : (k : Int) + 1 < 24 := by omega
        have hi6 : ((k : Int) + 1).toNat = k + 1 := by omega
        have HV : Hid (IntKind.u64.wrap (IntKind.u64.wrap ((at64 pW k).tdiv 2) + at64 pW (k + 1) % 2 * 2147483648) = ((qW.getD k 0 : Nat) : Int)) := by
          have h := HW.out
          rw [if_pos h23] at h
          have h1 := at64_lt (d32_all pW_d) k
          show _ = _
          rw [Int.tdiv_eq_ediv_of_nonneg x0, IntKind.wrap_u64, IntKind.wrap_u64, ← h]
          omega
        go_wp2_with (at_builtin; refine append_word rfl (.tmp 19) (.tmp 28) rfl w1.heap.size u2 (qW.take k) rfl hown _ (qW.getD k 0) HV.out (Nat.lt_trans HX.out (by decide)) rfl hl' hsz ?_)
        intro v' w' h1 h2
        obtain ⟨h3, h4⟩ := R v' w' h1 h2
        clear h1 h2
        go_wp2
        go_roundw
        case rel => exact ⟨k + 1, by omega, by go_num, h3, h4⟩
        case measure => simp [intOf]; omega
      · have hi2 : decide ((k : Int) < 23) = false := by simp; omega
        have HV : Hid (IntKind.u64.wrap (IntKind.u64.wrap ((at64 pW k).tdiv 2)) = ((qW.getD k 0 : Nat) : Int)) := by
          have h := HW.out
          rw [if_neg h23] at h
          have h1 := at64_lt (d32_all pW_d) k
          show _ = _
          rw [Int.tdiv_eq_ediv_of_nonneg x0, IntKind.wrap_u64, IntKind.wrap_u64, ← h]
          omega
        have HV2 : Hid (IntKind.u64.wrap (IntKind.u64.wrap ((at64 pW k).tdiv 2) + 0) = ((qW.getD k 0 : Nat) : Int)) := by
          show _ = _
          rw [Int.add_zero]; exact HV.out
        have HV3 : Hid (IntKind.u64.wrap ((at64 pW k).tdiv 2) = ((qW.getD k 0 : Nat) : Int)) := by
          have h := HW.out
          rw [if_neg h23] at h
          have h1 := at64_lt (d32_all pW_d) k
          show _ = _
          rw [Int.tdiv_eq_ediv_of_nonneg x0, IntKind.wrap_u64, ← h]
          omega
        go_wp2_with (at_builtin; refine append_word rfl (.tmp 19) (.tmp 28) rfl w1.heap.size u2 (qW.take k) rfl hown _ (qW.getD k 0) (by first | exact HV.out | exact HV2.out | exact HV3.out) (Nat.lt_trans HX.out (by decide)) rfl hl' hsz ?_)
        intro v' w' h1 h2
        obtain ⟨h3, h4⟩ := R v' w' h1 h2
        clear h1 h2
        go_wp2
        go_roundw
        case rel => exact ⟨k + 1, by omega, by go_num, h3, h4⟩
        case measure => simp [intOf]; omega
    · obtain rfl : k = 24 := by omega
      obtain ⟨A, c, rfl, hc, rr⟩ := hown.rd
      have RR : Hid (Dg wr (.slice A (qW.take 24).length c) bigQ) := ⟨A, c, qW.take 24, rfl, hc, by decide, rr, (by intro x hx; exact qW_d x (List.mem_of_mem_take hx)), Or.inr (by decide), by decide⟩
      clear ra rr hown
      go_wp2
      go_ret
      exact ⟨_, rfl, RR.out, bchain b1 hbl⟩
end Go.Proofs.YtfonpmahcdmajaaDoor
