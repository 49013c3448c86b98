/-
  avouchref06.chi: what the call does.
-/
import Derived.Test.YteogjnendkbjcaaDoorKRf
import Derived.Deep.RegionHeld3
namespace Go.Proofs.YteogjnendkbjcaaDoor
open Go.RowKit
set_option linter.unusedVariables false
set_option linter.unusedSimpArgs false

set_option maxRecDepth 20000 in
set_option maxHeartbeats 1000000 in
theorem chi6_c (a : KB) (w : World) :
    Calls Tryd.prog 33 #[bt a] w fun e w' => e = .returned (bt (kch a)) ∧ Below w.heap.size w w' := by
  have hst := (bootB w a).2.2.2.2
  have R0 := hid ((BRel.start w a).eq (fil_start (kch a)))
  have hla := kcell_len a
  have hlz := kcell_len kzero
  have hzB := zeroB
  obtain ⟨L, eL⟩ : ∃ L, L = kch a := ⟨_, rfl⟩
  have HLE := hid eL
  rw [← eL]
  clear eL
  unfold oB at hst R0
  rw [show bt a = .agg (kcell a).toArray from rfl]
  go_enter Tryd.func33, Tryd.ntmps33
  go_wp2_with fail
  clear hla hlz hzB hst
  generalize ((((w.alloc _).alloc _).alloc _).setCells _ _ _) = w0 at *
  rw [← HLE.out] at R0
  go_loopw [4] (fun i wr => ∃ x : Nat, x ≤ 5 ∧ i = .int .i64 x ∧ BRel w a (fil L x 0 0) wr) (fun i _ => 5 - (intOf i).toNat)
  case atStart => exact ⟨0, by omega, rfl, R0.out⟩
  case round =>
    clear R0
    obtain ⟨x, hx, rfl, hrel⟩ := hrel
    by_cases hltx : x < 5
    · have i2 : (x : Int) < 5 := by omega
      have HR := hid hrel
      obtain ⟨w1, hw1⟩ : ∃ v, v = wr := ⟨wr, rfl⟩
      rw [← hw1] at HR ⊢
      clear hrel hw1
      go_wp2_with fail
      go_loopw [5] (fun i wr => ∃ y : Nat, y ≤ 5 ∧ i = .int .i64 y ∧ BRel w a (fil L x y 0) wr) (fun i _ => 5 - (intOf i).toNat)
      case atStart => exact ⟨0, by omega, rfl, HR.out⟩
      case round =>
        clear HR
        obtain ⟨y, hy, rfl, hrel⟩ := hrel
        by_cases hlty : y < 5
        · have k2 : (y : Int) < 5 := by omega
          have HR := hid hrel
          obtain ⟨w2, hw2⟩ : ∃ v, v = wr := ⟨wr, rfl⟩
          rw [← hw2] at HR ⊢
          clear hrel hw2
          go_wp2_with fail
          go_loopw [6] (fun i wr => ∃ z : Nat, z ≤ 64 ∧ i = .int .i64 z ∧ BRel w a (fil L x y z) wr) (fun i _ => 64 - (intOf i).toNat)
          case atStart => exact ⟨0, by omega, rfl, HR.out⟩
          case round =>
            clear HR
            obtain ⟨z, hz, rfl, hrel⟩ := hrel
            by_cases hltz : z < 64
            · have j2 : (z : Int) < 64 := by omega
              obtain ⟨xa, hxa⟩ : ∃ n, n = x + 1 := ⟨_, rfl⟩
              obtain ⟨xb, hxb⟩ : ∃ n, n = x + 2 := ⟨_, rfl⟩
              obtain ⟨p, hp⟩ : ∃ n, n = xa % 5 := ⟨_, rfl⟩
              obtain ⟨q, hq⟩ : ∃ n, n = xb % 5 := ⟨_, rfl⟩
              have a1 : IntKind.i64.wrap ((x : Int) + 1) = (xa : Int) := by rw [IntKind.wrap_i64]; omega
              have a2 : IntKind.i64.wrap ((x : Int) + 2) = (xb : Int) := by rw [IntKind.wrap_i64]; omega
              have a3 : (xa : Int).tmod 5 = (p : Int) := by rw [hp, Int.tmod_eq_emod_of_nonneg (by omega)]; rfl
              have a4 : (xb : Int).tmod 5 = (q : Int) := by rw [hq, Int.tmod_eq_emod_of_nonneg (by omega)]; rfl
              have hp5 : p < 5 := by omega
              have hq5 : q < 5 := by omega
              have p5 : (p : Int) < 5 := by omega
              have q5 : (q : Int) < 5 := by omega
              have p0 : (0 : Int) ≤ (p : Int) := by omega
              have q0 : (0 : Int) ≤ (q : Int) := by omega
              have x0 : (0 : Int) ≤ (x : Int) := by omega
              have y0 : (0 : Int) ≤ (y : Int) := by omega
              have z0 : (0 : Int) ≤ (z : Int) := by omega
              have c0 := hrel.s.cellk hltx hlty hltz
              have c1 := hrel.s.cellk hp5 hlty hltz
              have c2 := hrel.s.cellk hq5 hlty hltz
              have c3 := hrel.o.cellk hltx hlty hltz
              have f3 := hrel.o.frozen (x * 320 + y * 64 + z)
              have hL : L x y z = (a x y z ^^ (!a p y z && a q y z)) := by
                rw [HLE.out]
                unfold kch
                rw [← hxa, ← hxb, ← hp, ← hq]
              clear hp hq hxa hxb
              cases hb : a p y z
              · rw [hb] at c1 hL
                have hv : (a x y z != a q y z) = L x y z := by
                  rw [hL]
                  cases a x y z <;> cases a q y z <;> rfl
                have HST := hid ((hrel.set hltx hlty hltz (a x y z != a q y z)).eq (d := fil L x y (z + 1)) (by rw [hv]; exact fil_set L hltx hlty hltz))
                clear hrel hL hb hv
                go_wp2_with fail
                go_still_tail 35, (by kernel_rfl)
                change wpList _ _ _ _ _ wr.drew
                clear a1 a2 a3 a4
                go_wp2
                go_roundw
                case rel => exact ⟨z + 1, by omega, by go_num, HST.out.drewN 1⟩
                case measure => simp [intOf]; omega
              · rw [hb] at c1 hL
                have hv : (a x y z) = L x y z := by
                  rw [hL]
                  cases a x y z <;> cases a q y z <;> rfl
                have HST := hid ((hrel.set hltx hlty hltz (a x y z)).eq (d := fil L x y (z + 1)) (by rw [hv]; exact fil_set L hltx hlty hltz))
                have hS : (wr.drew.cell? ⟨w.heap.size, x * 320 + y * 64 + z, none⟩ = some (.bool (a x y z)) ∧ wr.drew.cell? ⟨w.heap.size, p * 320 + y * 64 + z, none⟩ = some (.bool true)) := ⟨c0, c1⟩
                have c1s := HST.out.s.cellk hp5 hlty hltz
                rw [hb] at c1s
                have HS2 := hid (And.intro (HST.out.s.cellk hltx hlty hltz) c1s)
                clear hrel hL hb hv c1s c0 c1 c2
                go_wp2_with fail
                refine wp_region_held_drew (S := fun v => v.cell? ⟨w.heap.size, x * 320 + y * 64 + z, none⟩ = some (.bool (a x y z)) ∧ v.cell? ⟨w.heap.size, p * 320 + y * 64 + z, none⟩ = some (.bool true)) (by kernel_rfl) hS (fun hHeld => ?_)
                refine wpAnyH_take (i := 0) (v := ?_) rfl (by kernel_rfl) (by kernel_rfl) (by kernel_rfl) (fun _ _ _ h => h) (Or.inl ⟨by rfl, fun v hv => ?_⟩) (by with_reducible assumption) ?_
                rotate_left
                · go_simp
                  try with_reducible rfl
                simp only [Act.put, List.setIfInBounds_toArray, List.set_cons_zero, List.set_cons_succ, List.getElem_toArray, List.getElem_cons_zero, List.getElem_cons_succ]
                refine wpAnyH_take (i := 1) (v := ?_) rfl (by kernel_rfl) (by kernel_rfl) (by kernel_rfl) (fun _ _ _ h => h) (Or.inl ⟨by rfl, fun v hv => ?_⟩) (by with_reducible assumption) ?_
                rotate_left
                · go_simp
                  try with_reducible rfl
                simp only [Act.put, List.setIfInBounds_toArray, List.set_cons_zero, List.set_cons_succ, List.getElem_toArray, List.getElem_cons_zero, List.getElem_cons_succ]
                refine wpAnyH_take (i := 2) (v := ?_) rfl (by kernel_rfl) (by kernel_rfl) (by kernel_rfl) (fun _ _ _ h => h) (Or.inl ⟨by rfl, fun v hv => ?_⟩) (by with_reducible assumption) ?_
                rotate_left
                · go_simp
                  try with_reducible rfl
                simp only [Act.put, List.setIfInBounds_toArray, List.set_cons_zero, List.set_cons_succ, List.getElem_toArray, List.getElem_cons_zero, List.getElem_cons_succ]
                refine wpAnyH_take (i := 3) (v := ?_) rfl (by kernel_rfl) (by kernel_rfl) (by kernel_rfl) (fun _ _ _ h => h) (Or.inl ⟨by rfl, fun v hv => ?_⟩) (by with_reducible assumption) ?_
                rotate_left
                · go_simp
                  try with_reducible rfl
                simp only [Act.put, List.setIfInBounds_toArray, List.set_cons_zero, List.set_cons_succ, List.getElem_toArray, List.getElem_cons_zero, List.getElem_cons_succ]
                refine wpAnyH_take (i := 4) (v := ?_) rfl (by kernel_rfl) (by kernel_rfl) (by kernel_rfl) (fun _ _ _ h => h) (Or.inl ⟨by rfl, fun v hv => ?_⟩) (by with_reducible assumption) ?_
                rotate_left
                · go_simp
                  try with_reducible rfl
                simp only [Act.put, List.setIfInBounds_toArray, List.set_cons_zero, List.set_cons_succ, List.getElem_toArray, List.getElem_cons_zero, List.getElem_cons_succ]
                refine wpAnyH_take (i := 5) (v := ?_) rfl (by kernel_rfl) (by kernel_rfl) (by kernel_rfl) (fun _ _ _ h => h) (Or.inl ⟨by rfl, fun v hv => ?_⟩) (by with_reducible assumption) ?_
                rotate_left
                · go_simp
                  try with_reducible rfl
                simp only [Act.put, List.setIfInBounds_toArray, List.set_cons_zero, List.set_cons_succ, List.getElem_toArray, List.getElem_cons_zero, List.getElem_cons_succ]
                refine wpAnyH_take (i := 6) (v := ?_) rfl (by kernel_rfl) (by kernel_rfl) (by kernel_rfl) (fun _ _ _ h => h) (Or.inl ⟨by rfl, fun v hv => ?_⟩) (by with_reducible assumption) ?_
                rotate_left
                · go_simp
                  try with_reducible rfl
                simp only [Act.put, List.setIfInBounds_toArray, List.set_cons_zero, List.set_cons_succ, List.getElem_toArray, List.getElem_cons_zero, List.getElem_cons_succ]
                refine wpAnyH_take (i := 7) (v := ?_) rfl (by kernel_rfl) (by kernel_rfl) (by kernel_rfl) (fun _ _ _ h => h) (Or.inl ⟨by rfl, fun v hv => ?_⟩) (by with_reducible assumption) ?_
                rotate_left
                · go_simp
                  try with_reducible rfl
                simp only [Act.put, List.setIfInBounds_toArray, List.set_cons_zero, List.set_cons_succ, List.getElem_toArray, List.getElem_cons_zero, List.getElem_cons_succ]
                refine wpAnyH_take (i := 8) (v := ?_) rfl (by kernel_rfl) (by kernel_rfl) (by kernel_rfl) (fun _ _ _ h => h) (Or.inl ⟨by rfl, fun v hv => ?_⟩) (by with_reducible assumption) ?_
                rotate_left
                · go_simp
                  try with_reducible rfl
                simp only [Act.put, List.setIfInBounds_toArray, List.set_cons_zero, List.set_cons_succ, List.getElem_toArray, List.getElem_cons_zero, List.getElem_cons_succ]
                refine wpAnyH_take (i := 9) (v := ?_) rfl (by kernel_rfl) (by kernel_rfl) (by kernel_rfl) (fun _ _ _ h => h) (Or.inl ⟨by rfl, fun v hv => ?_⟩) (by with_reducible assumption) ?_
                rotate_left
                · obtain ⟨q1, q2⟩ := hv
                  go_simp
                  try with_reducible rfl
                simp only [Act.put, List.setIfInBounds_toArray, List.set_cons_zero, List.set_cons_succ, List.getElem_toArray, List.getElem_cons_zero, List.getElem_cons_succ]
                refine wpAnyH_take (i := 10) (v := ?_) rfl (by kernel_rfl) (by kernel_rfl) (by kernel_rfl) (fun _ _ _ h => h) (Or.inl ⟨by rfl, fun v hv => ?_⟩) (by with_reducible assumption) ?_
                rotate_left
                · go_simp
                  try with_reducible rfl
                simp only [Act.put, List.setIfInBounds_toArray, List.set_cons_zero, List.set_cons_succ, List.getElem_toArray, List.getElem_cons_zero, List.getElem_cons_succ]
                refine wpAnyH_take (i := 11) (v := ?_) rfl (by kernel_rfl) (by kernel_rfl) (by kernel_rfl) (fun _ _ _ h => h) (Or.inl ⟨by rfl, fun v hv => ?_⟩) (by with_reducible assumption) ?_
                rotate_left
                · go_simp
                  try with_reducible rfl
                simp only [Act.put, List.setIfInBounds_toArray, List.set_cons_zero, List.set_cons_succ, List.getElem_toArray, List.getElem_cons_zero, List.getElem_cons_succ]
                refine wpAnyH_take (i := 12) (v := ?_) rfl (by kernel_rfl) (by kernel_rfl) (by kernel_rfl) (fun _ _ _ h => h) (Or.inl ⟨by rfl, fun v hv => ?_⟩) (by with_reducible assumption) ?_
                rotate_left
                · go_simp
                  try with_reducible rfl
                simp only [Act.put, List.setIfInBounds_toArray, List.set_cons_zero, List.set_cons_succ, List.getElem_toArray, List.getElem_cons_zero, List.getElem_cons_succ]
                refine wpAnyH_take (i := 13) (v := ?_) rfl (by kernel_rfl) (by kernel_rfl) (by kernel_rfl) (fun _ _ _ h => h) (Or.inl ⟨by rfl, fun v hv => ?_⟩) (by with_reducible assumption) ?_
                rotate_left
                · go_simp
                  try with_reducible rfl
                simp only [Act.put, List.setIfInBounds_toArray, List.set_cons_zero, List.set_cons_succ, List.getElem_toArray, List.getElem_cons_zero, List.getElem_cons_succ]
                refine wpAnyH_take (i := 14) (v := ?_) rfl (by kernel_rfl) (by kernel_rfl) (by kernel_rfl) (fun _ _ _ h => h) (Or.inl ⟨by rfl, fun v hv => ?_⟩) (by with_reducible assumption) ?_
                rotate_left
                · go_simp
                  try with_reducible rfl
                simp only [Act.put, List.setIfInBounds_toArray, List.set_cons_zero, List.set_cons_succ, List.getElem_toArray, List.getElem_cons_zero, List.getElem_cons_succ]
                refine wpAnyH_take (i := 15) (v := ?_) rfl (by kernel_rfl) (by kernel_rfl) (by kernel_rfl) (fun _ _ _ h => h) (Or.inl ⟨by rfl, fun v hv => ?_⟩) (by with_reducible assumption) ?_
                rotate_left
                · go_simp
                  try with_reducible rfl
                simp only [Act.put, List.setIfInBounds_toArray, List.set_cons_zero, List.set_cons_succ, List.getElem_toArray, List.getElem_cons_zero, List.getElem_cons_succ]
                refine wpAnyH_take (i := 16) (v := ?_) rfl (by kernel_rfl) (by kernel_rfl) (by kernel_rfl) (fun _ _ _ h => h) (Or.inl ⟨by rfl, fun v hv => ?_⟩) (by with_reducible assumption) ?_
                rotate_left
                · go_simp
                  try with_reducible rfl
                simp only [Act.put, List.setIfInBounds_toArray, List.set_cons_zero, List.set_cons_succ, List.getElem_toArray, List.getElem_cons_zero, List.getElem_cons_succ]
                refine wpAnyH_take (i := 17) (v := ?_) rfl (by kernel_rfl) (by kernel_rfl) (by kernel_rfl) (fun _ _ _ h => h) (Or.inl ⟨by rfl, fun v hv => ?_⟩) (by with_reducible assumption) ?_
                rotate_left
                · go_simp
                  try with_reducible rfl
                simp only [Act.put, List.setIfInBounds_toArray, List.set_cons_zero, List.set_cons_succ, List.getElem_toArray, List.getElem_cons_zero, List.getElem_cons_succ]
                refine wpAnyH_take (i := 18) (v := ?_) rfl (by kernel_rfl) (by kernel_rfl) (by kernel_rfl) (fun _ _ _ h => h) (Or.inl ⟨by rfl, fun v hv => ?_⟩) (by with_reducible assumption) ?_
                rotate_left
                · obtain ⟨q1, q2⟩ := hv
                  go_simp
                  try with_reducible rfl
                simp only [Act.put, List.setIfInBounds_toArray, List.set_cons_zero, List.set_cons_succ, List.getElem_toArray, List.getElem_cons_zero, List.getElem_cons_succ]
                refine wpAnyH_take (i := 19) (v := ?_) rfl (by kernel_rfl) (by kernel_rfl) (by kernel_rfl) (fun _ _ _ h => h) (Or.inl ⟨by rfl, fun v hv => ?_⟩) (by with_reducible assumption) ?_
                rotate_left
                · go_simp
                  try with_reducible rfl
                simp only [Act.put, List.setIfInBounds_toArray, List.set_cons_zero, List.set_cons_succ, List.getElem_toArray, List.getElem_cons_zero, List.getElem_cons_succ]
                refine wpAnyH_take (i := 20) (v := ?_) rfl (by kernel_rfl) (by kernel_rfl) (by kernel_rfl) (fun _ _ _ h => h) (Or.inl ⟨by rfl, fun v hv => ?_⟩) (by with_reducible assumption) ?_
                rotate_left
                · go_simp
                  try with_reducible rfl
                simp only [Act.put, List.setIfInBounds_toArray, List.set_cons_zero, List.set_cons_succ, List.getElem_toArray, List.getElem_cons_zero, List.getElem_cons_succ]
                refine wpAnyH_take (i := 21) (v := undef) rfl (by kernel_rfl) (by kernel_rfl) (by kernel_rfl) (fun _ _ _ h => h) (Or.inr ⟨by rfl, rfl⟩) (by with_reducible assumption) ?_
                simp only [Act.put, List.setIfInBounds_toArray, List.set_cons_zero, List.set_cons_succ, List.getElem_toArray, List.getElem_cons_zero, List.getElem_cons_succ]
                refine wpAnyH_take (i := 22) (v := undef) rfl (by kernel_rfl) (by kernel_rfl) (by kernel_rfl) (fun _ _ _ h => h) (Or.inr ⟨by rfl, rfl⟩) (by with_reducible assumption) ?_
                simp only [Act.put, List.setIfInBounds_toArray, List.set_cons_zero, List.set_cons_succ, List.getElem_toArray, List.getElem_cons_zero, List.getElem_cons_succ]
                refine wpAnyH_take (i := 23) (v := undef) rfl (by kernel_rfl) (by kernel_rfl) (by kernel_rfl) (fun _ _ _ h => h) (Or.inr ⟨by rfl, rfl⟩) (by with_reducible assumption) ?_
                simp only [Act.put, List.setIfInBounds_toArray, List.set_cons_zero, List.set_cons_succ, List.getElem_toArray, List.getElem_cons_zero, List.getElem_cons_succ]
                refine wpAnyH_take (i := 24) (v := undef) rfl (by kernel_rfl) (by kernel_rfl) (by kernel_rfl) (fun _ _ _ h => h) (Or.inr ⟨by rfl, rfl⟩) (by with_reducible assumption) ?_
                simp only [Act.put, List.setIfInBounds_toArray, List.set_cons_zero, List.set_cons_succ, List.getElem_toArray, List.getElem_cons_zero, List.getElem_cons_succ]
                refine wpAnyH_take (i := 25) (v := undef) rfl (by kernel_rfl) (by kernel_rfl) (by kernel_rfl) (fun _ _ _ h => h) (Or.inr ⟨by rfl, rfl⟩) (by with_reducible assumption) ?_
                simp only [Act.put, List.setIfInBounds_toArray, List.set_cons_zero, List.set_cons_succ, List.getElem_toArray, List.getElem_cons_zero, List.getElem_cons_succ]
                refine wpAnyH_take (i := 26) (v := undef) rfl (by kernel_rfl) (by kernel_rfl) (by kernel_rfl) (fun _ _ _ h => h) (Or.inr ⟨by rfl, rfl⟩) (by with_reducible assumption) ?_
                simp only [Act.put, List.setIfInBounds_toArray, List.set_cons_zero, List.set_cons_succ, List.getElem_toArray, List.getElem_cons_zero, List.getElem_cons_succ]
                refine wpAnyH_take (i := 27) (v := undef) rfl (by kernel_rfl) (by kernel_rfl) (by kernel_rfl) (fun _ _ _ h => h) (Or.inr ⟨by rfl, rfl⟩) (by with_reducible assumption) ?_
                simp only [Act.put, List.setIfInBounds_toArray, List.set_cons_zero, List.set_cons_succ, List.getElem_toArray, List.getElem_cons_zero, List.getElem_cons_succ]
                refine wpAnyH_take (i := 28) (v := undef) rfl (by kernel_rfl) (by kernel_rfl) (by kernel_rfl) (fun _ _ _ h => h) (Or.inr ⟨by rfl, rfl⟩) (by with_reducible assumption) ?_
                simp only [Act.put, List.setIfInBounds_toArray, List.set_cons_zero, List.set_cons_succ, List.getElem_toArray, List.getElem_cons_zero, List.getElem_cons_succ]
                refine wpAnyH_take (i := 29) (v := undef) rfl (by kernel_rfl) (by kernel_rfl) (by kernel_rfl) (fun _ _ _ h => h) (Or.inr ⟨by rfl, rfl⟩) (by with_reducible assumption) ?_
                simp only [Act.put, List.setIfInBounds_toArray, List.set_cons_zero, List.set_cons_succ, List.getElem_toArray, List.getElem_cons_zero, List.getElem_cons_succ]
                refine wpAnyH_take (i := 30) (v := ?_) rfl (by kernel_rfl) (by kernel_rfl) (by kernel_rfl) (fun _ _ _ h => h) (Or.inl ⟨by rfl, fun v hv => ?_⟩) (by with_reducible assumption) ?_
                rotate_left
                · go_simp
                  try with_reducible rfl
                simp only [Act.put, List.setIfInBounds_toArray, List.set_cons_zero, List.set_cons_succ, List.getElem_toArray, List.getElem_cons_zero, List.getElem_cons_succ]
                refine wpAnyH_take (i := 31) (v := ?_) rfl (by kernel_rfl) (by kernel_rfl) (by kernel_rfl) (fun _ _ _ h => h) (Or.inl ⟨by rfl, fun v hv => ?_⟩) (by with_reducible assumption) ?_
                rotate_left
                · go_simp
                  try with_reducible rfl
                simp only [Act.put, List.setIfInBounds_toArray, List.set_cons_zero, List.set_cons_succ, List.getElem_toArray, List.getElem_cons_zero, List.getElem_cons_succ]
                refine wpAnyH_take (i := 32) (v := ?_) rfl (by kernel_rfl) (by kernel_rfl) (by kernel_rfl) (fun _ _ _ h => h) (Or.inl ⟨by rfl, fun v hv => ?_⟩) (by with_reducible assumption) ?_
                rotate_left
                · go_simp
                  try with_reducible rfl
                simp only [Act.put, List.setIfInBounds_toArray, List.set_cons_zero, List.set_cons_succ, List.getElem_toArray, List.getElem_cons_zero, List.getElem_cons_succ]
                refine wpAnyH_take (i := 33) (v := ?_) rfl (by kernel_rfl) (by kernel_rfl) (by kernel_rfl) (fun _ _ _ h => h) (Or.inl ⟨by rfl, fun v hv => ?_⟩) (by with_reducible assumption) ?_
                rotate_left
                · go_simp
                  try with_reducible rfl
                simp only [Act.put, List.setIfInBounds_toArray, List.set_cons_zero, List.set_cons_succ, List.getElem_toArray, List.getElem_cons_zero, List.getElem_cons_succ]
                refine wpAnyH_take (i := 34) (v := ?_) rfl (by kernel_rfl) (by kernel_rfl) (by kernel_rfl) (fun _ _ _ h => h) (Or.inl ⟨by rfl, fun v hv => ?_⟩) (by with_reducible assumption) ?_
                rotate_left
                · go_simp
                  try with_reducible rfl
                simp only [Act.put, List.setIfInBounds_toArray, List.set_cons_zero, List.set_cons_succ, List.getElem_toArray, List.getElem_cons_zero, List.getElem_cons_succ]
                refine wpAnyH_ready (rs := [35]) (by kernel_rfl) (by simp) ?_
                refine AllReadyH.cons rfl (fun K hK => ?_) AllReadyH.nil
                go_simp
                refine hK.out _ _ HS2.out (fun hHeld => ?_)
                clear hK K
                try simp only [Act.put, List.setIfInBounds_toArray, List.set_cons_zero, List.set_cons_succ, List.getElem_toArray, List.getElem_cons_zero, List.getElem_cons_succ]
                refine wpAnyH_done (by kernel_rfl) ?_ _
                clear a1 a2 a3 a4
                go_wp2
                go_roundw
                case rel => exact ⟨z + 1, by omega, by go_num, HST.out.drewN 1⟩
                case measure => simp [intOf]; omega
            · have j2 : decide ((z : Int) < 64) = false := by simp; omega
              have HR5 := hid (hrel.eq (d := fil L x (y + 1) 0) (by rw [show z = 64 by omega]; exact fil_y L x y))
              clear hrel
              go_wp2
              go_roundw
              case rel => exact ⟨y + 1, by omega, by go_num, HR5.out⟩
              case measure => simp [intOf]; omega
        · have k2 : decide ((y : Int) < 5) = false := by simp; omega
          have HR5 := hid (hrel.eq (d := fil L (x + 1) 0 0) (by rw [show y = 5 by omega]; exact fil_x L x))
          clear hrel
          go_wp2
          go_roundw
          case rel => exact ⟨x + 1, by omega, by go_num, HR5.out⟩
          case measure => simp [intOf]; omega
    · obtain rfl : x = 5 := by omega
      have hrel := hrel.eq (fil_end L)
      have HO := hid hrel.o.range
      have hst := storeB L hrel.z
      have HZ := hid (hrel.z.over L)
      have HB := hid hrel.b
      have hlenL := kcell_len L
      have HSz := hid (sizeB_k L)
      clear hrel
      go_wp2_with (with_reducible refine wpList_load_mid rfl 60 (.tmp 3) rfl (w.heap.size + 1 + 1) 0 rfl (kcell L) _ HO.out Tryd.underlying60 rfl HSz.out ?_)
      refine bodyPost_ret (BB.bt_result HZ.out Tryd.results33 rfl) rfl ?_
      exact ⟨rfl, below_cells (by omega) _ _ _ HB.out⟩
end Go.Proofs.YteogjnendkbjcaaDoor
