/-
  keccak.State.chi: what the call does.
-/
import Derived.Test.YteogjnendkbjcaaDoorKPc
import Derived.Deep.RegionHeld3
namespace Go.Proofs.YteogjnendkbjcaaDoor
open Go.RowKit
set_option linter.unusedVariables false
set_option linter.unusedSimpArgs false

def Dch (y x i : Nat) : Bool := decide (i / 5 < y ∨ (i / 5 = y ∧ i % 5 < x))
theorem Dch_step {x y : Nat} (hx : x < 5) (hy : y < 5) (i : Nat) (hi : i < 25) : Dch y (x + 1) i = (Dch y x i || i == x + 5 * y) := by
  unfold Dch
  rw [Bool.eq_iff_iff]
  simp only [Bool.or_eq_true, decide_eq_true_eq, beq_iff_eq]
  omega
theorem Dch_turn (y i : Nat) (hi : i < 25) : Dch (y + 1) 0 i = Dch y 5 i := by
  unfold Dch
  rw [Bool.eq_iff_iff]
  simp only [decide_eq_true_eq]
  omega
theorem lch_at (l : List Nat) {x y : Nat} (hx : x < 5) (hy : y < 5) : (lch l).getD (x + 5 * y) 0 = l.getD (x + 5 * y) 0 ^^^ ((18446744073709551615 ^^^ l.getD ((x + 1) % 5 + 5 * y) 0) &&& l.getD ((x + 2) % 5 + 5 * y) 0) := by
  unfold lch
  rw [lane_getD _ (by omega)]
  show l.getD (x + 5 * y) 0 ^^^ ((18446744073709551615 ^^^ l.getD ((x + 5 * y + 1) % 5 + 5 * ((x + 5 * y) / 5)) 0) &&& l.getD ((x + 5 * y + 2) % 5 + 5 * ((x + 5 * y) / 5)) 0) = _
  rw [show (x + 5 * y + 1) % 5 = (x + 1) % 5 by omega, show (x + 5 * y + 2) % 5 = (x + 2) % 5 by omega, show (x + 5 * y) / 5 = y by omega]

set_option maxRecDepth 20000 in
set_option maxHeartbeats 1000000 in
theorem chi_c (l : List Nat) (w : World) (hl : Lanes l) :
    Calls Tryd.prog 31 #[st l] w fun e w' => e = .returned (st (lch l)) ∧ Below w.heap.size w w' := by
  obtain ⟨h1, h2, h3, h4⟩ := boot3 w hl
  have R0 := hid (show PRel w (w.heap.size + 1 + 1) (w.heap.size + 1) w.heap.size 31 l l0 (lch l) (Dch 0 0) _ from ⟨⟨l0, rfl, h3, fun i _ => by rw [if_neg (by unfold Dch; simp)]⟩, h2, h1, h4⟩)
  have HL := hid hl
  have HLP := hid (fun (x y : Nat) => @lch_at l x y)
  have HLL0 := hid (lch_lanes hl)
  have hlen := st_len hl
  obtain ⟨L, hL⟩ : ∃ L, L = lch l := ⟨_, rfl⟩
  rw [← hL] at R0 HLP HLL0 ⊢
  have HLL := HLL0
  clear HLL0 h1 h2 h3 h4 hl hL
  unfold oW zS at R0
  unfold st
  go_enter Tryd.func31, Tryd.ntmps31
  go_wp2
  clear hlen
  generalize (((w.alloc _).alloc _).alloc _) = w0 at *
  go_loopw [6] (fun i wr => ∃ y : Nat, y ≤ 5 ∧ i = .int .i64 y ∧ PRel w (w.heap.size + 1 + 1) (w.heap.size + 1) w.heap.size 31 l l0 L (Dch y 0) wr) (fun i _ => 5 - (intOf i).toNat)
  case atStart => exact ⟨0, by omega, rfl, R0.out⟩
  case round =>
    clear R0
    obtain ⟨y, hy, rfl, hrel⟩ := hrel
    by_cases hlt : y < 5
    · have i2 : (y : Int) < 5 := by omega
      have HR := hid hrel
      clear hrel
      go_wp2
      obtain ⟨w1, rfl⟩ : ∃ x, x = wr := ⟨wr, rfl⟩
      go_loopw [9] (fun i wr => ∃ x : Nat, x ≤ 5 ∧ i = .int .i64 x ∧ PRel w (w.heap.size + 1 + 1) (w.heap.size + 1) w.heap.size 31 l l0 L (Dch y x) wr) (fun i _ => 5 - (intOf i).toNat)
      case atStart => exact ⟨0, by omega, rfl, HR.out⟩
      case round =>
        clear HR
        obtain ⟨x, hx, rfl, hrel⟩ := hrel
        by_cases hltx : x < 5
        · have j2 : (x : Int) < 5 := by omega
          obtain ⟨k, hk⟩ : ∃ k, k = x + 5 * y := ⟨_, rfl⟩
          obtain ⟨ka, hka⟩ : ∃ k, k = (x + 1) % 5 + 5 * y := ⟨_, rfl⟩
          obtain ⟨kb, hkb⟩ : ∃ k, k = (x + 2) % 5 + 5 * y := ⟨_, rfl⟩
          obtain ⟨xa, hxa⟩ : ∃ n, n = x + 1 := ⟨_, rfl⟩
          obtain ⟨xb, hxb⟩ : ∃ n, n = x + 2 := ⟨_, rfl⟩
          have a1 : IntKind.i64.wrap ((x : Int) + 1) = (xa : Int) := by rw [IntKind.wrap_i64]; omega
          have a2 : IntKind.i64.wrap ((x : Int) + 2) = (xb : Int) := by rw [IntKind.wrap_i64]; omega
          have k25 : k < 25 := by omega
          have ka25 : ka < 25 := by omega
          have kb25 : kb < 25 := by omega
          have C0 : ∀ v, Calls Tryd.prog 40 #[.int .i64 (x : Int), .int .i64 (y : Int)] v fun e w' => e = .returned (.int .i64 (k : Int)) ∧ v = w' := fun v => by
            have h := lane_c x y (by omega) (by omega) v
            rw [Nat.mod_eq_of_lt hltx, Nat.mod_eq_of_lt hlt, ← hk] at h
            exact h
          have C1 : ∀ v, Calls Tryd.prog 40 #[.int .i64 (xa : Int), .int .i64 (y : Int)] v fun e w' => e = .returned (.int .i64 (ka : Int)) ∧ v = w' := fun v => by
            have h := lane_c xa y (by omega) (by omega) v
            rw [Nat.mod_eq_of_lt hlt, hxa, ← hka, ← hxa] at h
            exact h
          have C2 : ∀ v, Calls Tryd.prog 40 #[.int .i64 (xb : Int), .int .i64 (y : Int)] v fun e w' => e = .returned (.int .i64 (kb : Int)) ∧ v = w' := fun v => by
            have h := lane_c xb y (by omega) (by omega) v
            rw [Nat.mod_eq_of_lt hlt, hxb, ← hkb, ← hxb] at h
            exact h
          have c0 := hrel.s.cell (i := k) (by rw [HL.out.len]; exact k25)
          have c1 := hrel.s.cell (i := ka) (by rw [HL.out.len]; exact ka25)
          have c2 := hrel.s.cell (i := kb) (by rw [HL.out.len]; exact kb25)
          obtain ⟨v0, c3⟩ := hrel.there k25
          have f1 := hrel.frozen k
          have b0 : (0 : Int) ≤ (k : Int) := by omega
          have b1 : (k : Int) < 25 := by omega
          have b2 : (0 : Int) ≤ (ka : Int) := by omega
          have b3 : (ka : Int) < 25 := by omega
          have b4 : (0 : Int) ≤ (kb : Int) := by omega
          have b5 : (kb : Int) < 25 := by omega
          obtain ⟨u, hu⟩ : ∃ u, u = L.getD k 0 := ⟨_, rfl⟩
          have HST := hid (hrel.step (D' := Dch y (x + 1)) HLL.out (by omega) (by omega) (by omega) k k25 (u : Int) (by rw [hu]) (fun i hi => by rw [hk]; exact Dch_step hltx hlt i hi))
          have hval : bits .xor .u64 (at64 l k) (bits .and .u64 (bits .xor .u64 (if IntKind.u64.signed = true then -1 else IntKind.u64.max) (at64 l ka)) (at64 l kb)) = (u : Int) := by
            rw [show (if IntKind.u64.signed = true then (-1 : Int) else IntKind.u64.max) = 18446744073709551615 by decide]
            unfold at64
            have h1 := bits_xor_u64_nat 18446744073709551615 (l.getD ka 0) (by decide) (HL.out.at_ _)
            rw [show ((18446744073709551615 : Nat) : Int) = 18446744073709551615 by rfl] at h1
            rw [h1, bits_and_u64_nat _ _ (xor_lt (by decide) (HL.out.at_ _)) (HL.out.at_ _), bits_xor_u64_nat _ _ (HL.out.at_ _) (and_lt _ (xor_lt (by decide) (HL.out.at_ _))), hu, hk, hka, hkb, HLP.out x y hltx hlt]
          clear hk hka hkb hxa hxb hu hrel
          have hS : (wr.drew.cell? ⟨w.heap.size, k, none⟩ = some (.int .u64 (at64 l k)) ∧ wr.drew.cell? ⟨w.heap.size, ka, none⟩ = some (.int .u64 (at64 l ka)) ∧ wr.drew.cell? ⟨w.heap.size, kb, none⟩ = some (.int .u64 (at64 l kb))) := ⟨c0, c1, c2⟩
          have hS2 := And.intro (HST.out.s.cell (i := k) (by rw [HL.out.len]; exact k25)) (And.intro (HST.out.s.cell (i := ka) (by rw [HL.out.len]; exact ka25)) (HST.out.s.cell (i := kb) (by rw [HL.out.len]; exact kb25)))
          have HS2 := hid hS2
          clear hS2 c0 c1 c2
          go_wp2_with fail
          refine wp_region_held_drew (S := fun v => v.cell? ⟨w.heap.size, k, none⟩ = some (.int .u64 (at64 l k)) ∧ v.cell? ⟨w.heap.size, ka, none⟩ = some (.int .u64 (at64 l ka)) ∧ v.cell? ⟨w.heap.size, kb, none⟩ = some (.int .u64 (at64 l kb))) (by kernel_rfl) hS (fun hHeld => ?_)
          refine wpAnyH_take (i := 0) (v := ?_) rfl (by kernel_rfl) (by kernel_rfl) (by kernel_rfl) (fun _ _ _ h => h) (Or.inl ⟨by rfl, fun v hv => ?_⟩) (by with_reducible assumption) ?_
          rotate_left
          · go_simp
            try with_reducible rfl
          simp only [Act.put, List.setIfInBounds_toArray, List.set_cons_zero, List.set_cons_succ, List.getElem_toArray, List.getElem_cons_zero, List.getElem_cons_succ]
          refine wpAnyH_take (i := 1) (v := ?_) rfl (by kernel_rfl) (by kernel_rfl) (by kernel_rfl) (fun _ _ _ h => h) (Or.inl ⟨by rfl, fun v hv => ?_⟩) (by with_reducible assumption) ?_
          rotate_left
          · go_simp
            try with_reducible rfl
          simp only [Act.put, List.setIfInBounds_toArray, List.set_cons_zero, List.set_cons_succ, List.getElem_toArray, List.getElem_cons_zero, List.getElem_cons_succ]
          refine wpAnyH_take (i := 3) (v := ?_) rfl (by kernel_rfl) (by kernel_rfl) (by kernel_rfl) (fun _ _ _ h => h) (Or.inl ⟨by rfl, fun v hv => ?_⟩) (by with_reducible assumption) ?_
          rotate_left
          · go_simp
            try with_reducible rfl
          simp only [Act.put, List.setIfInBounds_toArray, List.set_cons_zero, List.set_cons_succ, List.getElem_toArray, List.getElem_cons_zero, List.getElem_cons_succ]
          refine wpAnyH_take (i := 4) (v := ?_) rfl (by kernel_rfl) (by kernel_rfl) (by kernel_rfl) (fun _ _ _ h => h) (Or.inl ⟨by rfl, fun v hv => ?_⟩) (by with_reducible assumption) ?_
          rotate_left
          · go_simp
            try with_reducible rfl
          simp only [Act.put, List.setIfInBounds_toArray, List.set_cons_zero, List.set_cons_succ, List.getElem_toArray, List.getElem_cons_zero, List.getElem_cons_succ]
          refine wpAnyH_take (i := 8) (v := ?_) rfl (by kernel_rfl) (by kernel_rfl) (by kernel_rfl) (fun _ _ _ h => h) (Or.inl ⟨by rfl, fun v hv => ?_⟩) (by with_reducible assumption) ?_
          rotate_left
          · go_simp
            try with_reducible rfl
          simp only [Act.put, List.setIfInBounds_toArray, List.set_cons_zero, List.set_cons_succ, List.getElem_toArray, List.getElem_cons_zero, List.getElem_cons_succ]
          refine wpAnyH_take (i := 9) (v := ?_) rfl (by kernel_rfl) (by kernel_rfl) (by kernel_rfl) (fun _ _ _ h => h) (Or.inl ⟨by rfl, fun v hv => ?_⟩) (by with_reducible assumption) ?_
          rotate_left
          · go_simp
            try with_reducible rfl
          simp only [Act.put, List.setIfInBounds_toArray, List.set_cons_zero, List.set_cons_succ, List.getElem_toArray, List.getElem_cons_zero, List.getElem_cons_succ]
          refine wpAnyH_take (i := 10) (v := ?_) rfl (by kernel_rfl) (by kernel_rfl) (by kernel_rfl) (fun _ _ _ h => h) (Or.inl ⟨by rfl, fun v hv => ?_⟩) (by with_reducible assumption) ?_
          rotate_left
          · go_simp
            try with_reducible rfl
          simp only [Act.put, List.setIfInBounds_toArray, List.set_cons_zero, List.set_cons_succ, List.getElem_toArray, List.getElem_cons_zero, List.getElem_cons_succ]
          refine wpAnyH_take (i := 15) (v := ?_) rfl (by kernel_rfl) (by kernel_rfl) (by kernel_rfl) (fun _ _ _ h => h) (Or.inl ⟨by rfl, fun v hv => ?_⟩) (by with_reducible assumption) ?_
          rotate_left
          · go_simp
            try with_reducible rfl
          simp only [Act.put, List.setIfInBounds_toArray, List.set_cons_zero, List.set_cons_succ, List.getElem_toArray, List.getElem_cons_zero, List.getElem_cons_succ]
          refine wpAnyH_take (i := 16) (v := ?_) rfl (by kernel_rfl) (by kernel_rfl) (by kernel_rfl) (fun _ _ _ h => h) (Or.inl ⟨by rfl, fun v hv => ?_⟩) (by with_reducible assumption) ?_
          rotate_left
          · go_simp
            try with_reducible rfl
          simp only [Act.put, List.setIfInBounds_toArray, List.set_cons_zero, List.set_cons_succ, List.getElem_toArray, List.getElem_cons_zero, List.getElem_cons_succ]
          refine wpAnyH_take (i := 17) (v := ?_) rfl (by kernel_rfl) (by kernel_rfl) (by kernel_rfl) (fun _ _ _ h => h) (Or.inl ⟨by rfl, fun v hv => ?_⟩) (by with_reducible assumption) ?_
          rotate_left
          · go_simp
            try with_reducible rfl
          simp only [Act.put, List.setIfInBounds_toArray, List.set_cons_zero, List.set_cons_succ, List.getElem_toArray, List.getElem_cons_zero, List.getElem_cons_succ]
          refine wpAnyH_ready (rs := [2]) (by kernel_rfl) (by simp) ?_
          refine AllReadyH.cons rfl (fun K hK => ?_) AllReadyH.nil
          go_simp
          go_at_call 40
          with_reducible refine (C0 _).mono ?_
          rintro e w' ⟨rfl, rfl⟩
          dsimp only
          refine hK.out _ _ hS (fun hHeld => ?_)
          clear hK K
          try simp only [Act.put, List.setIfInBounds_toArray, List.set_cons_zero, List.set_cons_succ, List.getElem_toArray, List.getElem_cons_zero, List.getElem_cons_succ]
          refine wpAnyH_ready (rs := [5]) (by kernel_rfl) (by simp) ?_
          refine AllReadyH.cons rfl (fun K hK => ?_) AllReadyH.nil
          go_simp
          go_at_call 40
          with_reducible refine (C0 _).mono ?_
          rintro e w' ⟨rfl, rfl⟩
          dsimp only
          refine hK.out _ _ hS (fun hHeld => ?_)
          clear hK K
          try simp only [Act.put, List.setIfInBounds_toArray, List.set_cons_zero, List.set_cons_succ, List.getElem_toArray, List.getElem_cons_zero, List.getElem_cons_succ]
          refine wpAnyH_take (i := 6) (v := ?_) rfl (by kernel_rfl) (by kernel_rfl) (by kernel_rfl) (fun _ _ _ h => h) (Or.inl ⟨by rfl, fun v hv => ?_⟩) (by with_reducible assumption) ?_
          rotate_left
          · go_simp
            try with_reducible rfl
          simp only [Act.put, List.setIfInBounds_toArray, List.set_cons_zero, List.set_cons_succ, List.getElem_toArray, List.getElem_cons_zero, List.getElem_cons_succ]
          refine wpAnyH_take (i := 7) (v := ?_) rfl (by kernel_rfl) (by kernel_rfl) (by kernel_rfl) (fun _ _ _ h => h) (Or.inl ⟨by rfl, fun v hv => ?_⟩) (by with_reducible assumption) ?_
          rotate_left
          · obtain ⟨q0, q1, q2⟩ := hv
            go_simp
            try with_reducible rfl
          simp only [Act.put, List.setIfInBounds_toArray, List.set_cons_zero, List.set_cons_succ, List.getElem_toArray, List.getElem_cons_zero, List.getElem_cons_succ]
          refine wpAnyH_ready (rs := [11]) (by kernel_rfl) (by simp) ?_
          refine AllReadyH.cons rfl (fun K hK => ?_) AllReadyH.nil
          go_simp
          go_at_call 40
          with_reducible refine (C1 _).mono ?_
          rintro e w' ⟨rfl, rfl⟩
          dsimp only
          refine hK.out _ _ hS (fun hHeld => ?_)
          clear hK K
          try simp only [Act.put, List.setIfInBounds_toArray, List.set_cons_zero, List.set_cons_succ, List.getElem_toArray, List.getElem_cons_zero, List.getElem_cons_succ]
          refine wpAnyH_take (i := 12) (v := ?_) rfl (by kernel_rfl) (by kernel_rfl) (by kernel_rfl) (fun _ _ _ h => h) (Or.inl ⟨by rfl, fun v hv => ?_⟩) (by with_reducible assumption) ?_
          rotate_left
          · go_simp
            try with_reducible rfl
          simp only [Act.put, List.setIfInBounds_toArray, List.set_cons_zero, List.set_cons_succ, List.getElem_toArray, List.getElem_cons_zero, List.getElem_cons_succ]
          refine wpAnyH_take (i := 13) (v := ?_) rfl (by kernel_rfl) (by kernel_rfl) (by kernel_rfl) (fun _ _ _ h => h) (Or.inl ⟨by rfl, fun v hv => ?_⟩) (by with_reducible assumption) ?_
          rotate_left
          · obtain ⟨q0, q1, q2⟩ := hv
            go_simp
            try with_reducible rfl
          simp only [Act.put, List.setIfInBounds_toArray, List.set_cons_zero, List.set_cons_succ, List.getElem_toArray, List.getElem_cons_zero, List.getElem_cons_succ]
          refine wpAnyH_take (i := 14) (v := ?_) rfl (by kernel_rfl) (by kernel_rfl) (by kernel_rfl) (fun _ _ _ h => h) (Or.inl ⟨by rfl, fun v hv => ?_⟩) (by with_reducible assumption) ?_
          rotate_left
          · go_simp
            try with_reducible rfl
          simp only [Act.put, List.setIfInBounds_toArray, List.set_cons_zero, List.set_cons_succ, List.getElem_toArray, List.getElem_cons_zero, List.getElem_cons_succ]
          refine wpAnyH_ready (rs := [18]) (by kernel_rfl) (by simp) ?_
          refine AllReadyH.cons rfl (fun K hK => ?_) AllReadyH.nil
          go_simp
          go_at_call 40
          with_reducible refine (C2 _).mono ?_
          rintro e w' ⟨rfl, rfl⟩
          dsimp only
          refine hK.out _ _ hS (fun hHeld => ?_)
          clear hK K
          try simp only [Act.put, List.setIfInBounds_toArray, List.set_cons_zero, List.set_cons_succ, List.getElem_toArray, List.getElem_cons_zero, List.getElem_cons_succ]
          refine wpAnyH_take (i := 19) (v := ?_) rfl (by kernel_rfl) (by kernel_rfl) (by kernel_rfl) (fun _ _ _ h => h) (Or.inl ⟨by rfl, fun v hv => ?_⟩) (by with_reducible assumption) ?_
          rotate_left
          · go_simp
            try with_reducible rfl
          simp only [Act.put, List.setIfInBounds_toArray, List.set_cons_zero, List.set_cons_succ, List.getElem_toArray, List.getElem_cons_zero, List.getElem_cons_succ]
          refine wpAnyH_take (i := 20) (v := ?_) rfl (by kernel_rfl) (by kernel_rfl) (by kernel_rfl) (fun _ _ _ h => h) (Or.inl ⟨by rfl, fun v hv => ?_⟩) (by with_reducible assumption) ?_
          rotate_left
          · obtain ⟨q0, q1, q2⟩ := hv
            go_simp
            try with_reducible rfl
          simp only [Act.put, List.setIfInBounds_toArray, List.set_cons_zero, List.set_cons_succ, List.getElem_toArray, List.getElem_cons_zero, List.getElem_cons_succ]
          refine wpAnyH_take (i := 21) (v := ?_) rfl (by kernel_rfl) (by kernel_rfl) (by kernel_rfl) (fun _ _ _ h => h) (Or.inl ⟨by rfl, fun v hv => ?_⟩) (by with_reducible assumption) ?_
          rotate_left
          · go_simp
            try with_reducible rfl
          simp only [Act.put, List.setIfInBounds_toArray, List.set_cons_zero, List.set_cons_succ, List.getElem_toArray, List.getElem_cons_zero, List.getElem_cons_succ]
          refine wpAnyH_take (i := 22) (v := ?_) rfl (by kernel_rfl) (by kernel_rfl) (by kernel_rfl) (fun _ _ _ h => h) (Or.inl ⟨by rfl, fun v hv => ?_⟩) (by with_reducible assumption) ?_
          rotate_left
          · go_simp
            try with_reducible rfl
          simp only [Act.put, List.setIfInBounds_toArray, List.set_cons_zero, List.set_cons_succ, List.getElem_toArray, List.getElem_cons_zero, List.getElem_cons_succ]
          refine wpAnyH_take (i := 23) (v := ?_) rfl (by kernel_rfl) (by kernel_rfl) (by kernel_rfl) (fun _ _ _ h => h) (Or.inl ⟨by rfl, fun v hv => ?_⟩) (by with_reducible assumption) ?_
          rotate_left
          · go_simp
            try with_reducible rfl
          simp only [Act.put, List.setIfInBounds_toArray, List.set_cons_zero, List.set_cons_succ, List.getElem_toArray, List.getElem_cons_zero, List.getElem_cons_succ]
          refine wpAnyH_ready (rs := [24]) (by kernel_rfl) (by simp) ?_
          refine AllReadyH.cons rfl (fun K hK => ?_) AllReadyH.nil
          go_simp
          refine hK.out _ _ HS2.out (fun hHeld => ?_)
          clear hK K
          try simp only [Act.put, List.setIfInBounds_toArray, List.set_cons_zero, List.set_cons_succ, List.getElem_toArray, List.getElem_cons_zero, List.getElem_cons_succ]
          refine wpAnyH_done (by kernel_rfl) ?_ _
          clear a1 a2
          go_wp2
          go_roundw
          case rel => exact ⟨x + 1, by omega, by go_num, HST.out.drew⟩
          case measure => simp [intOf]; omega
        · have j2 : decide ((x : Int) < 5) = false := by simp; omega
          have HR5 := hid (hrel.turn (D' := Dch (y + 1) 0) (fun i hi => by rw [show x = 5 by omega]; exact Dch_turn y i hi))
          clear hrel
          go_wp2
          go_roundw
          case rel => exact ⟨y + 1, by omega, by go_num, HR5.out⟩
          case measure => simp [intOf]; omega
    · obtain rfl : y = 5 := by omega
      obtain ⟨e1, e2, e3⟩ := hrel.end_ HLL.out.len (fun i hi => by unfold Dch; simp; omega)
      clear hrel
      have HLen := hid (st_len HLL.out)
      have HSz := hid (st_size HLL.out)
      obtain ⟨hst, HR⟩ := st_stored HLL.out e2
      have hlenL : (cellsOf64 L).length = 25 := HLen
      have HO := hid e1.range
      have HB := hid e3
      clear e1 e2 e3
      go_wp2_with (with_reducible refine wpList_load_mid rfl 31 (.tmp 3) rfl (w.heap.size + 1 + 1) 0 rfl (cellsOf64 L) _ HO.out Tryd.underlying31 rfl HSz.out ?_)
      refine bodyPost_ret (st_result HLL.out Tryd.results31 rfl HR) rfl ?_
      exact ⟨rfl, below_cells (by omega) _ _ _ HB.out⟩
end Go.Proofs.YteogjnendkbjcaaDoor
