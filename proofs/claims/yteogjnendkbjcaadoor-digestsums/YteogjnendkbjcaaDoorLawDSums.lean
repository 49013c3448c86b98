/-
  avouchlaw07.DigestSums: the walk.
-/
import Derived.Test.YteogjnendkbjcaaDoorDhI
import Derived.Test.YteogjnendkbjcaaDoorDrB
namespace Go.Proofs.YteogjnendkbjcaaDoor
open Go.RowKit
set_option linter.unusedVariables false
set_option linter.unusedSimpArgs false

/-- What is kept: the bytes, and their digest. -/
structure EnvDS (w : World) (A : Option Addr) (n : Nat) (b D : List Nat) (b3 : Nat) (v : World) : Prop where
  a : Rd8 v v.heap.size A n b
  y : BlkB v b3 24 D
  b : Below w.heap.size w v
theorem EnvDS.up {w : World} {A : Option Addr} {n : Nat} {b D : List Nat} {b3 : Nat} {v v' : World} (h : EnvDS w A n b D b3 v) (hb : Below v.heap.size v v') : EnvDS w A n b D b3 v' := ⟨h.a.up hb (Nat.le_refl _), h.y.up hb, bchain h.b hb⟩

set_option maxRecDepth 100000 in
set_option maxHeartbeats 4000000 in
theorem digestSums_w (A : Option Addr) (n c : Nat) (b : List Nat) (w : World) (ha : Rd8 w w.heap.size A n b) (hc : n ≤ c) (hG : GlobK w) :
    Calls Tryd.prog 3 #[.slice A n c] w fun e w' => e = .returned (.bool true) ∧ Below w.heap.size w w' := by
  have HA := hid ha
  have HG := hid hG
  have HC := hid hc
  clear ha hG hc
  by_cases hbig : 700 < n
  · have i1 : (700 : Int) < (n : Int) := by omega
    clear hbig
    go_enter Tryd.func3, Tryd.ntmps3
    go_wp2_with fail
    refine (speaks7_c w HG.out).mono ?_
    rintro e w1 ⟨rfl, b1⟩
    go_wp2_with fail
    refine (speaks7_c w1 (HG.out.up b1)).mono ?_
    rintro e w2 ⟨rfl, b2⟩
    go_wp2
    go_ret
    exact ⟨rfl, bchain b1 b2⟩
  · have i1 : decide ((700 : Int) < (n : Int)) = false := decide_eq_false (by omega)
    have HN := hid (show n ≤ 700 by omega)
    clear hbig
    go_enter Tryd.func3, Tryd.ntmps3
    go_wp2_with fail
    refine (speaks7_c w HG.out).mono ?_
    rintro e w1 ⟨rfl, b1⟩
    have hP := RdP.one 22 (HA.out.up b1 (Nat.le_refl _)) HC.out
    have hb2 := bchain b1 ((Below.refl w1.heap.size w1).alloc (Nat.le_refl _) (.cells #[.slice A n c] 22))
    have HP := hid hP
    have HB2 := hid hb2
    clear b1 hP hb2
    go_wp2_with fail
    refine (dsum_c _ 1 1 [b] _ HP.out (by decide) (HG.out.up HB2.out)).mono ?_
    rintro e w2 ⟨rfl, b2⟩
    rw [show [b].flatten = b by simp]
    obtain ⟨D, hD⟩ : ∃ D, D = dig b := ⟨_, rfl⟩
    rw [← hD]
    have HD := hid hD
    have HDL := hid (show D.length = 32 by rw [hD]; exact dig_len b)
    have HDB := hid (show allLt8 D by rw [hD]; exact dig_lt b)
    clear hD
    obtain ⟨hst, hn, hbn⟩ := new_32 w2 HDL.out HDB.out
    have hl8 : (cells8 D).length = 32 := by rw [c8_len, HDL.out]
    have hz := zero32d
    have hlz : (cells8 z32d).length = 32 := by rw [c8_len, z32d_len]
    have bF := bchain (bchain HB2.out b2) hbn
    have E0 : Hid (EnvDS w A n b D w2.heap.size ((w2.alloc (o32d 24)).setCells w2.heap.size 0 (cells8 D))) := ⟨HA.out.up bF (Nat.le_refl _), hn, bF⟩
    clear b2 hbn hn HP HB2 bF
    unfold o32d at hst E0
    go_wp2_with fail
    clear hst hl8 hz hlz
    generalize ((w2.alloc _).setCells _ _ _) = w3 at *
    generalize w2.heap.size = b3 at *
    have EX : EnvDS w A n b D b3 w3.drew := E0.out.up (Below.refl _ _).drew
    clear E0
    go_cut [2] (fun s wx => s = .bool true ∧ EnvDS w A n b D b3 wx)
    case first =>
      obtain ⟨sb, hsb⟩ : ∃ s, s = strOfNums (D.map fun (x : Nat) => (x : Int)) := ⟨_, rfl⟩
      have CR : ∀ v, EnvDS w A n b D b3 v → Calls Tryd.prog 9 #[.slice A n c] v fun e w' => ∃ A2 c2, e = .returned (.slice A2 32 c2) ∧ (convert 22 9 (.slice A2 32 c2)).run Tryd.prog w' = .ok (.string sb) w' ∧ Below v.heap.size v w' := fun v h => by
        refine (ref7Sum_c A n c b v h.a HN.out).mono ?_
        rintro e w' ⟨A2, c2, rfl, hc2, r2, b2⟩
        exact ⟨A2, c2, rfl, by rw [hsb, HD.out]; exact conv8l r2 (by decide) c2, b2⟩
      have V1 : ∀ v, EnvDS w A n b D b3 v → (convert 22 9 (.slice (some ⟨b3, 0, none⟩) 32 32)).run Tryd.prog v = .ok (.string sb) v := fun v h => by rw [hsb]; exact conv_32 h.y HDL.out 32
      have F4 : ∀ v, (Instr.sliceAt 24 (.pointer (some ⟨b3, 0, none⟩)) none none none).run Tryd.prog v = .ok (.slice (some ⟨b3, 0, none⟩) 32 32) v := fun v => by kernel_rfl
      have N1 := Tryd.call9
      have HMX : Tryd.prog.follows .mixedOrders = true := by kernel_rfl
      clear hsb HN HD HDL HDB HA HG HC
      refine wp_region_held_drew (S := fun v => EnvDS w A n b D b3 v) HMX EX (fun hHeld => ?_)
      refine wpAnyH_take (i := 0) (v := ?_) rfl (by kernel_rfl) (by kernel_rfl) (by kernel_rfl) (fun _ _ _ h => h) (Or.inl ⟨by rfl, fun v hv => ?_⟩) (by with_reducible assumption) ?_
      rotate_left
      · go_simp
        try with_reducible rfl
      simp only [Act.put, List.setIfInBounds_toArray, List.set_cons_zero, List.set_cons_succ, List.getElem_toArray, List.getElem_cons_zero, List.getElem_cons_succ]
      refine wpAnyH_take (i := 1) (v := ?_) rfl (by kernel_rfl) (by kernel_rfl) (by kernel_rfl) (fun _ _ _ h => h) (Or.inl ⟨by rfl, fun v hv => ?_⟩) (by with_reducible assumption) ?_
      rotate_left
      · go_simp
        try with_reducible rfl
      simp only [Act.put, List.setIfInBounds_toArray, List.set_cons_zero, List.set_cons_succ, List.getElem_toArray, List.getElem_cons_zero, List.getElem_cons_succ]
      refine wpAnyH_take (i := 2) (v := ?_) rfl (by kernel_rfl) (by kernel_rfl) (by kernel_rfl) (fun _ _ _ h => h) (Or.inl ⟨by rfl, fun v hv => ?_⟩) (by with_reducible assumption) ?_
      rotate_left
      · go_simp
        try with_reducible rfl
      simp only [Act.put, List.setIfInBounds_toArray, List.set_cons_zero, List.set_cons_succ, List.getElem_toArray, List.getElem_cons_zero, List.getElem_cons_succ]
      refine wpAnyH_ready (rs := [3]) (by kernel_rfl) (by simp) ?_
      refine AllReadyH.cons rfl (fun K hK => ?_) AllReadyH.nil
      go_simp
      go_at_call 9
      with_reducible refine (CR _ (by with_reducible assumption)).mono ?_
      rintro e v1 ⟨A2, c2, rfl, cv2, hb1⟩
      have hE1 := EnvDS.up (by with_reducible assumption) hb1
      dsimp only
      refine hK.out _ _ hE1 (fun hHeld => ?_)
      clear hK K
      try simp only [Act.put, List.setIfInBounds_toArray, List.set_cons_zero, List.set_cons_succ, List.getElem_toArray, List.getElem_cons_zero, List.getElem_cons_succ]
      refine wpAnyH_ready (rs := [4]) (by kernel_rfl) (by simp) ?_
      refine AllReadyH.cons rfl (fun K hK => ?_) AllReadyH.nil
      go_simp
      refine hK.out _ _ hE1 (fun hHeld => ?_)
      clear hK K
      try simp only [Act.put, List.setIfInBounds_toArray, List.set_cons_zero, List.set_cons_succ, List.getElem_toArray, List.getElem_cons_zero, List.getElem_cons_succ]
      refine wpAnyH_take (i := 5) (v := ?_) rfl (by kernel_rfl) (by kernel_rfl) (by kernel_rfl) (fun _ _ _ h => h) (Or.inl ⟨by rfl, fun v hv => ?_⟩) (by with_reducible assumption) ?_
      rotate_left
      · go_simp
        try with_reducible rfl
      simp only [Act.put, List.setIfInBounds_toArray, List.set_cons_zero, List.set_cons_succ, List.getElem_toArray, List.getElem_cons_zero, List.getElem_cons_succ]
      refine wpAnyH_take (i := 6) (v := ?_) rfl (by kernel_rfl) (by kernel_rfl) (by kernel_rfl) (fun _ _ _ h => h) (Or.inl ⟨by rfl, fun v hv => ?_⟩) (by with_reducible assumption) ?_
      rotate_left
      · go_simp
        try with_reducible rfl
      simp only [Act.put, List.setIfInBounds_toArray, List.set_cons_zero, List.set_cons_succ, List.getElem_toArray, List.getElem_cons_zero, List.getElem_cons_succ]
      refine wpAnyH_done (by kernel_rfl) ?_ _
      go_wp2_with fail
      go_meet
      exact ⟨rfl, hE1⟩
    case rest =>
      obtain ⟨rfl, hE⟩ := hcut
      clear EX
      go_wp2
      go_ret
      exact ⟨rfl, hE.b⟩
end Go.Proofs.YteogjnendkbjcaaDoor
