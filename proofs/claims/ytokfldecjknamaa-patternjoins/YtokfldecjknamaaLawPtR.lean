/-
  avouchlaw13.PatternReads returns true, of any bytes: the walk.
-/
import Derived.Test.YtokfldecjknamaaPtL
namespace Go.Proofs.Ytokfldecjknamaa
open Go.RowKit
set_option linter.unusedVariables false
set_option linter.unusedSimpArgs false

/-- Items that may be, not too many: nothing is wrong with them. -/
theorem sEnd_all {l : List IV} (h : ∀ x ∈ l, x.ok) (hl : l.length ≤ 1024) : SEnd l l.length :=
  ⟨fun i hi => ⟨hi, by omega, h _ (List.getElem_mem _)⟩, fun h => absurd h.choose (by omega)⟩
theorem s_end (l : List IV) : sE l l.length = 0 ∧ sAt l l.length = -1 ∧ sB l l.length = byS l := by
  unfold sE sAt sB
  rw [dif_neg (Nat.lt_irrefl _), if_neg (Nat.lt_irrefl _), if_neg (Nat.lt_irrefl _)]
  exact ⟨rfl, rfl, rfl⟩
theorem IV.size_ok {x : IV} (h : x.ok) : x.s.size ≤ 9223372036854775807 := by
  have := (ck_ok (show ck _ _ _ _ = 0 from h)).2.2.2.2.2.2
  omega
theorem PEnd.nE_ne {b : List Nat} {j : Nat} (h : PEnd b j) (hn : rsN b j ≠ []) : nE j (rsN b j) ≠ 0 := fun e => h.hi ((goes_nE h.lo hn).2 e)
set_option maxRecDepth 20000 in
set_option maxHeartbeats 2000000 in
theorem patternReads_w (A : Option Addr) (n c : Nat) (l : List Nat) (w : World) (ha : Rd8 w w.heap.size A n l) (hc : n ≤ c) :
    Calls Try.prog 4 #[.slice A n c] w fun e w' => e = .returned (.bool true) ∧ Below w.heap.size w w' := by
  go_enter Try.func4, Try.ntmps4
  go_wp2_with fail
  refine (speaks13_c w).mono ?_
  rintro e w1 ⟨rfl, b1⟩
  by_cases hn : 10000 < n
  · have h' : (10000 : Int) < (n : Int) := by omega
    go_wp2_with fail
    refine (speaks13_c w1).mono ?_
    rintro e w2 ⟨rfl, b2⟩
    have b3 := bchain b1 b2
    go_wp2
    go_ret
    exact ⟨rfl, b3⟩
  have h' : ¬ (10000 : Int) < (n : Int) := by omega
  have r1 := ha.below b1 (Nat.le_refl _)
  have hlt8 := ha.lt
  go_wp2_with fail
  refine (parse_c A n c l w1 r1 b1.size hc (by omega)).mono ?_
  rintro e w2 ⟨j, A2, m2, c2, hj, rfl, rP, hc2, b2⟩
  have b12 := bchain b1 b2
  have r2 := ha.below b12 (Nat.le_refl _)
  go_wp2_with fail
  refine (rparse_c A n c l w2 r2 b12.size hc (by omega)).mono ?_
  rintro e w3 ⟨j', A3, m3, c3, hj', rfl, rQ, hc3, b3⟩
  obtain rfl := hj'.uniq hj
  have b13 := bchain b12 b3
  have r3 := ha.below b13 (Nat.le_refl _)
  have rP3 := rP.up b3 (Nat.le_refl _)
  have hmP := rP3.len
  have hmQ := rQ.len
  obtain rfl : m2 = m3 := by omega
  clear hmQ
  have hj4 := goes_1024 hj.lo
  have hxl : (pX l j').length ≤ 1024 := by
    unfold pX
    split
    · rw [xsN_len]; exact hj4
    · exact Nat.zero_le _
  have C := tos_c A2 m2 c2 (pX l j') w3 rP3 (Nat.le_refl _) (by omega)
  clear r1 r2 b1 b2 b3 b12 rP
  go_wp2_with fail
  refine C.mono ?_
  rintro e w4 ⟨v4, rfl, O4, b4⟩
  obtain ⟨A4, c4, hv4, hc4, r4, _⟩ := O4.rd
  rw [hmP] at hv4 hc4 r4
  subst hv4
  have b14 := bchain b13 b4
  have rQ4 := rQ.up b4 (Nat.le_refl _)
  have rP4 := rP3.up b4 (Nat.le_refl _)
  have C2 := rsameS_c A4 m2 c4 (pX l j') A3 m2 c3 (pX l j') w4 r4 rQ4 (Nat.le_refl _) (by omega)
  rw [eqS_self] at C2
  clear C O4 r4 rQ rQ4 rP3 b4 b13 r3
  go_wp2_with fail
  refine C2.mono ?_
  rintro e w5 ⟨rfl, b5⟩
  have b15 := bchain b14 b5
  have rP5 := rP4.up b5 (Nat.le_refl _)
  have r5 := ha.below b15 (Nat.le_refl _)
  clear C2 rP4 b5 b14
  by_cases hne : rsN l j' = []
  · obtain ⟨p1, p2, p3⟩ := pE_eq hne
    obtain ⟨hok, hby⟩ := xsN_back hlt8 j' hj.lo
    rw [hne, List.append_nil] at hby
    have hE := sEnd_all hok (by rw [xsN_len]; exact hj4)
    obtain ⟨q1, q2, q3⟩ := s_end (xsN l j')
    rw [p3] at rP5
    have C := ser_c A2 m2 c2 (xsN l j') w5 rP5 (Nat.le_refl _) (by rw [p3, xsN_len] at hmP; omega) (fun y hy => IV.size_ok (hok y hy))
    rw [p1]
    clear hok p1 p2 p3 hne
    go_wp2_with fail
    refine C.mono ?_
    rintro e w6 ⟨i, A6, m6, c6, hi, rfl, r6, hc6, b6⟩
    obtain rfl := hi.uniq hE
    have b16 := bchain b15 b6
    have r56 := ha.below b16 (Nat.le_refl _)
    rw [q3, hby] at r6
    rw [q1, q2]
    have V1 := conv_s r6 c6
    have V2 := conv_s r56 c
    have EE : ((sb l).toList == (sb l).toList) = true := by simp
    clear C hi hE q1 q2 q3 hby
    go_wp2
    go_ret
    exact ⟨rfl, b16⟩
  · obtain ⟨p1, p2, p3⟩ := pE_ne hne
    have hbad := hj.nE_ne hne
    rw [← p1] at hbad
    have hbi : (((pE l j' : Nat) : Int) != 0) = true := by simp; omega
    clear p1 p2 p3 hne hbad
    go_wp2
    go_ret
    exact ⟨rfl, b15⟩
end Go.Proofs.Ytokfldecjknamaa
