/-
  grain.register.next: what the call does.
-/
import Derived.Test.YtpjjobophplleaaDoorGnB
import Derived.WalkMore
import Derived.ScopeJumps
namespace Go.Proofs.YtpjjobophplleaaDoor
open Go.RowKit
set_option linter.unusedVariables false

theorem gnx_zero {s : Nat} (h : GS s) (h1 : gtap s = true) : gnx s = 0 := gnx_eq h h1 fun j hj => by omega
theorem gnx_succ {s : Nat} (h : GS s) (h0 : gtap s = false) : gnx s = gnx (gIt 2 s) + 1 := by
  obtain ⟨g1, g2⟩ := gnx_spec (h.it 2)
  have key : ∀ j, gIt (2 * (j + 1)) s = gIt (2 * j) (gIt 2 s) := fun j => by
    rw [show 2 * (j + 1) = 2 + 2 * j by omega, gIt_add]
  refine gnx_eq h ?_ fun j hj => ?_
  · rw [key]
    exact g1
  · rcases Nat.eq_zero_or_pos j with e | e
    · subst e
      exact h0
    · obtain ⟨i, rfl⟩ : ∃ i, j = i + 1 := ⟨j - 1, by omega⟩
      rw [key]
      exact g2 i (by omega)
theorem ghd_succ {s : Nat} (h : GS s) (h0 : gtap s = false) : ghd (gIt 2 s) = ghd s := by
  unfold ghd
  rw [gnx_succ h h0, show 2 * (gnx (gIt 2 s) + 1) = 2 + 2 * gnx (gIt 2 s) by omega, gIt_add]
theorem ghd_zero {s : Nat} (h : GS s) (h1 : gtap s = true) : ghd s = s := by
  unfold ghd
  rw [gnx_zero h h1]
  rfl
theorem g80_ext {x y : Nat} (hx : x < g80) (hy : y < g80) (h : ∀ i, i < 80 → x.testBit i = y.testBit i) : x = y := by
  apply Nat.eq_of_testBit_eq
  intro i
  rcases Nat.lt_or_ge i 80 with c | c
  · exact h i c
  · rw [bit_big hx c, bit_big hy c]
theorem BlkV.same {w : World} {b : Nat} {t : TypeId} {us vs : List Value} (h : BlkV w b t us) (k : BlkV w b t vs) : us = vs := by
  have e := h.heap.symm.trans k.heap
  injection e with e
  injection e with e
  exact Array.toList_inj.2 e |> fun z => by simpa using z
theorem G8.inj {w : World} {b : Nat} {t : TypeId} {x y : Nat} (h : G8 w b t x) (k : G8 w b t y) (hx : x < g80) (hy : y < g80) : x = y :=
  g80_ext hx hy fun i hi => by
    have h1 := h.bit hi
    rw [k.bit hi] at h1
    injection h1 with h1
    injection h1 with _ h1
    revert h1
    cases x.testBit i <;> cases y.testBit i <;> decide
/-- The register that lies in a block. -/
noncomputable def regAt (w : World) (b : Nat) (t : TypeId) : Nat := open Classical in if h : ∃ s, s < g80 ∧ G8 w b t s then Classical.choose h else 0
theorem regAt_eq {w : World} {b : Nat} {t : TypeId} {s : Nat} (h : G8 w b t s) (hs : s < g80) : regAt w b t = s := by
  have hx : ∃ s, s < g80 ∧ G8 w b t s := ⟨s, hs, h⟩
  have hc := Classical.choose_spec hx
  unfold regAt
  rw [dif_pos hx]
  exact hc.2.inj h hc.1 hs

/-- The register on the way: its next bit is the one that is looked for. -/
structure NxR (w : World) (b : Nat) (t : TypeId) (s s' : Nat) (wr : World) : Prop where
  gs : GS s'
  g : G8 wr b t s'
  o : Only b w wr
  hb : gbit s' = gbit s
  hn : gnext s' = gnext s
theorem NxR.pass {w : World} {b : Nat} {t : TypeId} {s s' : Nat} {wr w2 : World} (h : NxR w b t s s' wr) (h0 : gtap s' = false) (g2 : G8 w2 b t (gT (gT s'))) (o2 : Only b wr w2) : NxR w b t s (gT (gT s')) w2 ∧ gnx (regAt w2 b t) < gnx (regAt wr b t) := by
  have e : gT (gT s') = gIt 2 s' := rfl
  have g3 := h.gs.it 2
  rw [e] at g2 ⊢
  refine ⟨⟨g3, g2, h.o.trans o2, ?_, ?_⟩, ?_⟩
  · rw [← h.hb]
    unfold gbit
    rw [ghd_succ h.gs h0]
  · rw [← h.hn]
    unfold gnext
    rw [ghd_succ h.gs h0]
  · rw [regAt_eq g2 g3.lt, regAt_eq h.g h.gs.lt, gnx_succ h.gs h0]
    exact Nat.lt_succ_self _
theorem NxR.end_ {w : World} {b : Nat} {t : TypeId} {s s' : Nat} {wr w2 : World} (h : NxR w b t s s' wr) (h0 : gtap s' = true) (g2 : G8 w2 b t (gT (gT s'))) (o2 : Only b wr w2) : gtap (gT s') = gbit s ∧ G8 w2 b t (gnext s) ∧ Only b w w2 := by
  refine ⟨?_, ?_, h.o.trans o2⟩
  · rw [← h.hb]
    unfold gbit
    rw [ghd_zero h.gs h0]
  · rw [← h.hn]
    unfold gnext
    rw [ghd_zero h.gs h0]
    exact g2
set_option maxRecDepth 20000 in
set_option maxHeartbeats 2000000 in
theorem gnext_c (s b : Nat) (t : TypeId) (w : World) (hs : GS s) (hB : G8 w b t s) :
    Calls Tryd.prog 28 #[.pointer (some ⟨b, 0, none⟩)] w fun e w' => e = .returned (.int .u8 ((gbit s).toNat : Int)) ∧ G8 w' b t (gnext s) ∧ Only b w w' := by
  have R0 : Hid (NxR w b t s s w) := ⟨hs, hB, Only.refl _ _, rfl, rfl⟩
  clear hs hB
  go_enter Tryd.func28, Tryd.ntmps28
  go_wp2
  refine wp_scope_jumps 0 (fun a' w' => (∃ s', NxR w b t s s' w') ∧ ∃ u3 u4 u5 u6 u7 u8 u9 u10 : Value, a' = { tmps := #[.pointer (some ⟨b, 0, none⟩), undef, .int .u8 0, u3, u4, u5, u6, u7, u8, u9, u10, undef], defers := [] }) (fun _ w' => gnx (regAt w' b t)) rfl ?_ ?_
  · go_wp2
    go_step3
    go_wp2_with fail
    refine (gturn_c s b t w R0.out.gs.lt R0.out.g).mono ?_
    rintro e w1 ⟨rfl, g1, o1⟩
    go_wp2_with fail
    refine (gturn_c (gT s) b t w1 (gT_lt R0.out.gs.lt) g1).mono ?_
    rintro e w2 ⟨rfl, g2, o2⟩
    have O2 := o1.trans o2
    cases ht : gtap s
    · have HP := hid (R0.out.pass ht g2 O2)
      clear o1 o2 g1 g2 O2 ht
      go_wp2
      go_step3
      exact ⟨rfl, ⟨_, HP.out.1⟩, _, _, _, _, _, _, _, _, rfl⟩
    · have HP := hid (R0.out.end_ ht g2 O2)
      clear o1 o2 g1 g2 O2 ht
      go_wp2
      simp only [Exit.jump]
      go_ret
      rw [← HP.out.1]
      exact ⟨rfl, HP.out.2⟩
  · clear R0
    rintro a w' ⟨⟨s', hR⟩, u3, u4, u5, u6, u7, u8, u9, u10, rfl⟩
    have R0 := hid hR
    clear hR
    go_wp2_with fail
    refine (gturn_c s' b t w' R0.out.gs.lt R0.out.g).mono ?_
    rintro e w1 ⟨rfl, g1, o1⟩
    go_wp2_with fail
    refine (gturn_c (gT s') b t w1 (gT_lt R0.out.gs.lt) g1).mono ?_
    rintro e w2 ⟨rfl, g2, o2⟩
    have O2 := o1.trans o2
    cases ht : gtap s'
    · have HP := hid (R0.out.pass ht g2 O2)
      clear o1 o2 g1 g2 O2 ht
      go_wp2
      go_step3
      exact ⟨rfl, ⟨⟨_, HP.out.1⟩, _, _, _, _, _, _, _, _, rfl⟩, HP.out.2⟩
    · have HP := hid (R0.out.end_ ht g2 O2)
      clear o1 o2 g1 g2 O2 ht
      go_wp2
      simp only [Exit.jump]
      go_ret
      rw [← HP.out.1]
      exact ⟨rfl, HP.out.2⟩
end Go.Proofs.YtpjjobophplleaaDoor
