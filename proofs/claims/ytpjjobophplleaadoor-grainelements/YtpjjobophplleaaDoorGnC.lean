import Derived.Test.YtpjjobophplleaaDoorGnA
import Derived.Deep.RegionLaw
import Derived.Deep.RegionWith
import Derived.Deep.QuietTactic
import Derived.BigQuiet
import Derived.WalkMore
import Derived.ScopeJumps
/-
  grain.register.turn: what the call does.
-/
namespace Go.Proofs.YtpjjobophplleaaDoor
open Go.RowKit
set_option linter.unusedVariables false

set_option maxRecDepth 20000 in
set_option maxHeartbeats 2000000 in
theorem gturn_c (s b : Nat) (t : TypeId) (w : World) (hs : s < g80) (hB : G8 w b t s) :
    Calls Tryd.prog 16 #[.pointer (some ⟨b, 0, none⟩)] w fun e w' => e = .returned (.int .u8 ((gtap s).toNat : Int)) ∧ G8 w' b t (gT s) ∧ Only b w w' := by
  have c62 := hB.bit (i := 62) (by decide)
  have c51 := hB.bit (i := 51) (by decide)
  have c38 := hB.bit (i := 38) (by decide)
  have c23 := hB.bit (i := 23) (by decide)
  have c13 := hB.bit (i := 13) (by decide)
  have c0 := hB.bit (i := 0) (by decide)
  have HT := hid (tap_u8 s)
  have HS := hid hs
  have HB := hid hB
  clear hs hB
  generalize ((s.testBit 62).toNat : Int) = x62 at *
  generalize ((s.testBit 51).toNat : Int) = x51 at *
  generalize ((s.testBit 38).toNat : Int) = x38 at *
  generalize ((s.testBit 23).toNat : Int) = x23 at *
  generalize ((s.testBit 13).toNat : Int) = x13 at *
  generalize ((s.testBit 0).toNat : Int) = x0 at *
  obtain ⟨y, hy⟩ : ∃ y : Nat, y = (gtap s).toNat := ⟨_, rfl⟩
  rw [← hy] at HT ⊢
  have HY := hid hy
  clear hy
  go_enter Tryd.func16, Tryd.ntmps16
  go_wp2
  go_quiet (fail)
  rw [HT.out]
  have HB2 := hid (HB.out.drewN nq)
  have HSR : Hid (∀ j v, (cells8 ((g8 s).drop 1))[j]? = some v → (w.drewN nq).drew.cell? ((⟨b, 1, none⟩ : Addr).add j) = some v) := by
    intro j v hj
    have hj2 : j < 79 := by
      have := (List.getElem?_eq_some_iff.1 hj).1
      unfold cells8 at this
      rw [List.length_map, List.length_drop, g8_len] at this
      exact this
    rw [Addr.add_mid, ← hj]
    show w.cell? ⟨b, 1 + j, none⟩ = _
    rw [HB.out.bit (by omega)]
    unfold cells8 g8
    rw [List.getElem?_map, List.getElem?_drop, List.getElem?_map, List.getElem?_range (by omega)]
    rfl
  have HO : Hid (Only b w (w.drewN nq)) := ⟨rfl, rfl, rfl, Nat.le_refl _, fun _ _ _ => rfl⟩
  clear c62 c51 c38 c23 c13 c0 HT
  go_wp2
  go_region_law (
    refine step_copy_only rfl (.tmp 35) (.tmp 38) 62 62 rfl 5 Tryd.underlying62 (by kernel_rfl) b 0 80 80 ⟨b, 1, none⟩ 79 79 rfl rfl
          _ t HB2.out.drew.heap (cells8 ((g8 s).drop 1)) (by unfold cells8; rw [List.length_map, List.length_drop, g8_len]; rfl) HSR.out (by rw [c8_leng]; unfold cells8; rw [List.length_map, List.length_drop, g8_len]; decide) (by intro v hv; unfold cells8 at hv; obtain ⟨x, _, rfl⟩ := List.mem_map.1 hv; rfl) ?_; intro w2 hg2 ho2)
  have h2 := hg2.out
  rw [cells8_splice] at h2
  have f79 := h2.frozen 79
  have hl2 : (splice (g8 s) 0 ((g8 s).drop 1)).length = 80 := by
    unfold splice
    simp only [List.length_append, List.length_take, List.length_drop, g8_len]
    omega
  have c79 := BlkV.cell8 h2 (i := 79) (by rw [hl2]; decide)
  have HE : Hid (G8 (w2.setCell ⟨b, 79, none⟩ (.int .u8 (y : Int))) b t (gT s)) := by
    have := h2.set 79 (.int .u8 (y : Int))
    rw [cells8_set, HY.out, g8_turn HS.out, ← HY.out] at this
    exact this
  have HO2 : Hid (Only b w (w2.setCell ⟨b, 79, none⟩ (.int .u8 (y : Int)))) := ((HO.out.drew).trans ho2).set _ _
  clear h2 hl2 hg2 ho2 HO HSR HB2 HB
  go_wp2
  go_ret
  exact ⟨rfl, HE.out, HO2.out⟩
end Go.Proofs.YtpjjobophplleaaDoor
/-
  grain.register.next: what the call does.
-/
namespace Go.Proofs.YtpjjobophplleaaDoor
open Go.RowKit
set_option linter.unusedVariables false

theorem gnx_zero {s : Nat} (h : GS s) (h1 : gtap s = true) : gnx s = 0 := gnx_eq h h1 fun j hj => by omega
theorem gnx_succ {s : Nat} (h : GS s) (h0 : gtap s = false) : gnx s = gnx (gIt 2 s) + 1 := by
  obtain ⟨g1, g2⟩ := gnx_spec (h.it 2)
  have key : ∀ j, gIt (2 * (j + 1)) s = gIt (2 * j) (gIt 2 s) := fun j => by
    rw [show 2 * (j + 1) = 2 + 2 * j by omega, gIt_add]
  refine gnx_eq h ?_ fun j hj => ?_
  · rw [key]
    exact g1
  · rcases Nat.eq_zero_or_pos j with e | e
    · subst e
      exact h0
    · obtain ⟨i, rfl⟩ : ∃ i, j = i + 1 := ⟨j - 1, by omega⟩
      rw [key]
      exact g2 i (by omega)
theorem ghd_succ {s : Nat} (h : GS s) (h0 : gtap s = false) : ghd (gIt 2 s) = ghd s := by
  unfold ghd
  rw [gnx_succ h h0, show 2 * (gnx (gIt 2 s) + 1) = 2 + 2 * gnx (gIt 2 s) by omega, gIt_add]
theorem ghd_zero {s : Nat} (h : GS s) (h1 : gtap s = true) : ghd s = s := by
  unfold ghd
  rw [gnx_zero h h1]
  rfl
theorem g80_ext {x y : Nat} (hx : x < g80) (hy : y < g80) (h : ∀ i, i < 80 → x.testBit i = y.testBit i) : x = y := by
  apply Nat.eq_of_testBit_eq
  intro i
  rcases Nat.lt_or_ge i 80 with c | c
  · exact h i c
  · rw [bit_big hx c, bit_big hy c]
theorem BlkV.same {w : World} {b : Nat} {t : TypeId} {us vs : List Value} (h : BlkV w b t us) (k : BlkV w b t vs) : us = vs := by
  have e := h.heap.symm.trans k.heap
  injection e with e
  injection e with e
  exact Array.toList_inj.2 e |> fun z => by simpa using z
theorem G8.inj {w : World} {b : Nat} {t : TypeId} {x y : Nat} (h : G8 w b t x) (k : G8 w b t y) (hx : x < g80) (hy : y < g80) : x = y :=
  g80_ext hx hy fun i hi => by
    have h1 := h.bit hi
    rw [k.bit hi] at h1
    injection h1 with h1
    injection h1 with _ h1
    revert h1
    cases x.testBit i <;> cases y.testBit i <;> decide
/-- The register that lies in a block. -/
noncomputable def regAt (w : World) (b : Nat) (t : TypeId) : Nat := open Classical in if h : ∃ s, s < g80 ∧ G8 w b t s then Classical.choose h else 0
theorem regAt_eq {w : World} {b : Nat} {t : TypeId} {s : Nat} (h : G8 w b t s) (hs : s < g80) : regAt w b t = s := by
  have hx : ∃ s, s < g80 ∧ G8 w b t s := ⟨s, hs, h⟩
  have hc := Classical.choose_spec hx
  unfold regAt
  rw [dif_pos hx]
  exact hc.2.inj h hc.1 hs

/-- The register on the way: its next bit is the one that is looked for. -/
structure NxR (w : World) (b : Nat) (t : TypeId) (s s' : Nat) (wr : World) : Prop where
  gs : GS s'
  g : G8 wr b t s'
  o : Only b w wr
  hb : gbit s' = gbit s
  hn : gnext s' = gnext s
theorem NxR.pass {w : World} {b : Nat} {t : TypeId} {s s' : Nat} {wr w2 : World} (h : NxR w b t s s' wr) (h0 : gtap s' = false) (g2 : G8 w2 b t (gT (gT s'))) (o2 : Only b wr w2) : NxR w b t s (gT (gT s')) w2 ∧ gnx (regAt w2 b t) < gnx (regAt wr b t) := by
  have e : gT (gT s') = gIt 2 s' := rfl
  have g3 := h.gs.it 2
  rw [e] at g2 ⊢
  refine ⟨⟨g3, g2, h.o.trans o2, ?_, ?_⟩, ?_⟩
  · rw [← h.hb]
    unfold gbit
    rw [ghd_succ h.gs h0]
  · rw [← h.hn]
    unfold gnext
    rw [ghd_succ h.gs h0]
  · rw [regAt_eq g2 g3.lt, regAt_eq h.g h.gs.lt, gnx_succ h.gs h0]
    exact Nat.lt_succ_self _
theorem NxR.end_ {w : World} {b : Nat} {t : TypeId} {s s' : Nat} {wr w2 : World} (h : NxR w b t s s' wr) (h0 : gtap s' = true) (g2 : G8 w2 b t (gT (gT s'))) (o2 : Only b wr w2) : gtap (gT s') = gbit s ∧ G8 w2 b t (gnext s) ∧ Only b w w2 := by
  refine ⟨?_, ?_, h.o.trans o2⟩
  · rw [← h.hb]
    unfold gbit
    rw [ghd_zero h.gs h0]
  · rw [← h.hn]
    unfold gnext
    rw [ghd_zero h.gs h0]
    exact g2
set_option maxRecDepth 20000 in
set_option maxHeartbeats 2000000 in
theorem gnext_c (s b : Nat) (t : TypeId) (w : World) (hs : GS s) (hB : G8 w b t s) :
    Calls Tryd.prog 28 #[.pointer (some ⟨b, 0, none⟩)] w fun e w' => e = .returned (.int .u8 ((gbit s).toNat : Int)) ∧ G8 w' b t (gnext s) ∧ Only b w w' := by
  have R0 : Hid (NxR w b t s s w) := ⟨hs, hB, Only.refl _ _, rfl, rfl⟩
  clear hs hB
  go_enter Tryd.func28, Tryd.ntmps28
  go_wp2
  refine wp_scope_jumps 0 (fun a' w' => (∃ s', NxR w b t s s' w') ∧ ∃ u3 u4 u5 u6 u7 u8 u9 u10 : Value, a' = { tmps := #[.pointer (some ⟨b, 0, none⟩), undef, .int .u8 0, u3, u4, u5, u6, u7, u8, u9, u10, undef], defers := [] }) (fun _ w' => gnx (regAt w' b t)) rfl ?_ ?_
  · go_wp2
    go_step3
    go_wp2_with fail
    refine (gturn_c s b t w R0.out.gs.lt R0.out.g).mono ?_
    rintro e w1 ⟨rfl, g1, o1⟩
    go_wp2_with fail
    refine (gturn_c (gT s) b t w1 (gT_lt R0.out.gs.lt) g1).mono ?_
    rintro e w2 ⟨rfl, g2, o2⟩
    have O2 := o1.trans o2
    cases ht : gtap s
    · have HP := hid (R0.out.pass ht g2 O2)
      clear o1 o2 g1 g2 O2 ht
      go_wp2
      go_step3
      exact ⟨rfl, ⟨_, HP.out.1⟩, _, _, _, _, _, _, _, _, rfl⟩
    · have HP := hid (R0.out.end_ ht g2 O2)
      clear o1 o2 g1 g2 O2 ht
      go_wp2
      simp only [Exit.jump]
      go_ret
      rw [← HP.out.1]
      exact ⟨rfl, HP.out.2⟩
  · clear R0
    rintro a w' ⟨⟨s', hR⟩, u3, u4, u5, u6, u7, u8, u9, u10, rfl⟩
    have R0 := hid hR
    clear hR
    go_wp2_with fail
    refine (gturn_c s' b t w' R0.out.gs.lt R0.out.g).mono ?_
    rintro e w1 ⟨rfl, g1, o1⟩
    go_wp2_with fail
    refine (gturn_c (gT s') b t w1 (gT_lt R0.out.gs.lt) g1).mono ?_
    rintro e w2 ⟨rfl, g2, o2⟩
    have O2 := o1.trans o2
    cases ht : gtap s'
    · have HP := hid (R0.out.pass ht g2 O2)
      clear o1 o2 g1 g2 O2 ht
      go_wp2
      go_step3
      exact ⟨rfl, ⟨⟨_, HP.out.1⟩, _, _, _, _, _, _, _, _, rfl⟩, HP.out.2⟩
    · have HP := hid (R0.out.end_ ht g2 O2)
      clear o1 o2 g1 g2 O2 ht
      go_wp2
      simp only [Exit.jump]
      go_ret
      rw [← HP.out.1]
      exact ⟨rfl, HP.out.2⟩
end Go.Proofs.YtpjjobophplleaaDoor
