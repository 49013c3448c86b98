/-
  grain.register.turn: what the call does.
-/
import Derived.Test.YtpjjobophplleaaDoorGnA
import Derived.Deep.RegionLaw
import Derived.Deep.RegionWith
import Derived.Deep.QuietTactic
import Derived.BigQuiet
namespace Go.Proofs.YtpjjobophplleaaDoor
open Go.RowKit
set_option linter.unusedVariables false

set_option maxRecDepth 20000 in
set_option maxHeartbeats 2000000 in
theorem gturn_c (s b : Nat) (t : TypeId) (w : World) (hs : s < g80) (hB : G8 w b t s) :
    Calls Tryd.prog 16 #[.pointer (some ⟨b, 0, none⟩)] w fun e w' => e = .returned (.int .u8 ((gtap s).toNat : Int)) ∧ G8 w' b t (gT s) ∧ Only b w w' := by
  have c62 := hB.bit (i := 62) (by decide)
  have c51 := hB.bit (i := 51) (by decide)
  have c38 := hB.bit (i := 38) (by decide)
  have c23 := hB.bit (i := 23) (by decide)
  have c13 := hB.bit (i := 13) (by decide)
  have c0 := hB.bit (i := 0) (by decide)
  have HT := hid (tap_u8 s)
  have HS := hid hs
  have HB := hid hB
  clear hs hB
  generalize ((s.testBit 62).toNat : Int) = x62 at *
  generalize ((s.testBit 51).toNat : Int) = x51 at *
  generalize ((s.testBit 38).toNat : Int) = x38 at *
  generalize ((s.testBit 23).toNat : Int) = x23 at *
  generalize ((s.testBit 13).toNat : Int) = x13 at *
  generalize ((s.testBit 0).toNat : Int) = x0 at *
  obtain ⟨y, hy⟩ : ∃ y : Nat, y = (gtap s).toNat := ⟨_, rfl⟩
  rw [← hy] at HT ⊢
  have HY := hid hy
  clear hy
  go_enter Tryd.func16, Tryd.ntmps16
  go_wp2
  go_quiet (fail)
  rw [HT.out]
  have HB2 := hid (HB.out.drewN nq)
  have HSR : Hid (∀ j v, (cells8 ((g8 s).drop 1))[j]? = some v → (w.drewN nq).drew.cell? ((⟨b, 1, none⟩ : Addr).add j) = some v) := by
    intro j v hj
    have hj2 : j < 79 := by
      have := (List.getElem?_eq_some_iff.1 hj).1
      unfold cells8 at this
      rw [List.length_map, List.length_drop, g8_len] at this
      exact this
    rw [Addr.add_mid, ← hj]
    show w.cell? ⟨b, 1 + j, none⟩ = _
    rw [HB.out.bit (by omega)]
    unfold cells8 g8
    rw [List.getElem?_map, List.getElem?_drop, List.getElem?_map, List.getElem?_range (by omega)]
    rfl
  have HO : Hid (Only b w (w.drewN nq)) := ⟨rfl, rfl, rfl, Nat.le_refl _, fun _ _ _ => rfl⟩
  clear c62 c51 c38 c23 c13 c0 HT
  go_wp2
  go_region_law (
    refine step_copy_only rfl (.tmp 35) (.tmp 38) 62 62 rfl 5 Tryd.underlying62 (by kernel_rfl) b 0 80 80 ⟨b, 1, none⟩ 79 79 rfl rfl
          _ t HB2.out.drew.heap (cells8 ((g8 s).drop 1)) (by unfold cells8; rw [List.length_map, List.length_drop, g8_len]; rfl) HSR.out (by rw [c8_leng]; unfold cells8; rw [List.length_map, List.length_drop, g8_len]; decide) (by intro v hv; unfold cells8 at hv; obtain ⟨x, _, rfl⟩ := List.mem_map.1 hv; rfl) ?_; intro w2 hg2 ho2)
  have h2 := hg2.out
  rw [cells8_splice] at h2
  have f79 := h2.frozen 79
  have hl2 : (splice (g8 s) 0 ((g8 s).drop 1)).length = 80 := by
    unfold splice
    simp only [List.length_append, List.length_take, List.length_drop, g8_len]
    omega
  have c79 := BlkV.cell8 h2 (i := 79) (by rw [hl2]; decide)
  have HE : Hid (G8 (w2.setCell ⟨b, 79, none⟩ (.int .u8 (y : Int))) b t (gT s)) := by
    have := h2.set 79 (.int .u8 (y : Int))
    rw [cells8_set, HY.out, g8_turn HS.out, ← HY.out] at this
    exact this
  have HO2 : Hid (Only b w (w2.setCell ⟨b, 79, none⟩ (.int .u8 (y : Int)))) := ((HO.out.drew).trans ho2).set _ _
  clear h2 hl2 hg2 ho2 HO HSR HB2 HB
  go_wp2
  go_ret
  exact ⟨rfl, HE.out, HO2.out⟩
end Go.Proofs.YtpjjobophplleaaDoor
