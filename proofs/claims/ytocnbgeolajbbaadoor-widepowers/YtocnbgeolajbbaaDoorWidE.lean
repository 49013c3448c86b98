/-
  (*Ring).Reduce, Read: what each call does.
-/
import Derived.Test.YtocnbgeolajbbaaDoorWidD
namespace Go.Proofs.YtocnbgeolajbbaaDoor
open Go.RowKit
set_option linter.unusedVariables false

theorem RingP.cell {w : World} {b X : Nat} (h : RingP w b X) : ∃ p, w.cell? ⟨b, 0, none⟩ = some (.pointer (some ⟨p, 0, none⟩)) ∧ ModP w p (ds X) := by
  obtain ⟨p, h1, h2, h3⟩ := h
  exact ⟨p, h1, h3⟩

set_option maxRecDepth 20000 in
set_option maxHeartbeats 2000000 in
theorem rReduce_c (b M : Nat) (A : Option Addr) (n c : Nat) (bs : List Nat) (w : World) (hR : RingP w b M) (ha : Rd8 w w.heap.size A n bs) (hn : n ≤ 1000) (hm : M < W12) :
    Calls Tryd.prog 17 #[.pointer (some ⟨b, 0, none⟩), .slice A n c] w fun e w' => e = .returned (num (val 256 bs % M)) ∧ Below w.heap.size w w' := by
  have hl0 := (Below.refl w.heap.size w).alloc (Nat.le_refl _) (z12 28)
  have hZ0 := z12_new w 28
  have hR0 := hR.up hl0
  have ra := ha.up hl0 (Nat.le_refl _)
  have VM := hid (ds_val M hm)
  have HL := hid hl0
  have HZ := hid hZ0
  obtain ⟨Z, hZ⟩ : ∃ Z, Z = val 256 bs % M := ⟨_, rfl⟩
  rw [← hZ]
  have EZ := hid hZ
  clear hl0 hZ0 hR ha hm hZ
  go_enter Tryd.func17, Tryd.ntmps17
  go_wp2_with fail
  change Code.wp _ _ _ _ (w.alloc (z12 28))
  generalize w.alloc (z12 28) = w0 at *
  have ra : Rd8 w0.drew w0.drew.heap.size A n bs := ⟨ra.len, ra.lt, ra.cells⟩
  have hR1 : RingP w0.drew b M := hR0.up ((Below.refl _ _).drew)
  have HZ1 : Hid (BlkW w0.drew w.heap.size 28 (List.replicate 12 0)) := HZ.out.drewN 1
  have HL1 : Hid (Below w.heap.size w w0.drew) := HL.out.drew
  obtain ⟨p, h1, hM⟩ := hR1.cell
  have HR1 := hid hR1
  clear hR0 HZ HL hR1
  go_region_with (first
    | (go_at_call 31
       refine (limbWords_c A n c bs _ ra hn).mono ?_
       rintro e w1 ⟨A1, c1, l1, rfl, hc1, r1, v1, b1⟩
       have h1' : w1.cell? ⟨b, 0, none⟩ = some (.pointer (some ⟨p, 0, none⟩)) := (b1.cell (p := ⟨b, 0, none⟩) (by obtain ⟨_, _, h, _⟩ := HR1.out; exact h)).trans h1
       have hM1 := hM.keep b1 hM.lt
       have HV1 := hid v1
       clear v1)
    | (go_at_call 41
       refine (reduce_c A1 _ c1 p l1 (ds M) w1 r1 hM1 (by omega)).mono ?_
       rintro e w2 ⟨A2, c2, l2, rfl, hc2, r2, v2, b2⟩
       rw [ds_len] at r2 hc2 ⊢
       rw [HV1.out, VM.out, ← EZ.out] at v2
       have HV2 := hid v2
       clear v2)
    | (go_at_call 34
       refine (numberOf_c A2 12 c2 l2 w2 r2 (by decide)).mono ?_
       rintro e w3 ⟨rfl, b3⟩
       rw [HV2.out]
       have hl1 := HL1.out.trans (b1.mono HL1.out.size)
       have hl2 := hl1.trans (b2.mono hl1.size)
       have hl3 := hl2.trans (b3.mono hl2.size)
       have hZ1 := HZ1.out.below b1 HZ1.out.size
       have hZ2 := hZ1.below b2 hZ1.size
       have hZ3 := hZ2.below b3 hZ2.size
       obtain ⟨hst, HR⟩ := num_stored (X := Z) hZ3
       have hlen := dsc_len Z
       unfold num))
  all_goals
    go_wp2
    refine bodyPost_ret (num_result Tryd.results17 rfl HR) rfl ?_
    exact ⟨rfl, below_cells (Nat.le_refl _) _ _ _ hl3⟩
end Go.Proofs.YtocnbgeolajbbaaDoor
