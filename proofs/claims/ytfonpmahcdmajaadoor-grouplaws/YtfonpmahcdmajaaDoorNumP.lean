import Derived.Test.YtfonpmahcdmajaaDoorWidD
import Derived.Test.YtfonpmahcdmajaaDoorNum
/-
  (*Ring).Reduce, Read: what each call does.
-/
namespace Go.Proofs.YtfonpmahcdmajaaDoor
open Go.RowKit
set_option linter.unusedVariables false

theorem RingP.cell {w : World} {b X : Nat} (h : RingP w b X) : ∃ p, w.cell? ⟨b, 0, none⟩ = some (.pointer (some ⟨p, 0, none⟩)) ∧ ModP w p (ds X) := by
  obtain ⟨p, h1, h2, h3⟩ := h
  exact ⟨p, h1, h3⟩

set_option maxRecDepth 20000 in
set_option maxHeartbeats 2000000 in
theorem rReduce_c (b M : Nat) (A : Option Addr) (n c : Nat) (bs : List Nat) (w : World) (hR : RingP w b M) (ha : Rd8 w w.heap.size A n bs) (hn : n ≤ 1000) (hm : M < W12) :
    Calls Tryd.prog 12 #[.pointer (some ⟨b, 0, none⟩), .slice A n c] w fun e w' => e = .returned (num (val 256 bs % M)) ∧ Below w.heap.size w w' := by
  have hl0 := (Below.refl w.heap.size w).alloc (Nat.le_refl _) (z12 24)
  have hZ0 := z12_new w 24
  have hR0 := hR.up hl0
  have ra := ha.up hl0 (Nat.le_refl _)
  have VM := hid (ds_val M hm)
  have HL := hid hl0
  have HZ := hid hZ0
  obtain ⟨Z, hZ⟩ : ∃ Z, Z = val 256 bs % M := ⟨_, rfl⟩
  rw [← hZ]
  have EZ := hid hZ
  clear hl0 hZ0 hR ha hm hZ
  go_enter Tryd.func12, Tryd.ntmps12
  go_wp2_with fail
  change Code.wp _ _ _ _ (w.alloc (z12 24))
  generalize w.alloc (z12 24) = w0 at *
  have ra : Rd8 w0.drew w0.drew.heap.size A n bs := ⟨ra.len, ra.lt, ra.cells⟩
  have hR1 : RingP w0.drew b M := hR0.up ((Below.refl _ _).drew)
  have HZ1 : Hid (BlkW w0.drew w.heap.size 24 (List.replicate 12 0)) := HZ.out.drewN 1
  have HL1 : Hid (Below w.heap.size w w0.drew) := HL.out.drew
  obtain ⟨p, h1, hM⟩ := hR1.cell
  have HR1 := hid hR1
  clear hR0 HZ HL hR1
  go_region_with (first
    | (go_at_call 55
       refine (limbWords_c A n c bs _ ra hn).mono ?_
       rintro e w1 ⟨A1, c1, l1, rfl, hc1, r1, v1, b1⟩
       have h1' : w1.cell? ⟨b, 0, none⟩ = some (.pointer (some ⟨p, 0, none⟩)) := (b1.cell (p := ⟨b, 0, none⟩) (by obtain ⟨_, _, h, _⟩ := HR1.out; exact h)).trans h1
       have hM1 := hM.keep b1 hM.lt
       have HV1 := hid v1
       clear v1)
    | (go_at_call 54
       refine (reduce_c A1 _ c1 p l1 (ds M) w1 r1 hM1 (by omega)).mono ?_
       rintro e w2 ⟨A2, c2, l2, rfl, hc2, r2, v2, b2⟩
       rw [ds_len] at r2 hc2 ⊢
       rw [HV1.out, VM.out, ← EZ.out] at v2
       have HV2 := hid v2
       clear v2)
    | (go_at_call 52
       refine (numberOf_c A2 12 c2 l2 w2 r2 (by decide)).mono ?_
       rintro e w3 ⟨rfl, b3⟩
       rw [HV2.out]
       have hl1 := HL1.out.trans (b1.mono HL1.out.size)
       have hl2 := hl1.trans (b2.mono hl1.size)
       have hl3 := hl2.trans (b3.mono hl2.size)
       have hZ1 := HZ1.out.below b1 HZ1.out.size
       have hZ2 := hZ1.below b2 hZ1.size
       have hZ3 := hZ2.below b3 hZ2.size
       obtain ⟨hst, HR⟩ := num_stored (X := Z) hZ3
       have hlen := dsc_len Z
       unfold num))
  all_goals
    go_wp2
    refine bodyPost_ret (num_result Tryd.results12 rfl HR) rfl ?_
    exact ⟨rfl, below_cells (Nat.le_refl _) _ _ _ hl3⟩
end Go.Proofs.YtfonpmahcdmajaaDoor
/-
  Powers modulo a number, reckoned by squaring: plain arithmetic, nothing of the program.
-/
namespace Go.Proofs.YtfonpmahcdmajaaDoor

/-- b to the power of e modulo m, by the bits of e (at most as many as the first number says). -/
def pm (m : Nat) : Nat → Nat → Nat → Nat
  | 0, _, _ => 1 % m
  | f + 1, b, e => if e % 2 = 1 then b * pm m f (b * b % m) (e / 2) % m else pm m f (b * b % m) (e / 2)
theorem pm_eq (m : Nat) : ∀ (f b e : Nat), e < 2 ^ f → pm m f b e = b ^ e % m
  | 0, b, e, h => by
    have : e = 0 := by simpa using h
    subst this
    simp [pm]
  | f + 1, b, e, h => by
    have h2 : e / 2 < 2 ^ f := by rw [Nat.pow_succ] at h; omega
    have ih := pm_eq m f (b * b % m) (e / 2) h2
    have e1 : (b * b % m) ^ (e / 2) % m = b ^ (2 * (e / 2)) % m := by
      rw [← Nat.pow_mod, Nat.pow_mul, Nat.pow_two]
    unfold pm
    rw [ih, e1]
    split
    · rename_i ho
      rw [Nat.mul_mod_mod, ← Nat.pow_succ', show (2 * (e / 2)).succ = e by omega]
    · rename_i he
      rw [show 2 * (e / 2) = e by omega]
end Go.Proofs.YtfonpmahcdmajaaDoor
