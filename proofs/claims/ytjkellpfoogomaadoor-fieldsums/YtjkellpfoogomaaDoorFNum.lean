import Derived.Test.YtjkellpfoogomaaDoorFldG
import Derived.Test.YtjkellpfoogomaaDoorFldN
/-
  field.Prime, (Element).Bytes: what each call does.
-/
namespace Go.Proofs.YtjkellpfoogomaaDoor
open Go.RowKit
set_option linter.unusedVariables false

set_option maxRecDepth 20000 in
set_option maxHeartbeats 2000000 in
theorem prime_c (w : World) (hG : Glob w) :
    Calls Tryd.prog 11 #[] w fun e w' => ∃ r, e = .returned r ∧ By r pN ∧ Below w.heap.size w w' := by
  have hZ0 := o32_new w 34
  have hl0 := (Below.refl w.heap.size w).alloc (Nat.le_refl _) (o32 34)
  have hG0 := hG.up hl0
  have g0 := hG.p0
  have g1 := hG.p1
  have g2 := hG.p2
  have g3 := hG.p3
  have szP := hG.sizeP
  have HZ := hid hZ0
  have HL := hid hl0
  clear hZ0 hl0 hG0 hG
  go_enter Tryd.func11, Tryd.ntmps11
  go_wp2_with fail
  refine (bytesOf_c _ _ _ _ _ prime4 pN (hid (n4_prime.trans prm_eq))).mono ?_
  rintro e w1 ⟨r, rfl, hr, hb1⟩
  have hl1 := HL.out.trans (Below.mono (B' := w.heap.size) hb1 HL.out.size)
  have hZ1 : BlkB w1 w.heap.size 34 (List.replicate 32 0) := HZ.out.below hb1 HZ.out.size
  have HR := hid hr
  obtain ⟨lr, rfl, hl, _, _⟩ := hr
  have hlen : (cells8 lr).length = 32 := by simp [cells8, hl]
  have hth := hZ1.there
  have hran := hid (World.rangeAt_setCells_same w1 w.heap.size 0 (cells8 lr) (by rw [hlen]; exact hth))
  have hst := store8 w.heap.size lr w1 (by rw [hl]; exact hth)
  have HE := hid hlen
  clear hb1 hZ1 hth HL HZ g0 g1 g2 g3 hl
  go_wp2
  refine bodyPost_ret (results_cell1 Tryd.results11 ⟨w.heap.size, 0, none⟩ _ rfl (run_loadVar_mid _ w.heap.size 0 34 (cells8 lr) _ hran.out Tryd.underlying34 rfl (size32.trans (congrArg some HE.out.symm)))) rfl ?_
  exact ⟨_, rfl, HR.out, below_cells (Nat.le_refl _) _ _ _ hl1⟩

theorem one4 : W4 1 0 0 0 := ⟨⟨by decide, by decide⟩, ⟨by decide, by decide⟩, ⟨by decide, by decide⟩, ⟨by decide, by decide⟩⟩
theorem el_back {r0 r1 r2 r3 : Int} {x : Nat} {A : Int} (hx : x < pN) (hW : W4 r0 r1 r2 r3) (h1 : n4 r0 r1 r2 r3 < prm) (hA : A = ((mo x : Nat) : Int))
    (h : ∃ T : Int, n4 r0 r1 r2 r3 * 115792089237316195423570985008687907853269984665640564039457584007913129639936 = A * n4 1 0 0 0 + prm * T) : n4 r0 r1 r2 r3 = (x : Int) := by
  obtain ⟨n, e, hn⟩ := nat_of (n4_nonneg hW) h1
  obtain ⟨T, h⟩ := h
  rw [e, hA, show n4 1 0 0 0 = ((1 : Nat) : Int) by decide] at h
  rw [e]
  exact_mod_cast mo_back hn hx (int_mod h)

set_option maxRecDepth 20000 in
set_option maxHeartbeats 2000000 in
theorem ebytes_c (u : Value) (x : Nat) (w : World) (hu : El u x) (hG : Glob w) :
    Calls Tryd.prog 15 #[u] w fun e w' => ∃ r, e = .returned r ∧ By r x ∧ Below w.heap.size w w' := by
  obtain ⟨a0, a1, a2, a3, rfl, ha, hx, ea⟩ := hu
  have EA := hid ea
  have pa : Hid (n4 a0 a1 a2 a3 < prm) := hid (by rw [ea]; exact mo_prm x)
  have HX := hid hx
  have hZ0 := o32_new (w.alloc (o4 27 a0 a1 a2 a3)) 34
  have hl0 := ((Below.refl w.heap.size w).alloc (Nat.le_refl _) (o4 27 a0 a1 a2 a3)).alloc (by simp) (o32 34)
  rw [show (w.alloc (o4 27 a0 a1 a2 a3)).heap.size = w.heap.size + 1 by simp] at hZ0
  have hG0 := hG.up hl0
  have HZ := hid hZ0
  have HL := hid hl0
  clear ea hx hZ0 hl0
  unfold w4
  go_enter Tryd.func15, Tryd.ntmps15
  go_wp2_with fail
  refine (product_c a0 a1 a2 a3 1 0 0 0 _ ha one4 hG0 pa).mono ?_
  rintro e w1 ⟨r0, r1, r2, r3, rfl, hr, hlt, hT, hb1⟩
  have HB := hid (el_back HX.out hr hlt EA.out hT)
  have hl1 := HL.out.trans (Below.mono (B' := w.heap.size) hb1 HL.out.size)
  have hZ1 : BlkB w1 (w.heap.size + 1) 34 (List.replicate 32 0) := HZ.out.below hb1 HZ.out.size
  clear hlt hT hb1 hG0 ha HZ HL
  unfold w4
  go_wp2_with fail
  refine (bytesOf_c r0 r1 r2 r3 w1 hr x HB).mono ?_
  rintro e w2 ⟨r, rfl, hr2, hb2⟩
  have hl2 := hl1.trans (hb2.mono hl1.size)
  have hZ2 : BlkB w2 (w.heap.size + 1) 34 (List.replicate 32 0) := hZ1.below hb2 hZ1.size
  have HR := hid hr2
  obtain ⟨lr, rfl, hl, _, _⟩ := hr2
  have hlen : (cells8 lr).length = 32 := by simp [cells8, hl]
  have hth := hZ2.there
  have hran := hid (World.rangeAt_setCells_same w2 (w.heap.size + 1) 0 (cells8 lr) (by rw [hlen]; exact hth))
  have hst := store8 (w.heap.size + 1) lr w2 (by rw [hl]; exact hth)
  have HE := hid hlen
  clear hb2 hZ1 hZ2 hth hl hr hl1
  go_wp2
  refine bodyPost_ret (results_cell1 Tryd.results15 ⟨w.heap.size + 1, 0, none⟩ _ rfl (run_loadVar_mid _ (w.heap.size + 1) 0 34 (cells8 lr) _ hran.out Tryd.underlying34 rfl (size32.trans (congrArg some HE.out.symm)))) rfl ?_
  exact ⟨_, rfl, HR.out, below_cells (by omega) _ _ _ hl2⟩
end Go.Proofs.YtjkellpfoogomaaDoor
/-
  Powers modulo a number, reckoned by squaring: plain arithmetic, nothing of the program.
-/
namespace Go.Proofs.YtjkellpfoogomaaDoor

/-- b to the power of e modulo m, by the bits of e (at most as many as the first number says). -/
def pm (m : Nat) : Nat → Nat → Nat → Nat
  | 0, _, _ => 1 % m
  | f + 1, b, e => if e % 2 = 1 then b * pm m f (b * b % m) (e / 2) % m else pm m f (b * b % m) (e / 2)
theorem pm_eq (m : Nat) : ∀ (f b e : Nat), e < 2 ^ f → pm m f b e = b ^ e % m
  | 0, b, e, h => by
    have : e = 0 := by simpa using h
    subst this
    simp [pm]
  | f + 1, b, e, h => by
    have h2 : e / 2 < 2 ^ f := by rw [Nat.pow_succ] at h; omega
    have ih := pm_eq m f (b * b % m) (e / 2) h2
    have e1 : (b * b % m) ^ (e / 2) % m = b ^ (2 * (e / 2)) % m := by
      rw [← Nat.pow_mod, Nat.pow_mul, Nat.pow_two]
    unfold pm
    rw [ih, e1]
    split
    · rename_i ho
      rw [Nat.mul_mod_mod, ← Nat.pow_succ', show (2 * (e / 2)).succ = e by omega]
    · rename_i he
      rw [show 2 * (e / 2) = e by omega]
/-- The inverse of 2. -/
theorem inv_two : 2 ^ (pN - 2) % pN = 10944121435919637611123202872628637544274182200208017171849102093287904247809 := by
  rw [← pm_eq pN 254 2 (pN - 2) (by decide)]
  kernel_rfl
end Go.Proofs.YtjkellpfoogomaaDoor
