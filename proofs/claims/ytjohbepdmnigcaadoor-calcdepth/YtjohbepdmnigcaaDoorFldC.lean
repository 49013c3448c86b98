/-
  field.sum, field.difference; the elements, by the numbers that they are (El).
-/
import Derived.Test.YtjohbepdmnigcaaDoorFldB
import Derived.Test.YtjohbepdmnigcaaDoorFldN
namespace Go.Proofs.YtjohbepdmnigcaaDoor
open Go.RowKit
set_option linter.unusedVariables false

theorem prime4 : W4 4891460686036598785 2896914383306846353 13281191951274694749 3486998266802970665 := ⟨⟨by decide, by decide⟩, ⟨by decide, by decide⟩, ⟨by decide, by decide⟩, ⟨by decide, by decide⟩⟩
theorem n4_prime : n4 4891460686036598785 2896914383306846353 13281191951274694749 3486998266802970665 = prm := by decide
theorem n4_lt {a0 a1 a2 a3 : Int} (h : W4 a0 a1 a2 a3) : n4 a0 a1 a2 a3 < 115792089237316195423570985008687907853269984665640564039457584007913129639936 := by
  obtain ⟨⟨x0, y0⟩, ⟨x1, y1⟩, ⟨x2, y2⟩, ⟨x3, y3⟩⟩ := h
  unfold n4; omega

set_option maxRecDepth 20000 in
theorem fsum_c (a0 a1 a2 a3 b0 b1 b2 b3 : Int) (w : World) (ha : W4 a0 a1 a2 a3) (hb : W4 b0 b1 b2 b3) (hG : Glob w) (hp : Hid (n4 a0 a1 a2 a3 < prm)) (hq : Hid (n4 b0 b1 b2 b3 < prm)) :
    Calls Tryd.prog 69 #[w4 a0 a1 a2 a3, w4 b0 b1 b2 b3] w fun e w' => ∃ r0 r1 r2 r3 : Int, e = .returned (w4 r0 r1 r2 r3) ∧ W4 r0 r1 r2 r3 ∧ n4 r0 r1 r2 r3 < prm ∧
      (n4 r0 r1 r2 r3 = n4 a0 a1 a2 a3 + n4 b0 b1 b2 b3 ∨ n4 r0 r1 r2 r3 + prm = n4 a0 a1 a2 a3 + n4 b0 b1 b2 b3) ∧ Below w.heap.size w w' := by
  unfold w4
  go_enter Tryd.func69, Tryd.ntmps69
  go_wp2_with fail
  refine (fadd_c a0 a1 a2 a3 b0 b1 b2 b3 _ ha hb).mono ?_
  rintro e w1 ⟨s0, s1, s2, s3, c, rfl, hs, hc0, hc1, he, hb1⟩
  obtain ⟨hA1, hB1, hZ1, hl1, hs1⟩ := box2 (ta := 38) (tb := 38) (tz := 38) hb1
  have HE : Hid (n4 s0 s1 s2 s3 = n4 a0 a1 a2 a3 + n4 b0 b1 b2 b3 ∧ n4 s0 s1 s2 s3 < 2 * prm) := by
    have h1 := hp.out
    have h2 := hq.out
    have h3 := n4_nonneg hs
    generalize n4 s0 s1 s2 s3 = N at *
    generalize n4 a0 a1 a2 a3 = A at *
    generalize n4 b0 b1 b2 b3 = B at *
    unfold prm at *
    constructor <;> omega
  have hG1 := hG.up hl1
  clear he hc0 hc1 hb1 hA1 hB1
  unfold w4
  go_wp2_with fail
  refine (fbelow_c s0 s1 s2 s3 _ hs hG1 (hid HE.out.2)).mono ?_
  rintro e w2 ⟨r0, r1, r2, r3, rfl, hr, hlt, hor, hb2⟩
  have hZ2 := hZ1.below hb2 hZ1.size
  have hl2 := hl1.trans (hb2.mono hl1.size)
  have R : Hid (W4 r0 r1 r2 r3 ∧ n4 r0 r1 r2 r3 < prm ∧ (n4 r0 r1 r2 r3 = n4 a0 a1 a2 a3 + n4 b0 b1 b2 b3 ∨ n4 r0 r1 r2 r3 + prm = n4 a0 a1 a2 a3 + n4 b0 b1 b2 b3)) := by
    rw [← HE.out.1]; exact ⟨hr, hlt, hor⟩
  have z0 := hZ2.c0
  have z1 := hZ2.c1
  have z2 := hZ2.c2
  have z3 := hZ2.c3
  have fz := hZ2.frozen
  clear hlt hor hr hs hb2 hZ1 hZ2 hG1 hG
  unfold w4
  go_wp2
  refine bodyPost_ret (by simp [results, Tryd.results69, go_sem, z0, z1, z2, z3]; rfl) rfl ?_
  exact ⟨r0, r1, r2, r3, rfl, R.out.1, R.out.2.1, R.out.2.2, by go_grown⟩

set_option maxRecDepth 20000 in
theorem fdiff_c (a0 a1 a2 a3 b0 b1 b2 b3 : Int) (w : World) (ha : W4 a0 a1 a2 a3) (hb : W4 b0 b1 b2 b3) (hG : Glob w) (hp : Hid (n4 a0 a1 a2 a3 < prm)) (hq : Hid (n4 b0 b1 b2 b3 < prm)) :
    Calls Tryd.prog 70 #[w4 a0 a1 a2 a3, w4 b0 b1 b2 b3] w fun e w' => ∃ r0 r1 r2 r3 : Int, e = .returned (w4 r0 r1 r2 r3) ∧ W4 r0 r1 r2 r3 ∧ n4 r0 r1 r2 r3 < prm ∧
      (n4 r0 r1 r2 r3 + n4 b0 b1 b2 b3 = n4 a0 a1 a2 a3 ∨ n4 r0 r1 r2 r3 + n4 b0 b1 b2 b3 = n4 a0 a1 a2 a3 + prm) ∧ Below w.heap.size w w' := by
  unfold w4
  go_enter Tryd.func70, Tryd.ntmps70
  go_wp2_with fail
  refine (fsubtract_c a0 a1 a2 a3 b0 b1 b2 b3 _ ha hb).mono ?_
  rintro e w1 ⟨s0, s1, s2, s3, c, rfl, hs, hc0, hc1, he, hb1⟩
  obtain ⟨hA1, hB1, hZ1, hl1, hs1⟩ := box2 (ta := 38) (tb := 38) (tz := 38) hb1
  have hG1 := hG.up hl1
  have hZ2 := hZ1.alloc (o4 38 s0 s1 s2 s3)
  have hG2 := hG1.up ((Below.refl _ _).alloc (Nat.le_refl _) (o4 38 s0 s1 s2 s3))
  have hl2 := hl1.alloc (by omega) (o4 38 s0 s1 s2 s3)
  clear hb1 hA1 hB1
  by_cases hc : c = 0
  · subst hc
    have z0 : (w1.alloc (.cells #[.int .u64 s0, .int .u64 s1, .int .u64 s2, .int .u64 s3] 38)).cell? ⟨w.heap.size + 1 + 1, 0, none⟩ = some (.int .u64 0) := hZ2.c0
    have z1 : (w1.alloc (.cells #[.int .u64 s0, .int .u64 s1, .int .u64 s2, .int .u64 s3] 38)).cell? ⟨w.heap.size + 1 + 1, 1, none⟩ = some (.int .u64 0) := hZ2.c1
    have z2 : (w1.alloc (.cells #[.int .u64 s0, .int .u64 s1, .int .u64 s2, .int .u64 s3] 38)).cell? ⟨w.heap.size + 1 + 1, 2, none⟩ = some (.int .u64 0) := hZ2.c2
    have z3 : (w1.alloc (.cells #[.int .u64 s0, .int .u64 s1, .int .u64 s2, .int .u64 s3] 38)).cell? ⟨w.heap.size + 1 + 1, 3, none⟩ = some (.int .u64 0) := hZ2.c3
    have fz : ∀ i, (w1.alloc (.cells #[.int .u64 s0, .int .u64 s1, .int .u64 s2, .int .u64 s3] 38)).frozen? ⟨w.heap.size + 1 + 1, i, none⟩ = false := hZ2.frozen
    have R : Hid (W4 s0 s1 s2 s3 ∧ n4 s0 s1 s2 s3 < prm ∧ (n4 s0 s1 s2 s3 + n4 b0 b1 b2 b3 = n4 a0 a1 a2 a3 ∨ n4 s0 s1 s2 s3 + n4 b0 b1 b2 b3 = n4 a0 a1 a2 a3 + prm)) := by
      have h1 := hp.out
      have h2 := n4_nonneg hb
      exact ⟨hs, by omega, Or.inl (by omega)⟩
    clear he hZ1 hZ2 hG1 hG2
    unfold w4
    go_wp2
    refine bodyPost_ret (by simp [results, Tryd.results70, go_sem, z0, z1, z2, z3]; rfl) rfl ?_
    exact ⟨s0, s1, s2, s3, rfl, R.out.1, R.out.2.1, R.out.2.2, by go_grown⟩
  · have hc' : (c == 0) = false := by simpa using hc
    have g0 : (w1.alloc (.cells #[.int .u64 s0, .int .u64 s1, .int .u64 s2, .int .u64 s3] 38)).cell? ⟨2, 0, none⟩ = some (.int .u64 4891460686036598785) := hG2.p0
    have g1 : (w1.alloc (.cells #[.int .u64 s0, .int .u64 s1, .int .u64 s2, .int .u64 s3] 38)).cell? ⟨2, 1, none⟩ = some (.int .u64 2896914383306846353) := hG2.p1
    have g2 : (w1.alloc (.cells #[.int .u64 s0, .int .u64 s1, .int .u64 s2, .int .u64 s3] 38)).cell? ⟨2, 2, none⟩ = some (.int .u64 13281191951274694749) := hG2.p2
    have g3 : (w1.alloc (.cells #[.int .u64 s0, .int .u64 s1, .int .u64 s2, .int .u64 s3] 38)).cell? ⟨2, 3, none⟩ = some (.int .u64 3486998266802970665) := hG2.p3
    have h1 : c = 1 := by omega
    subst h1
    have HE := hid he
    clear he
    unfold w4
    go_wp2_with fail
    refine (fadd_c s0 s1 s2 s3 _ _ _ _ _ hs prime4).mono ?_
    rintro e w2 ⟨r0, r1, r2, r3, d, rfl, hr, hd0, hd1, he2, hb2⟩
    have hZ3 := hZ2.below hb2 hZ2.size
    have hl3 := hl2.trans (hb2.mono hl2.size)
    have z0 := hZ3.c0
    have z1 := hZ3.c1
    have z2 := hZ3.c2
    have z3 := hZ3.c3
    have fz := hZ3.frozen
    have R : Hid (W4 r0 r1 r2 r3 ∧ n4 r0 r1 r2 r3 < prm ∧ (n4 r0 r1 r2 r3 + n4 b0 b1 b2 b3 = n4 a0 a1 a2 a3 ∨ n4 r0 r1 r2 r3 + n4 b0 b1 b2 b3 = n4 a0 a1 a2 a3 + prm)) := by
      have h0 := HE.out
      have h1 := hp.out
      have h2 := hq.out
      have h3 := n4_nonneg hr
      have h4 := n4_lt hr
      have h5 := n4_lt hs
      have h6 := n4_nonneg ha
      rw [n4_prime] at he2
      refine ⟨hr, ?_, Or.inr ?_⟩ <;>
      · generalize n4 r0 r1 r2 r3 = N at *
        generalize n4 s0 s1 s2 s3 = M at *
        generalize n4 a0 a1 a2 a3 = A at *
        generalize n4 b0 b1 b2 b3 = B at *
        unfold prm at *
        omega
    clear hZ1 hZ2 hZ3 hG1 hG2 g0 g1 g2 g3 hb2 he2 hd0 hd1 hr
    unfold w4
    go_wp2
    refine bodyPost_ret (by simp [results, Tryd.results70, go_sem, z0, z1, z2, z3]; rfl) rfl ?_
    exact ⟨r0, r1, r2, r3, rfl, R.out.1, R.out.2.1, R.out.2.2, by go_grown⟩
end Go.Proofs.YtjohbepdmnigcaaDoor
