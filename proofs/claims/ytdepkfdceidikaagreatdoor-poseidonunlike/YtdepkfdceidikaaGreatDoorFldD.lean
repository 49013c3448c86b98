import Derived.Test.YtdepkfdceidikaaGreatDoorFldB
import Derived.Test.YtdepkfdceidikaaGreatDoorFldN
import Derived.Laws.StructEq
import Derived.Laws.Tables
/-
  field.sum, field.difference; the elements, by the numbers that they are (El).
-/
namespace Go.Proofs.YtdepkfdceidikaaGreatDoor
open Go.RowKit
set_option linter.unusedVariables false

theorem prime4 : W4 4891460686036598785 2896914383306846353 13281191951274694749 3486998266802970665 := ⟨⟨by decide, by decide⟩, ⟨by decide, by decide⟩, ⟨by decide, by decide⟩, ⟨by decide, by decide⟩⟩
theorem n4_prime : n4 4891460686036598785 2896914383306846353 13281191951274694749 3486998266802970665 = prm := by decide
theorem n4_lt {a0 a1 a2 a3 : Int} (h : W4 a0 a1 a2 a3) : n4 a0 a1 a2 a3 < 115792089237316195423570985008687907853269984665640564039457584007913129639936 := by
  obtain ⟨⟨x0, y0⟩, ⟨x1, y1⟩, ⟨x2, y2⟩, ⟨x3, y3⟩⟩ := h
  unfold n4; omega

set_option maxRecDepth 20000 in
theorem fsum_c (a0 a1 a2 a3 b0 b1 b2 b3 : Int) (w : World) (ha : W4 a0 a1 a2 a3) (hb : W4 b0 b1 b2 b3) (hG : Glob w) (hp : Hid (n4 a0 a1 a2 a3 < prm)) (hq : Hid (n4 b0 b1 b2 b3 < prm)) :
    Calls Tryz.prog 43 #[w4 a0 a1 a2 a3, w4 b0 b1 b2 b3] w fun e w' => ∃ r0 r1 r2 r3 : Int, e = .returned (w4 r0 r1 r2 r3) ∧ W4 r0 r1 r2 r3 ∧ n4 r0 r1 r2 r3 < prm ∧
      (n4 r0 r1 r2 r3 = n4 a0 a1 a2 a3 + n4 b0 b1 b2 b3 ∨ n4 r0 r1 r2 r3 + prm = n4 a0 a1 a2 a3 + n4 b0 b1 b2 b3) ∧ Below w.heap.size w w' := by
  unfold w4
  go_enter Tryz.func43, Tryz.ntmps43
  go_wp2_with fail
  refine (fadd_c a0 a1 a2 a3 b0 b1 b2 b3 _ ha hb).mono ?_
  rintro e w1 ⟨s0, s1, s2, s3, c, rfl, hs, hc0, hc1, he, hb1⟩
  obtain ⟨hA1, hB1, hZ1, hl1, hs1⟩ := box2 (ta := 35) (tb := 35) (tz := 35) hb1
  have HE : Hid (n4 s0 s1 s2 s3 = n4 a0 a1 a2 a3 + n4 b0 b1 b2 b3 ∧ n4 s0 s1 s2 s3 < 2 * prm) := by
    have h1 := hp.out
    have h2 := hq.out
    have h3 := n4_nonneg hs
    generalize n4 s0 s1 s2 s3 = N at *
    generalize n4 a0 a1 a2 a3 = A at *
    generalize n4 b0 b1 b2 b3 = B at *
    unfold prm at *
    constructor <;> omega
  have hG1 := hG.up hl1
  clear he hc0 hc1 hb1 hA1 hB1
  unfold w4
  go_wp2_with fail
  refine (fbelow_c s0 s1 s2 s3 _ hs hG1 (hid HE.out.2)).mono ?_
  rintro e w2 ⟨r0, r1, r2, r3, rfl, hr, hlt, hor, hb2⟩
  have hZ2 := hZ1.below hb2 hZ1.size
  have hl2 := hl1.trans (hb2.mono hl1.size)
  have R : Hid (W4 r0 r1 r2 r3 ∧ n4 r0 r1 r2 r3 < prm ∧ (n4 r0 r1 r2 r3 = n4 a0 a1 a2 a3 + n4 b0 b1 b2 b3 ∨ n4 r0 r1 r2 r3 + prm = n4 a0 a1 a2 a3 + n4 b0 b1 b2 b3)) := by
    rw [← HE.out.1]; exact ⟨hr, hlt, hor⟩
  have z0 := hZ2.c0
  have z1 := hZ2.c1
  have z2 := hZ2.c2
  have z3 := hZ2.c3
  have fz := hZ2.frozen
  clear hlt hor hr hs hb2 hZ1 hZ2 hG1 hG
  unfold w4
  go_wp2
  refine bodyPost_ret (by simp [results, Tryz.results43, go_sem, z0, z1, z2, z3]; rfl) rfl ?_
  exact ⟨r0, r1, r2, r3, rfl, R.out.1, R.out.2.1, R.out.2.2, by go_grown⟩

end Go.Proofs.YtdepkfdceidikaaGreatDoor
/-
  The elements by the numbers that they are (El): Add, Sub, Neg, Mul, Square, Equal, IsZero.
-/
namespace Go.Proofs.YtdepkfdceidikaaGreatDoor
open Go.RowKit
set_option linter.unusedVariables false

/-- The element of the number x. -/
structure El (v : Value) (x : Nat) : Prop where
  ex : ∃ r0 r1 r2 r3 : Int, v = w4 r0 r1 r2 r3 ∧ W4 r0 r1 r2 r3 ∧ x < pN ∧ n4 r0 r1 r2 r3 = ((mo x : Nat) : Int)
theorem prm_eq : prm = ((pN : Nat) : Int) := rfl
theorem El.lt {v : Value} {x : Nat} (h : El v x) : x < pN := by obtain ⟨_, _, _, _, _, _, h, _⟩ := h; exact h
theorem mo_prm (x : Nat) : ((mo x : Nat) : Int) < prm := by rw [prm_eq]; exact Int.ofNat_lt.mpr (mo_lt x)
theorem El.of {r0 r1 r2 r3 : Int} {x : Nat} (hW : W4 r0 r1 r2 r3) (hx : x < pN) (h : n4 r0 r1 r2 r3 = ((mo x : Nat) : Int)) : El (w4 r0 r1 r2 r3) x := ⟨r0, r1, r2, r3, rfl, hW, hx, h⟩
theorem El.zero : El (w4 0 0 0 0) 0 := ⟨0, 0, 0, 0, rfl, ⟨⟨by decide, by decide⟩, ⟨by decide, by decide⟩, ⟨by decide, by decide⟩, ⟨by decide, by decide⟩⟩, by decide, by decide⟩
theorem nat_of {N : Int} (h0 : 0 ≤ N) (h1 : N < prm) : ∃ n : Nat, N = (n : Int) ∧ n < pN := by
  obtain ⟨n, rfl⟩ := Int.eq_ofNat_of_zero_le h0
  exact ⟨n, rfl, Int.ofNat_lt.mp (by rw [prm_eq] at h1; exact h1)⟩

theorem el_sum {r0 r1 r2 r3 : Int} {x y : Nat} (hW : W4 r0 r1 r2 r3) (h1 : n4 r0 r1 r2 r3 < prm) (h : n4 r0 r1 r2 r3 = ((mo x : Nat) : Int) + ((mo y : Nat) : Int) ∨ n4 r0 r1 r2 r3 + prm = ((mo x : Nat) : Int) + ((mo y : Nat) : Int)) : El (w4 r0 r1 r2 r3) ((x + y) % pN) := by
  obtain ⟨n, e, hn⟩ := nat_of (n4_nonneg hW) h1
  refine El.of hW (Nat.mod_lt _ pN_pos) ?_
  rw [e] at h ⊢
  rw [prm_eq] at h
  exact_mod_cast mo_sum hn (by omega)
theorem el_diff {r0 r1 r2 r3 : Int} {x y : Nat} (hy : y < pN) (hW : W4 r0 r1 r2 r3) (h1 : n4 r0 r1 r2 r3 < prm) (h : n4 r0 r1 r2 r3 + ((mo y : Nat) : Int) = ((mo x : Nat) : Int) ∨ n4 r0 r1 r2 r3 + ((mo y : Nat) : Int) = ((mo x : Nat) : Int) + prm) : El (w4 r0 r1 r2 r3) ((x + (pN - y)) % pN) := by
  obtain ⟨n, e, hn⟩ := nat_of (n4_nonneg hW) h1
  refine El.of hW (Nat.mod_lt _ pN_pos) ?_
  rw [e] at h ⊢
  rw [prm_eq] at h
  exact_mod_cast mo_diff hy hn (by omega)
theorem el_prod {r0 r1 r2 r3 : Int} {x y : Nat} (hW : W4 r0 r1 r2 r3) (h1 : n4 r0 r1 r2 r3 < prm) {A B : Int} (hA : A = ((mo x : Nat) : Int)) (hB : B = ((mo y : Nat) : Int))
    (h : ∃ T : Int, n4 r0 r1 r2 r3 * 115792089237316195423570985008687907853269984665640564039457584007913129639936 = A * B + prm * T) : El (w4 r0 r1 r2 r3) (x * y % pN) := by
  obtain ⟨n, e, hn⟩ := nat_of (n4_nonneg hW) h1
  refine El.of hW (Nat.mod_lt _ pN_pos) ?_
  obtain ⟨T, h⟩ := h
  rw [e, hA, hB] at h
  rw [e]
  exact_mod_cast mo_prod hn (int_mod h)

set_option maxRecDepth 20000 in
theorem eadd_c (u v : Value) (x y : Nat) (w : World) (hu : El u x) (hv : El v y) (hG : Glob w) :
    Calls Tryz.prog 21 #[u, v] w fun e w' => ∃ r, e = .returned r ∧ El r ((x + y) % pN) ∧ Below w.heap.size w w' := by
  obtain ⟨a0, a1, a2, a3, rfl, ha, hx, ea⟩ := hu
  obtain ⟨b0, b1, b2, b3, rfl, hb, hy, eb⟩ := hv
  have EA := hid ea
  have EB := hid eb
  have pa : Hid (n4 a0 a1 a2 a3 < prm) := hid (by rw [ea]; exact mo_prm x)
  have pb : Hid (n4 b0 b1 b2 b3 < prm) := hid (by rw [eb]; exact mo_prm y)
  have HX := hid hx
  have HY := hid hy
  clear ea eb hx hy
  unfold w4
  go_enter Tryz.func21, Tryz.ntmps21
  have hl0 := (((Below.refl w.heap.size w).alloc (Nat.le_refl _) (o4 37 a0 a1 a2 a3)).alloc (by simp) (o4 37 b0 b1 b2 b3)).alloc (by simp; omega) (o4 37 0 0 0 0)
  have hG0 := hG.up hl0
  clear hl0
  go_wp2_with fail
  refine (fsum_c a0 a1 a2 a3 b0 b1 b2 b3 _ ha hb hG0 pa pb).mono ?_
  rintro e w1 ⟨r0, r1, r2, r3, rfl, hr, hlt, hor, hb1⟩
  obtain ⟨hA1, hB1, hZ1, hl1, hs1⟩ := box2 (ta := 37) (tb := 37) (tz := 37) hb1
  have R := hid (el_sum (x := x) (y := y) hr hlt (by rw [EA.out, EB.out] at hor; exact hor))
  have z0 := hZ1.c0
  have z1 := hZ1.c1
  have z2 := hZ1.c2
  have z3 := hZ1.c3
  have fz := hZ1.frozen
  clear hb1 hA1 hB1 hZ1 hlt hor hr hG0 hG ha hb
  unfold w4
  go_wp2
  refine bodyPost_ret (by simp [results, Tryz.results21, go_sem, z0, z1, z2, z3]; rfl) rfl ?_
  exact ⟨_, rfl, R.out, by go_grown⟩

set_option maxRecDepth 20000 in
theorem emul_c (u v : Value) (x y : Nat) (w : World) (hu : El u x) (hv : El v y) (hG : Glob w) :
    Calls Tryz.prog 45 #[u, v] w fun e w' => ∃ r, e = .returned r ∧ El r (x * y % pN) ∧ Below w.heap.size w w' := by
  obtain ⟨a0, a1, a2, a3, rfl, ha, hx, ea⟩ := hu
  obtain ⟨b0, b1, b2, b3, rfl, hb, hy, eb⟩ := hv
  have EA := hid ea
  have EB := hid eb
  have pa : Hid (n4 a0 a1 a2 a3 < prm) := hid (by rw [ea]; exact mo_prm x)
  have pb : Hid (n4 b0 b1 b2 b3 < prm) := hid (by rw [eb]; exact mo_prm y)
  have HX := hid hx
  have HY := hid hy
  clear ea eb hx hy
  unfold w4
  go_enter Tryz.func45, Tryz.ntmps45
  have hl0 := (((Below.refl w.heap.size w).alloc (Nat.le_refl _) (o4 37 a0 a1 a2 a3)).alloc (by simp) (o4 37 b0 b1 b2 b3)).alloc (by simp; omega) (o4 37 0 0 0 0)
  have hG0 := hG.up hl0
  clear hl0
  go_wp2_with fail
  refine (product_c a0 a1 a2 a3 b0 b1 b2 b3 _ ha hb hG0 pa).mono ?_
  rintro e w1 ⟨r0, r1, r2, r3, rfl, hr, hlt, hor, hb1⟩
  obtain ⟨hA1, hB1, hZ1, hl1, hs1⟩ := box2 (ta := 37) (tb := 37) (tz := 37) hb1
  have R := hid (el_prod (x := x) (y := y) hr hlt EA.out EB.out hor)
  have z0 := hZ1.c0
  have z1 := hZ1.c1
  have z2 := hZ1.c2
  have z3 := hZ1.c3
  have fz := hZ1.frozen
  clear hb1 hA1 hB1 hZ1 hlt hor hr hG0 hG ha hb
  unfold w4
  go_wp2
  refine bodyPost_ret (by simp [results, Tryz.results45, go_sem, z0, z1, z2, z3]; rfl) rfl ?_
  exact ⟨_, rfl, R.out, by go_grown⟩

set_option maxRecDepth 20000 in
theorem esquare_c (u : Value) (x : Nat) (w : World) (hu : El u x) (hG : Glob w) :
    Calls Tryz.prog 44 #[u] w fun e w' => ∃ r, e = .returned r ∧ El r (x * x % pN) ∧ Below w.heap.size w w' := by
  have HU := hid hu
  obtain ⟨a0, a1, a2, a3, rfl, ha, hx, ea⟩ := hu
  clear ha hx ea
  unfold w4
  go_enter Tryz.func44, Tryz.ntmps44
  have hl0 := ((Below.refl w.heap.size w).alloc (Nat.le_refl _) (o4 37 a0 a1 a2 a3)).alloc (by simp) (o4 37 0 0 0 0)
  have hG0 := hG.up hl0
  clear hl0
  go_wp2_with fail
  refine (emul_c (w4 a0 a1 a2 a3) (w4 a0 a1 a2 a3) x x _ HU.out HU.out hG0).mono ?_
  rintro e w1 ⟨r, rfl, hr, hb1⟩
  obtain ⟨hA1, hZ1, hl1, hs1⟩ := box1 (ta := 37) (tz := 37) hb1
  have hx := HU.out.lt
  have R := hid hr
  obtain ⟨r0, r1, r2, r3, rfl, -, -, -⟩ := hr
  have z0 := hZ1.c0
  have z1 := hZ1.c1
  have z2 := hZ1.c2
  have z3 := hZ1.c3
  have fz := hZ1.frozen
  clear hb1 hA1 hZ1 hG0 hG
  unfold w4
  go_wp2
  refine bodyPost_ret (by simp [results, Tryz.results44, go_sem, z0, z1, z2, z3]; rfl) rfl ?_
  exact ⟨_, rfl, R.out, by go_grown⟩


theorem eq4 (a0 a1 a2 a3 b0 b1 b2 b3 : Int) (w : World) : (Op.equalIn 9999 35 (.agg #[.int .u64 a0, .int .u64 a1, .int .u64 a2, .int .u64 a3]) (.agg #[.int .u64 b0, .int .u64 b1, .int .u64 b2, .int .u64 b3])).run Tryz.prog w = .ok (a0 == b0 && a1 == b1 && a2 == b2 && a3 == b3) w := by
  have u3 := Tryz.underlying34
  have a3' := Tryz.isAgg34
  have z3 := Tryz.sizeOf34
  rw [show (9999 : Nat) = 9998 + 1 from rfl, Op.equalIn]
  simp only [Sem.run_bind, run_underlying Tryz.underlying35, Result.andThen_ok]
  simp only [Std.Legacy.Range.forIn_eq_forIn_range', Std.Legacy.Range.size, Nat.sub_zero, Nat.add_sub_cancel, Nat.div_one, List.range'_succ, List.range'_zero, List.forIn_cons, List.forIn_nil]
  go_simp
  by_cases h0 : a0 = b0 <;> by_cases h1 : a1 = b1 <;> by_cases h2 : a2 = b2 <;> by_cases h3 : a3 = b3 <;> simp [h0, h1, h2, h3]
theorem n4_inj {a0 a1 a2 a3 b0 b1 b2 b3 : Int} (ha : W4 a0 a1 a2 a3) (hb : W4 b0 b1 b2 b3) (h : n4 a0 a1 a2 a3 = n4 b0 b1 b2 b3) : a0 = b0 ∧ a1 = b1 ∧ a2 = b2 ∧ a3 = b3 := by
  obtain ⟨⟨x0, y0⟩, ⟨x1, y1⟩, ⟨x2, y2⟩, ⟨x3, y3⟩⟩ := ha
  obtain ⟨⟨u0, v0⟩, ⟨u1, v1⟩, ⟨u2, v2⟩, ⟨u3, v3⟩⟩ := hb
  unfold n4 at h
  refine ⟨?_, ?_, ?_, ?_⟩ <;> omega
/-- Whether two elements are the same, by their words. -/
theorem el_eq {a0 a1 a2 a3 b0 b1 b2 b3 : Int} {x y : Nat} (ha : El (w4 a0 a1 a2 a3) x) (hb : El (w4 b0 b1 b2 b3) y) : (a0 == b0 && a1 == b1 && a2 == b2 && a3 == b3) = decide (x = y) := by
  obtain ⟨c0, c1, c2, c3, e1, ha, hx, ea⟩ := ha
  obtain ⟨d0, d1, d2, d3, e2, hb, hy, eb⟩ := hb
  simp only [w4, Value.agg.injEq, Array.mk.injEq, List.cons.injEq, Value.int.injEq, true_and, and_true] at e1 e2
  obtain ⟨rfl, rfl, rfl, rfl⟩ := e1
  obtain ⟨rfl, rfl, rfl, rfl⟩ := e2
  by_cases hxy : x = y
  · subst hxy
    obtain ⟨h0, h1, h2, h3⟩ := n4_inj ha hb (ea.trans eb.symm)
    subst h0 h1 h2 h3
    simp
  · have hne : ¬ (a0 = b0 ∧ a1 = b1 ∧ a2 = b2 ∧ a3 = b3) := by
      rintro ⟨rfl, rfl, rfl, rfl⟩
      rw [ea] at eb
      exact hxy (mo_inj hx hy (by exact_mod_cast eb))
    rw [decide_eq_false hxy]
    simp only [Bool.and_eq_false_imp, beq_iff_eq, Bool.and_eq_true]
    simp
    intro h0 h1 h2 h3
    exact hne ⟨h0, h1, h2, h3⟩

set_option maxRecDepth 20000 in
theorem eequal_c (u v : Value) (x y : Nat) (w : World) (hu : El u x) (hv : El v y) :
    Calls Tryz.prog 20 #[u, v] w fun e w' => e = .returned (.bool (decide (x = y))) ∧ Below w.heap.size w w' := by
  have HU := hid hu
  have HV := hid hv
  obtain ⟨a0, a1, a2, a3, rfl, ha, hx, ea⟩ := hu
  obtain ⟨b0, b1, b2, b3, rfl, hb, hy, eb⟩ := hv
  rw [← el_eq HU.out HV.out]
  clear ea eb hx hy ha hb HU HV
  have hq := eq4 a0 a1 a2 a3 b0 b1 b2 b3
  unfold w4
  obtain ⟨q, hq'⟩ : ∃ q, q = (a0 == b0 && a1 == b1 && a2 == b2 && a3 == b3) := ⟨_, rfl⟩
  rw [← hq'] at hq ⊢
  clear hq'
  cases q
  · go_enter Tryz.func20, Tryz.ntmps20
    go_wp2
    go_ret
    exact ⟨rfl, by go_grown⟩
  · go_enter Tryz.func20, Tryz.ntmps20
    go_wp2
    go_ret
    exact ⟨rfl, by go_grown⟩

set_option maxRecDepth 20000 in
theorem eisZero_c (u : Value) (x : Nat) (w : World) (hu : El u x) :
    Calls Tryz.prog 25 #[u] w fun e w' => e = .returned (.bool (decide (x = 0))) ∧ Below w.heap.size w w' := by
  have HU := hid hu
  obtain ⟨a0, a1, a2, a3, rfl, ha, hx, ea⟩ := hu
  rw [← el_eq HU.out El.zero]
  clear ea hx ha HU
  have hq := eq4 a0 a1 a2 a3 0 0 0 0
  unfold w4
  obtain ⟨q, hq'⟩ : ∃ q, q = (a0 == 0 && a1 == 0 && a2 == 0 && a3 == 0) := ⟨_, rfl⟩
  rw [← hq'] at hq ⊢
  clear hq'
  cases q
  · go_enter Tryz.func25, Tryz.ntmps25
    go_wp2
    go_ret
    exact ⟨rfl, by go_grown⟩
  · go_enter Tryz.func25, Tryz.ntmps25
    go_wp2
    go_ret
    exact ⟨rfl, by go_grown⟩
end Go.Proofs.YtdepkfdceidikaaGreatDoor
