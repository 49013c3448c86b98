import Derived.Test.YtfonpmahcdmajaaDoorFldB
import Derived.Test.YtfonpmahcdmajaaDoorFldN
import Derived.Laws.StructEq
import Derived.Laws.Tables
import Derived.Test.YtfonpmahcdmajaaDoorLOps
import Derived.Test.YtfonpmahcdmajaaDoorBytesB
/-
  field.sum, field.difference; the elements, by the numbers that they are (El).
-/
namespace Go.Proofs.YtfonpmahcdmajaaDoor
open Go.RowKit
set_option linter.unusedVariables false

theorem prime4 : W4 4891460686036598785 2896914383306846353 13281191951274694749 3486998266802970665 := ⟨⟨by decide, by decide⟩, ⟨by decide, by decide⟩, ⟨by decide, by decide⟩, ⟨by decide, by decide⟩⟩
theorem n4_prime : n4 4891460686036598785 2896914383306846353 13281191951274694749 3486998266802970665 = prm := by decide
theorem n4_lt {a0 a1 a2 a3 : Int} (h : W4 a0 a1 a2 a3) : n4 a0 a1 a2 a3 < 115792089237316195423570985008687907853269984665640564039457584007913129639936 := by
  obtain ⟨⟨x0, y0⟩, ⟨x1, y1⟩, ⟨x2, y2⟩, ⟨x3, y3⟩⟩ := h
  unfold n4; omega

end Go.Proofs.YtfonpmahcdmajaaDoor
/-
  The elements by the numbers that they are (El): Add, Sub, Neg, Mul, Square, Equal, IsZero.
-/
namespace Go.Proofs.YtfonpmahcdmajaaDoor
open Go.RowKit
set_option linter.unusedVariables false

/-- The element of the number x. -/
structure El (v : Value) (x : Nat) : Prop where
  ex : ∃ r0 r1 r2 r3 : Int, v = w4 r0 r1 r2 r3 ∧ W4 r0 r1 r2 r3 ∧ x < pN ∧ n4 r0 r1 r2 r3 = ((mo x : Nat) : Int)
theorem prm_eq : prm = ((pN : Nat) : Int) := rfl
theorem El.lt {v : Value} {x : Nat} (h : El v x) : x < pN := by obtain ⟨_, _, _, _, _, _, h, _⟩ := h; exact h
theorem mo_prm (x : Nat) : ((mo x : Nat) : Int) < prm := by rw [prm_eq]; exact Int.ofNat_lt.mpr (mo_lt x)
theorem El.of {r0 r1 r2 r3 : Int} {x : Nat} (hW : W4 r0 r1 r2 r3) (hx : x < pN) (h : n4 r0 r1 r2 r3 = ((mo x : Nat) : Int)) : El (w4 r0 r1 r2 r3) x := ⟨r0, r1, r2, r3, rfl, hW, hx, h⟩
theorem El.zero : El (w4 0 0 0 0) 0 := ⟨0, 0, 0, 0, rfl, ⟨⟨by decide, by decide⟩, ⟨by decide, by decide⟩, ⟨by decide, by decide⟩, ⟨by decide, by decide⟩⟩, by decide, by decide⟩
theorem nat_of {N : Int} (h0 : 0 ≤ N) (h1 : N < prm) : ∃ n : Nat, N = (n : Int) ∧ n < pN := by
  obtain ⟨n, rfl⟩ := Int.eq_ofNat_of_zero_le h0
  exact ⟨n, rfl, Int.ofNat_lt.mp (by rw [prm_eq] at h1; exact h1)⟩

theorem el_sum {r0 r1 r2 r3 : Int} {x y : Nat} (hW : W4 r0 r1 r2 r3) (h1 : n4 r0 r1 r2 r3 < prm) (h : n4 r0 r1 r2 r3 = ((mo x : Nat) : Int) + ((mo y : Nat) : Int) ∨ n4 r0 r1 r2 r3 + prm = ((mo x : Nat) : Int) + ((mo y : Nat) : Int)) : El (w4 r0 r1 r2 r3) ((x + y) % pN) := by
  obtain ⟨n, e, hn⟩ := nat_of (n4_nonneg hW) h1
  refine El.of hW (Nat.mod_lt _ pN_pos) ?_
  rw [e] at h ⊢
  rw [prm_eq] at h
  exact_mod_cast mo_sum hn (by omega)
theorem el_diff {r0 r1 r2 r3 : Int} {x y : Nat} (hy : y < pN) (hW : W4 r0 r1 r2 r3) (h1 : n4 r0 r1 r2 r3 < prm) (h : n4 r0 r1 r2 r3 + ((mo y : Nat) : Int) = ((mo x : Nat) : Int) ∨ n4 r0 r1 r2 r3 + ((mo y : Nat) : Int) = ((mo x : Nat) : Int) + prm) : El (w4 r0 r1 r2 r3) ((x + (pN - y)) % pN) := by
  obtain ⟨n, e, hn⟩ := nat_of (n4_nonneg hW) h1
  refine El.of hW (Nat.mod_lt _ pN_pos) ?_
  rw [e] at h ⊢
  rw [prm_eq] at h
  exact_mod_cast mo_diff hy hn (by omega)
theorem el_prod {r0 r1 r2 r3 : Int} {x y : Nat} (hW : W4 r0 r1 r2 r3) (h1 : n4 r0 r1 r2 r3 < prm) {A B : Int} (hA : A = ((mo x : Nat) : Int)) (hB : B = ((mo y : Nat) : Int))
    (h : ∃ T : Int, n4 r0 r1 r2 r3 * 115792089237316195423570985008687907853269984665640564039457584007913129639936 = A * B + prm * T) : El (w4 r0 r1 r2 r3) (x * y % pN) := by
  obtain ⟨n, e, hn⟩ := nat_of (n4_nonneg hW) h1
  refine El.of hW (Nat.mod_lt _ pN_pos) ?_
  obtain ⟨T, h⟩ := h
  rw [e, hA, hB] at h
  rw [e]
  exact_mod_cast mo_prod hn (int_mod h)

theorem eq4 (a0 a1 a2 a3 b0 b1 b2 b3 : Int) (w : World) : (Op.equalIn 9999 64 (.agg #[.int .u64 a0, .int .u64 a1, .int .u64 a2, .int .u64 a3]) (.agg #[.int .u64 b0, .int .u64 b1, .int .u64 b2, .int .u64 b3])).run Tryd.prog w = .ok (a0 == b0 && a1 == b1 && a2 == b2 && a3 == b3) w := by
  have u3 := Tryd.underlying22
  have a3' := Tryd.isAgg22
  have z3 := Tryd.sizeOf22
  rw [show (9999 : Nat) = 9998 + 1 from rfl, Op.equalIn]
  simp only [Sem.run_bind, run_underlying Tryd.underlying64, Result.andThen_ok]
  simp only [Std.Legacy.Range.forIn_eq_forIn_range', Std.Legacy.Range.size, Nat.sub_zero, Nat.add_sub_cancel, Nat.div_one, List.range'_succ, List.range'_zero, List.forIn_cons, List.forIn_nil]
  go_simp
  by_cases h0 : a0 = b0 <;> by_cases h1 : a1 = b1 <;> by_cases h2 : a2 = b2 <;> by_cases h3 : a3 = b3 <;> simp [h0, h1, h2, h3]
theorem n4_inj {a0 a1 a2 a3 b0 b1 b2 b3 : Int} (ha : W4 a0 a1 a2 a3) (hb : W4 b0 b1 b2 b3) (h : n4 a0 a1 a2 a3 = n4 b0 b1 b2 b3) : a0 = b0 ∧ a1 = b1 ∧ a2 = b2 ∧ a3 = b3 := by
  obtain ⟨⟨x0, y0⟩, ⟨x1, y1⟩, ⟨x2, y2⟩, ⟨x3, y3⟩⟩ := ha
  obtain ⟨⟨u0, v0⟩, ⟨u1, v1⟩, ⟨u2, v2⟩, ⟨u3, v3⟩⟩ := hb
  unfold n4 at h
  refine ⟨?_, ?_, ?_, ?_⟩ <;> omega
/-- Whether two elements are the same, by their words. -/
theorem el_eq {a0 a1 a2 a3 b0 b1 b2 b3 : Int} {x y : Nat} (ha : El (w4 a0 a1 a2 a3) x) (hb : El (w4 b0 b1 b2 b3) y) : (a0 == b0 && a1 == b1 && a2 == b2 && a3 == b3) = decide (x = y) := by
  obtain ⟨c0, c1, c2, c3, e1, ha, hx, ea⟩ := ha
  obtain ⟨d0, d1, d2, d3, e2, hb, hy, eb⟩ := hb
  simp only [w4, Value.agg.injEq, Array.mk.injEq, List.cons.injEq, Value.int.injEq, true_and, and_true] at e1 e2
  obtain ⟨rfl, rfl, rfl, rfl⟩ := e1
  obtain ⟨rfl, rfl, rfl, rfl⟩ := e2
  by_cases hxy : x = y
  · subst hxy
    obtain ⟨h0, h1, h2, h3⟩ := n4_inj ha hb (ea.trans eb.symm)
    subst h0 h1 h2 h3
    simp
  · have hne : ¬ (a0 = b0 ∧ a1 = b1 ∧ a2 = b2 ∧ a3 = b3) := by
      rintro ⟨rfl, rfl, rfl, rfl⟩
      rw [ea] at eb
      exact hxy (mo_inj hx hy (by exact_mod_cast eb))
    rw [decide_eq_false hxy]
    simp only [Bool.and_eq_false_imp, beq_iff_eq, Bool.and_eq_true]
    simp
    intro h0 h1 h2 h3
    exact hne ⟨h0, h1, h2, h3⟩

end Go.Proofs.YtfonpmahcdmajaaDoor
/-
  field.ofRest, FromUint64, FromWide: what each call does.
-/
namespace Go.Proofs.YtfonpmahcdmajaaDoor
open Go.RowKit
set_option linter.unusedVariables false

theorem val4 (ws : List Nat) (h : ws.length = 4) : ((val 18446744073709551616 ws : Nat) : Int) = n4 (at64 ws 0) (at64 ws 1) (at64 ws 2) (at64 ws 3) := by
  unfold val n4 at64
  rw [h]
  simp only [pv]
  omega
/-- A block that is known as a list, as four words. -/
theorem BlkW.b4 {w : World} {b : Nat} {t : TypeId} {ws : List Nat} (h : BlkW w b t ws) (hl : ws.length = 4) : B4 w b (at64 ws 0) (at64 ws 1) (at64 ws 2) (at64 ws 3) := by
  refine ⟨t, ?_⟩
  rw [h.heap]
  match ws, hl with
  | [a, b, c, d], _ => rfl
theorem w4_of {ws : List Nat} (h : allLt ws) : W4 (at64 ws 0) (at64 ws 1) (at64 ws 2) (at64 ws 3) :=
  ⟨⟨at64_nonneg _ _, at64_lt h _⟩, ⟨at64_nonneg _ _, at64_lt h _⟩, ⟨at64_nonneg _ _, at64_lt h _⟩, ⟨at64_nonneg _ _, at64_lt h _⟩⟩
/-- Four words, as a list. -/
def l4 (a0 a1 a2 a3 : Int) : List Nat := [a0.toNat, a1.toNat, a2.toNat, a3.toNat]
theorem l4_lt {a0 a1 a2 a3 : Int} (h : W4 a0 a1 a2 a3) : allLt (l4 a0 a1 a2 a3) := by
  obtain ⟨⟨x0, y0⟩, ⟨x1, y1⟩, ⟨x2, y2⟩, ⟨x3, y3⟩⟩ := h
  intro x hx
  simp only [l4, List.mem_cons, List.not_mem_nil, or_false] at hx
  rcases hx with rfl | rfl | rfl | rfl <;> omega
theorem l4_at {a0 a1 a2 a3 : Int} (h : W4 a0 a1 a2 a3) : at64 (l4 a0 a1 a2 a3) 0 = a0 ∧ at64 (l4 a0 a1 a2 a3) 1 = a1 ∧ at64 (l4 a0 a1 a2 a3) 2 = a2 ∧ at64 (l4 a0 a1 a2 a3) 3 = a3 := by
  obtain ⟨⟨x0, y0⟩, ⟨x1, y1⟩, ⟨x2, y2⟩, ⟨x3, y3⟩⟩ := h
  refine ⟨?_, ?_, ?_, ?_⟩ <;> simp [at64, l4] <;> omega
theorem l4_val {a0 a1 a2 a3 : Int} (h : W4 a0 a1 a2 a3) : ((val 18446744073709551616 (l4 a0 a1 a2 a3) : Nat) : Int) = n4 a0 a1 a2 a3 := by
  rw [val4 _ rfl]
  obtain ⟨e0, e1, e2, e3⟩ := l4_at h
  rw [e0, e1, e2, e3]
/-- Four words in memory, read as a slice. -/
theorem B4.rd {w : World} {b B : Nat} {a0 a1 a2 a3 : Int} (h : B4 w b a0 a1 a2 a3) (hW : W4 a0 a1 a2 a3) (hB : b < B) : Rd w B (some ⟨b, 0, none⟩) 4 (l4 a0 a1 a2 a3) := by
  refine ⟨rfl, l4_lt hW, fun _ => ⟨b, 0, rfl, hB, fun i hi => ?_⟩⟩
  obtain ⟨e0, e1, e2, e3⟩ := l4_at hW
  have : i = 0 ∨ i = 1 ∨ i = 2 ∨ i = 3 := by omega
  rcases this with rfl | rfl | rfl | rfl
  · rw [e0]; exact h.c0
  · rw [e1]; exact h.c1
  · rw [e2]; exact h.c2
  · rw [e3]; exact h.c3

theorem raise4 : W4 1997599621687373223 6052339484930628067 10108755138030829701 150537098327114917 := ⟨⟨by decide, by decide⟩, ⟨by decide, by decide⟩, ⟨by decide, by decide⟩, ⟨by decide, by decide⟩⟩
/-- The element of a number, by the product with the rest of 2^512. -/
theorem el_raise {r0 r1 r2 r3 : Int} {x : Nat} {A : Int} (hx : x < pN) (hW : W4 r0 r1 r2 r3) (h1 : n4 r0 r1 r2 r3 < prm) (hA : A = (x : Int))
    (h : ∃ T : Int, n4 r0 r1 r2 r3 * 115792089237316195423570985008687907853269984665640564039457584007913129639936 = A * n4 1997599621687373223 6052339484930628067 10108755138030829701 150537098327114917 + prm * T) : El (w4 r0 r1 r2 r3) x := by
  obtain ⟨n, e, hn⟩ := nat_of (n4_nonneg hW) h1
  refine El.of hW hx ?_
  obtain ⟨T, h⟩ := h
  rw [e, hA, show n4 1997599621687373223 6052339484930628067 10108755138030829701 150537098327114917 = ((944936681149208446651664254269745548490766851729442924617792859073125903783 : Nat) : Int) by decide] at h
  rw [e]
  exact_mod_cast mo_raise hn (int_mod h)

set_option maxRecDepth 20000 in
set_option maxHeartbeats 1000000 in
theorem ofRest_c (A : Option Addr) (n c : Nat) (l : List Nat) (w : World) (ha : Rd w w.heap.size A n l) (hn : n ≤ 4) (hp : Hid (val 18446744073709551616 l < pN)) (hG : Glob w) :
    Calls Tryd.prog 79 #[.slice A n c] w fun e w' => ∃ r, e = .returned r ∧ El r (val 18446744073709551616 l) ∧ Below w.heap.size w w' := by
  have hB0 : BlkW ((w.alloc (o4 66 0 0 0 0)).alloc (o4 64 0 0 0 0)) (w.heap.size + 1) 64 (List.replicate 4 0) := by
    have h := heap_alloc_new (w.alloc (o4 66 0 0 0 0)) (o4 64 0 0 0 0)
    rw [show (w.alloc (o4 66 0 0 0 0)).heap.size = w.heap.size + 1 by simp] at h
    exact ⟨h, by intro x hx; have := List.eq_of_mem_replicate hx; omega⟩
  have hl0 : Below w.heap.size w (w.alloc (o4 66 0 0 0 0)) := (Below.refl w.heap.size w).alloc (Nat.le_refl _) _
  have hz0 := o4_new w 66 0 0 0 0
  have hl1 : Below (w.heap.size + 1) (w.alloc (o4 66 0 0 0 0)) ((w.alloc (o4 66 0 0 0 0)).alloc (o4 64 0 0 0 0)) := (Below.refl _ _).alloc (by simp) _
  have ra : Rd ((w.alloc (o4 66 0 0 0 0)).alloc (o4 64 0 0 0 0)) w.heap.size A n l := (ha.below hl0 (Nat.le_refl _)).below hl1 (by omega)
  unfold o4 at hB0 hl0 hl1 hz0 ra
  have HL0 := hid hl0
  go_enter Tryd.func79, Tryd.ntmps79
  go_wp2_with (with_reducible refine copy_words (tb := 64) rfl (.tmp 4) (.tmp 5) rfl (w.heap.size + 1) 4 4 rfl A n c w.heap.size l rfl ra hn hB0 hl1 ?_)
  intro w1 hB1 hb1
  have hz1 := hz0.below hb1 (by omega)
  have hl2 := HL0.out.trans (hb1.mono (by omega))
  have hlen : (l ++ List.replicate (4 - n) 0).length = 4 := by rw [List.length_append, ha.len, List.length_replicate]; omega
  have hb4 := hB1.b4 hlen
  have hw4 := w4_of hB1.lt
  have hv := val4 _ hlen
  rw [val_app_zeros] at hv
  obtain ⟨a0, e0⟩ : ∃ x, x = at64 (l ++ List.replicate (4 - n) 0) 0 := ⟨_, rfl⟩
  obtain ⟨a1, e1⟩ : ∃ x, x = at64 (l ++ List.replicate (4 - n) 0) 1 := ⟨_, rfl⟩
  obtain ⟨a2, e2⟩ : ∃ x, x = at64 (l ++ List.replicate (4 - n) 0) 2 := ⟨_, rfl⟩
  obtain ⟨a3, e3⟩ : ∃ x, x = at64 (l ++ List.replicate (4 - n) 0) 3 := ⟨_, rfl⟩
  rw [← e0, ← e1, ← e2, ← e3] at hb4 hw4 hv
  have HV := hid hv
  have hpa : Hid (n4 a0 a1 a2 a3 < prm) := hid (by rw [← hv, prm_eq]; exact Int.ofNat_lt.mpr hp.out)
  have hG1 := hG.up hl2
  have c0 := hb4.c0
  have c1 := hb4.c1
  have c2 := hb4.c2
  have c3 := hb4.c3
  have g0 := hG1.r0
  have g1 := hG1.r1
  have g2 := hG1.r2
  have g3 := hG1.r3
  clear hv e0 e1 e2 e3 hB1 hb1 hlen hb4 hB0 hl0 hl1 hz0 ra
  go_wp2_with fail
  refine (product_c a0 a1 a2 a3 _ _ _ _ w1 hw4 raise4 hG1 hpa).mono ?_
  rintro e w2 ⟨r0, r1, r2, r3, rfl, hr, hlt, hT, hb2⟩
  have hz2 := hz1.below hb2 hz1.size
  have hl3 := hl2.trans (hb2.mono hl2.size)
  have R := hid (el_raise hp.out hr hlt HV.out.symm hT)
  have z0 := hz2.c0
  have z1 := hz2.c1
  have z2 := hz2.c2
  have z3 := hz2.c3
  have fz := hz2.frozen
  clear hr hlt hT hb2 hz1 hz2 hG1 g0 g1 g2 g3 c0 c1 c2 c3 hw4
  unfold w4
  go_wp2
  refine bodyPost_ret (by simp [results, Tryd.results79, go_sem, z0, z1, z2, z3]; rfl) rfl ?_
  exact ⟨_, rfl, R.out, by go_grown⟩
end Go.Proofs.YtfonpmahcdmajaaDoor
