import Derived.Test.YtdepkfdceidikaaGreatDoorFldD
import Derived.Test.YtdepkfdceidikaaGreatDoorBytesB
/-
  field.ofRest, FromUint64, FromWide: what each call does.
-/
namespace Go.Proofs.YtdepkfdceidikaaGreatDoor
open Go.RowKit
set_option linter.unusedVariables false

theorem val4 (ws : List Nat) (h : ws.length = 4) : ((val 18446744073709551616 ws : Nat) : Int) = n4 (at64 ws 0) (at64 ws 1) (at64 ws 2) (at64 ws 3) := by
  unfold val n4 at64
  rw [h]
  simp only [pv]
  omega
/-- A block that is known as a list, as four words. -/
theorem BlkW.b4 {w : World} {b : Nat} {t : TypeId} {ws : List Nat} (h : BlkW w b t ws) (hl : ws.length = 4) : B4 w b (at64 ws 0) (at64 ws 1) (at64 ws 2) (at64 ws 3) := by
  refine ⟨t, ?_⟩
  rw [h.heap]
  match ws, hl with
  | [a, b, c, d], _ => rfl
theorem w4_of {ws : List Nat} (h : allLt ws) : W4 (at64 ws 0) (at64 ws 1) (at64 ws 2) (at64 ws 3) :=
  ⟨⟨at64_nonneg _ _, at64_lt h _⟩, ⟨at64_nonneg _ _, at64_lt h _⟩, ⟨at64_nonneg _ _, at64_lt h _⟩, ⟨at64_nonneg _ _, at64_lt h _⟩⟩
/-- Four words, as a list. -/
def l4 (a0 a1 a2 a3 : Int) : List Nat := [a0.toNat, a1.toNat, a2.toNat, a3.toNat]
theorem l4_lt {a0 a1 a2 a3 : Int} (h : W4 a0 a1 a2 a3) : allLt (l4 a0 a1 a2 a3) := by
  obtain ⟨⟨x0, y0⟩, ⟨x1, y1⟩, ⟨x2, y2⟩, ⟨x3, y3⟩⟩ := h
  intro x hx
  simp only [l4, List.mem_cons, List.not_mem_nil, or_false] at hx
  rcases hx with rfl | rfl | rfl | rfl <;> omega
theorem l4_at {a0 a1 a2 a3 : Int} (h : W4 a0 a1 a2 a3) : at64 (l4 a0 a1 a2 a3) 0 = a0 ∧ at64 (l4 a0 a1 a2 a3) 1 = a1 ∧ at64 (l4 a0 a1 a2 a3) 2 = a2 ∧ at64 (l4 a0 a1 a2 a3) 3 = a3 := by
  obtain ⟨⟨x0, y0⟩, ⟨x1, y1⟩, ⟨x2, y2⟩, ⟨x3, y3⟩⟩ := h
  refine ⟨?_, ?_, ?_, ?_⟩ <;> simp [at64, l4] <;> omega
theorem l4_val {a0 a1 a2 a3 : Int} (h : W4 a0 a1 a2 a3) : ((val 18446744073709551616 (l4 a0 a1 a2 a3) : Nat) : Int) = n4 a0 a1 a2 a3 := by
  rw [val4 _ rfl]
  obtain ⟨e0, e1, e2, e3⟩ := l4_at h
  rw [e0, e1, e2, e3]
/-- Four words in memory, read as a slice. -/
theorem B4.rd {w : World} {b B : Nat} {a0 a1 a2 a3 : Int} (h : B4 w b a0 a1 a2 a3) (hW : W4 a0 a1 a2 a3) (hB : b < B) : Rd w B (some ⟨b, 0, none⟩) 4 (l4 a0 a1 a2 a3) := by
  refine ⟨rfl, l4_lt hW, fun _ => ⟨b, 0, rfl, hB, fun i hi => ?_⟩⟩
  obtain ⟨e0, e1, e2, e3⟩ := l4_at hW
  have : i = 0 ∨ i = 1 ∨ i = 2 ∨ i = 3 := by omega
  rcases this with rfl | rfl | rfl | rfl
  · rw [e0]; exact h.c0
  · rw [e1]; exact h.c1
  · rw [e2]; exact h.c2
  · rw [e3]; exact h.c3

theorem raise4 : W4 1997599621687373223 6052339484930628067 10108755138030829701 150537098327114917 := ⟨⟨by decide, by decide⟩, ⟨by decide, by decide⟩, ⟨by decide, by decide⟩, ⟨by decide, by decide⟩⟩
/-- The element of a number, by the product with the rest of 2^512. -/
theorem el_raise {r0 r1 r2 r3 : Int} {x : Nat} {A : Int} (hx : x < pN) (hW : W4 r0 r1 r2 r3) (h1 : n4 r0 r1 r2 r3 < prm) (hA : A = (x : Int))
    (h : ∃ T : Int, n4 r0 r1 r2 r3 * 115792089237316195423570985008687907853269984665640564039457584007913129639936 = A * n4 1997599621687373223 6052339484930628067 10108755138030829701 150537098327114917 + prm * T) : El (w4 r0 r1 r2 r3) x := by
  obtain ⟨n, e, hn⟩ := nat_of (n4_nonneg hW) h1
  refine El.of hW hx ?_
  obtain ⟨T, h⟩ := h
  rw [e, hA, show n4 1997599621687373223 6052339484930628067 10108755138030829701 150537098327114917 = ((944936681149208446651664254269745548490766851729442924617792859073125903783 : Nat) : Int) by decide] at h
  rw [e]
  exact_mod_cast mo_raise hn (int_mod h)

set_option maxRecDepth 20000 in
set_option maxHeartbeats 1000000 in
theorem ofRest_c (A : Option Addr) (n c : Nat) (l : List Nat) (w : World) (ha : Rd w w.heap.size A n l) (hn : n ≤ 4) (hp : Hid (val 18446744073709551616 l < pN)) (hG : Glob w) :
    Calls Tryz.prog 50 #[.slice A n c] w fun e w' => ∃ r, e = .returned r ∧ El r (val 18446744073709551616 l) ∧ Below w.heap.size w w' := by
  have hB0 : BlkW ((w.alloc (o4 37 0 0 0 0)).alloc (o4 35 0 0 0 0)) (w.heap.size + 1) 35 (List.replicate 4 0) := by
    have h := heap_alloc_new (w.alloc (o4 37 0 0 0 0)) (o4 35 0 0 0 0)
    rw [show (w.alloc (o4 37 0 0 0 0)).heap.size = w.heap.size + 1 by simp] at h
    exact ⟨h, by intro x hx; have := List.eq_of_mem_replicate hx; omega⟩
  have hl0 : Below w.heap.size w (w.alloc (o4 37 0 0 0 0)) := (Below.refl w.heap.size w).alloc (Nat.le_refl _) _
  have hz0 := o4_new w 37 0 0 0 0
  have hl1 : Below (w.heap.size + 1) (w.alloc (o4 37 0 0 0 0)) ((w.alloc (o4 37 0 0 0 0)).alloc (o4 35 0 0 0 0)) := (Below.refl _ _).alloc (by simp) _
  have ra : Rd ((w.alloc (o4 37 0 0 0 0)).alloc (o4 35 0 0 0 0)) w.heap.size A n l := (ha.below hl0 (Nat.le_refl _)).below hl1 (by omega)
  unfold o4 at hB0 hl0 hl1 hz0 ra
  have HL0 := hid hl0
  go_enter Tryz.func50, Tryz.ntmps50
  go_wp2_with (with_reducible refine copy_words (tb := 35) rfl (.tmp 4) (.tmp 5) rfl (w.heap.size + 1) 4 4 rfl A n c w.heap.size l rfl ra hn hB0 hl1 ?_)
  intro w1 hB1 hb1
  have hz1 := hz0.below hb1 (by omega)
  have hl2 := HL0.out.trans (hb1.mono (by omega))
  have hlen : (l ++ List.replicate (4 - n) 0).length = 4 := by rw [List.length_append, ha.len, List.length_replicate]; omega
  have hb4 := hB1.b4 hlen
  have hw4 := w4_of hB1.lt
  have hv := val4 _ hlen
  rw [val_app_zeros] at hv
  obtain ⟨a0, e0⟩ : ∃ x, x = at64 (l ++ List.replicate (4 - n) 0) 0 := ⟨_, rfl⟩
  obtain ⟨a1, e1⟩ : ∃ x, x = at64 (l ++ List.replicate (4 - n) 0) 1 := ⟨_, rfl⟩
  obtain ⟨a2, e2⟩ : ∃ x, x = at64 (l ++ List.replicate (4 - n) 0) 2 := ⟨_, rfl⟩
  obtain ⟨a3, e3⟩ : ∃ x, x = at64 (l ++ List.replicate (4 - n) 0) 3 := ⟨_, rfl⟩
  rw [← e0, ← e1, ← e2, ← e3] at hb4 hw4 hv
  have HV := hid hv
  have hpa : Hid (n4 a0 a1 a2 a3 < prm) := hid (by rw [← hv, prm_eq]; exact Int.ofNat_lt.mpr hp.out)
  have hG1 := hG.up hl2
  have c0 := hb4.c0
  have c1 := hb4.c1
  have c2 := hb4.c2
  have c3 := hb4.c3
  have g0 := hG1.r0
  have g1 := hG1.r1
  have g2 := hG1.r2
  have g3 := hG1.r3
  clear hv e0 e1 e2 e3 hB1 hb1 hlen hb4 hB0 hl0 hl1 hz0 ra
  go_wp2_with fail
  refine (product_c a0 a1 a2 a3 _ _ _ _ w1 hw4 raise4 hG1 hpa).mono ?_
  rintro e w2 ⟨r0, r1, r2, r3, rfl, hr, hlt, hT, hb2⟩
  have hz2 := hz1.below hb2 hz1.size
  have hl3 := hl2.trans (hb2.mono hl2.size)
  have R := hid (el_raise hp.out hr hlt HV.out.symm hT)
  have z0 := hz2.c0
  have z1 := hz2.c1
  have z2 := hz2.c2
  have z3 := hz2.c3
  have fz := hz2.frozen
  clear hr hlt hT hb2 hz1 hz2 hG1 g0 g1 g2 g3 c0 c1 c2 c3 hw4
  unfold w4
  go_wp2
  refine bodyPost_ret (by simp [results, Tryz.results50, go_sem, z0, z1, z2, z3]; rfl) rfl ?_
  exact ⟨_, rfl, R.out, by go_grown⟩
end Go.Proofs.YtdepkfdceidikaaGreatDoor
/-
  field.FromUint64, FromWide: what each call does.
-/
namespace Go.Proofs.YtdepkfdceidikaaGreatDoor
open Go.RowKit
set_option linter.unusedVariables false

theorem rdw_one (w : World) (v : Nat) (hv : v < 18446744073709551616) : Rd (w.alloc (.cells #[.int .u64 (v : Int)] 34)) (w.heap.size + 1) (some ⟨w.heap.size, 0, none⟩) 1 [v] := by
  refine ⟨rfl, fun x hx => by simp at hx; omega, fun _ => ⟨w.heap.size, 0, rfl, by omega, fun i hi => ?_⟩⟩
  have : i = 0 := by omega
  subst this
  rw [cell_of_row _ w.heap.size 0 #[.int .u64 (v : Int)] 34 (0, 0) (heap_alloc_new w _)]
  rfl

set_option maxRecDepth 20000 in
set_option maxHeartbeats 1000000 in
theorem fromUint64_c (v : Nat) (w : World) (hv : v < 18446744073709551616) (hG : Glob w) :
    Calls Tryz.prog 26 #[.int .u64 (v : Int)] w fun e w' => ∃ r, e = .returned r ∧ El r v ∧ Below w.heap.size w w' := by
  have hl0 : Below w.heap.size w ((w.alloc (o4 37 0 0 0 0)).alloc (.cells #[.int .u64 (v : Int)] 34)) := ((Below.refl w.heap.size w).alloc (Nat.le_refl _) _).alloc (by simp) _
  have hz0 := (o4_new w 37 0 0 0 0).alloc (.cells #[.int .u64 (v : Int)] 34)
  have hr0 := rdw_one (w.alloc (o4 37 0 0 0 0)) v hv
  have hG0 := hG.up hl0
  have e1 : (w.alloc (o4 37 0 0 0 0)).heap.size = w.heap.size + 1 := by simp
  have e2 : ((w.alloc (o4 37 0 0 0 0)).alloc (.cells #[.int .u64 (v : Int)] 34)).heap.size = w.heap.size + 1 + 1 := by simp
  rw [e1] at hr0
  have hr1 : Rd ((w.alloc (o4 37 0 0 0 0)).alloc (.cells #[.int .u64 (v : Int)] 34)) ((w.alloc (o4 37 0 0 0 0)).alloc (.cells #[.int .u64 (v : Int)] 34)).heap.size (some ⟨w.heap.size + 1, 0, none⟩) 1 [v] := by rw [e2]; exact hr0
  have hval : val 18446744073709551616 [v] = v := by simp [val, pv]
  have hp : Hid (val 18446744073709551616 [v] < pN) := hid (by rw [hval]; exact Nat.lt_trans hv (by decide))
  have HV := hid hval
  have HZ := hid hz0
  have HL := hid hl0
  clear hr0 e1 e2 hval hz0 hl0
  unfold o4 at *
  go_enter Tryz.func26, Tryz.ntmps26
  go_wp2_with fail
  refine (ofRest_c _ 1 _ [v] _ hr1 (by omega) hp hG0).mono ?_
  rintro e w1 ⟨r, rfl, hr, hb1⟩
  rw [HV.out] at hr
  have hz1 := HZ.out.below hb1 HZ.out.size
  have hl1 := HL.out.trans (hb1.mono HL.out.size)
  have R := hid hr
  obtain ⟨r0, r1, r2, r3, rfl, -, -, -⟩ := hr
  have z0 := hz1.c0
  have z1 := hz1.c1
  have z2 := hz1.c2
  have z3 := hz1.c3
  have fz := hz1.frozen
  clear hb1 hz1 hG0 hr1 HL HZ
  unfold w4
  go_wp2
  refine bodyPost_ret (by simp [results, Tryz.results26, go_sem, z0, z1, z2, z3]; rfl) rfl ?_
  exact ⟨_, rfl, R.out, by go_grown⟩

theorem rt_prime : Rt (l4 4891460686036598785 2896914383306846353 13281191951274694749 3486998266802970665) := rtB_of (by decide)
theorem val_prime : val 18446744073709551616 (l4 4891460686036598785 2896914383306846353 13281191951274694749 3486998266802970665) = pN := by decide

set_option maxRecDepth 20000 in
set_option maxHeartbeats 2000000 in
theorem fromWide_c (A : Option Addr) (n c : Nat) (b : List Nat) (w : World) (ha : Rd8 w w.heap.size A n b) (hn : n ≤ 1000) (hG : Glob w) :
    Calls Tryz.prog 30 #[.slice A n c] w fun e w' => ∃ r, e = .returned r ∧ El r (val 256 b % pN) ∧ Below w.heap.size w w' := by
  have hl0 : Below w.heap.size w ((w.alloc (o4 37 0 0 0 0)).alloc (o4 35 4891460686036598785 2896914383306846353 13281191951274694749 3486998266802970665)) := ((Below.refl w.heap.size w).alloc (Nat.le_refl _) _).alloc (by simp) _
  have hz0 := (o4_new w 37 0 0 0 0).alloc (o4 35 4891460686036598785 2896914383306846353 13281191951274694749 3486998266802970665)
  have hp0 := o4_new (w.alloc (o4 37 0 0 0 0)) 35 4891460686036598785 2896914383306846353 13281191951274694749 3486998266802970665
  rw [show (w.alloc (o4 37 0 0 0 0)).heap.size = w.heap.size + 1 by simp] at hp0
  have hr0 := hp0.rd prime4 hp0.size
  have HG := hid hG
  have HZ := hid hz0
  have HL := hid hl0
  have HR := hid hr0
  have g0 := hG.p0
  have g1 := hG.p1
  have g2 := hG.p2
  have g3 := hG.p3
  have szP := hG.sizeP
  clear hz0 hl0 hp0 hr0 hG
  unfold o4 at *
  go_enter Tryz.func30, Tryz.ntmps30
  go_wp2_with fail
  refine (new_some _ 4 4 _ _ HR.out rt_prime).mono ?_
  rintro e w1 ⟨p, rfl, hp, hM, hb1⟩
  have hz1 := HZ.out.below hb1 HZ.out.size
  have hl1 := HL.out.trans (hb1.mono HL.out.size)
  have ra1 := ha.up hl1 (Nat.le_refl _)
  clear g0 g1 g2 g3 HR HL HZ hb1 hp
  go_wp2_with fail
  refine (limbWords_c A n c b w1 ra1 hn).mono ?_
  rintro e w2 ⟨Ar, cr, lr, rfl, hcr, hr2, hv2, hb2⟩
  have hM2 := hM.keep hb2 hM.lt
  have hl2 := hl1.trans (hb2.mono hl1.size)
  have hz2 := hz1.below hb2 hz1.size
  have HV2 := hid hv2
  have HN : Hid ((n + 7) / 8 ≤ 5000) := hid (by omega)
  clear hv2 hM ra1 hb2 hz1
  generalize (n + 7) / 8 = m at *
  go_wp2_with fail
  refine (reduce_c Ar m cr p lr _ w2 hr2 hM2 HN.out).mono ?_
  rintro e w3 ⟨Ar3, cr3, lr3, rfl, hcr3, hr3, hv3, hb3⟩
  have hl3 := hl2.trans (hb3.mono hl2.size)
  have hz3 := hz2.below hb3 hz2.size
  have hG3 := HG.out.up hl3
  rw [HV2.out, val_prime] at hv3
  have HV3 := hid hv3
  have hp3 : Hid (val 18446744073709551616 lr3 < pN) := hid (by rw [hv3]; exact Nat.mod_lt _ pN_pos)
  clear hv3 hM2 hr2 hb3 hz2 hcr hcr3
  change Rd w3 _ Ar3 4 lr3 at hr3
  go_wp2_with fail
  refine (ofRest_c Ar3 4 cr3 lr3 w3 hr3 (Nat.le_refl _) hp3 hG3).mono ?_
  rintro e w4 ⟨r, rfl, hr, hb4⟩
  rw [HV3.out] at hr
  have hz4 := hz3.below hb4 hz3.size
  have hl4 := hl3.trans (hb4.mono hl3.size)
  have R := hid hr
  obtain ⟨r0, r1, r2, r3, rfl, -, -, -⟩ := hr
  have z0 := hz4.c0
  have z1 := hz4.c1
  have z2 := hz4.c2
  have z3 := hz4.c3
  have fz := hz4.frozen
  clear hb4 hz4 hz3 hG3 hr3 hl1 hl2 hl3
  unfold Go.Proofs.YtdepkfdceidikaaGreatDoor.w4
  go_wp2
  refine bodyPost_ret (by simp [results, Tryz.results30, go_sem, z0, z1, z2, z3]; rfl) rfl ?_
  exact ⟨_, rfl, R.out, by go_grown⟩
end Go.Proofs.YtdepkfdceidikaaGreatDoor
