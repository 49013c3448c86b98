/-
  avouchlaw01.speaks: the document's example holds.
-/
import Derived.Test.YthliochnmlbgcaaLOpsC
import Derived.Test.YthliochnmlbgcaaRefB
namespace Go.Proofs.Ythliochnmlbgcaa
open Go.RowKit
set_option linter.unusedVariables false

/-- A slice of one word that is built: it is read; nothing old has turned. -/
theorem built1 (w : World) (X : Int) (n : Nat) (hX : X = (n : Int)) (hn : n < 18446744073709551616) : Rd (w.alloc (.cells #[.int .u64 X] 25)) (w.alloc (.cells #[.int .u64 X] 25)).heap.size (some ⟨w.heap.size, 0, none⟩) 1 [n] ∧ Below w.heap.size w (w.alloc (.cells #[.int .u64 X] 25)) := by
  have h := rd_one w X n hX hn
  refine ⟨?_, (Below.refl _ _).alloc (Nat.le_refl _) _⟩
  have hz : (w.alloc (.cells #[.int .u64 X] 25)).heap.size = w.heap.size + 1 := by simp
  rw [hz]; exact h

theorem rt7 : Rt [7] := by unfold Rt; decide

theorem one_word {r : List Nat} {X : Nat} (h : r.length = 1) (hr : allLt r) (hv : val 18446744073709551616 r = X) : r = [X] := by
  match r, h with
  | [x], _ => rw [val_one] at hv; rw [hv]

theorem built2 (w : World) (X Y : Int) (m n : Nat) (hX : X = (m : Int)) (hY : Y = (n : Int)) (hm : m < 18446744073709551616) (hn : n < 18446744073709551616) (W : World) (hW : W = (w.alloc (.cells #[.int .u64 X] 25)).alloc (.cells #[.int .u64 Y] 25)) :
    Rd W W.heap.size (some ⟨w.heap.size, 0, none⟩) 1 [m] ∧ Rd W W.heap.size (some ⟨w.heap.size + 1, 0, none⟩) 1 [n] ∧ Below w.heap.size w W := by
  obtain ⟨r1, b1⟩ := built1 w X m hX hm
  obtain ⟨r2, b2⟩ := built1 (w.alloc (.cells #[.int .u64 X] 25)) Y n hY hn
  have hz : (w.alloc (.cells #[.int .u64 X] 25)).heap.size = w.heap.size + 1 := by simp
  rw [← hW] at r2 b2
  have r1' := r1.up b2 (Nat.le_refl _)
  rw [hz] at r2
  exact ⟨r1', r2, b1.trans (b2.mono b1.size)⟩

set_option maxRecDepth 100000 in
set_option maxHeartbeats 4000000 in
theorem speaks_c (w : World) : Calls Try.prog 9 #[] w fun e w' => e = .returned (.bool true) ∧ Below w.heap.size w w' := by
  have HR := hid (built2 w 18446744073709551615 1 18446744073709551615 1 rfl rfl (by omega) (by omega) _ rfl)
  go_enter Try.func9, Try.ntmps9
  go_wp2_with fail
  generalize (w.alloc (.cells #[.int .u64 18446744073709551615] 25)).alloc (.cells #[.int .u64 1] 25) = W at HR ⊢
  obtain ⟨r1, r2, b0⟩ := HR.out
  clear HR
  refine (add_c _ _ 1 1 1 1 [18446744073709551615] [1] W r1 r2 (by omega) (by omega)).mono ?_
  rintro e w1 ⟨c1, rfl, h1⟩
  rw [Nat.max_self] at h1 ⊢
  obtain ⟨s1, rd1, v1, b1, hc1⟩ := h1.wds
  have hs1 : s1 = [0] ∧ c1 = 1 := by
    have hlt := val_lt _ (by decide) s1 rd1.lt
    rw [rd1.len, Nat.pow_one] at hlt
    rw [pv_out _ _ 1 (Nat.le_refl _), pv_out _ _ 1 (Nat.le_refl _), val_one, val_one, Nat.pow_one] at v1
    have hc : c1 = 1 := by omega
    subst hc
    exact ⟨one_word rd1.len rd1.lt (by omega), rfl⟩
  obtain ⟨rfl, rfl⟩ := hs1
  have b01 : Below w.heap.size w w1 := b0.trans (b1.mono b0.size)
  obtain ⟨r7, b7⟩ := built1 w1 7 7 rfl (by omega)
  have HR7 := hid (And.intro r7 b7)
  clear h1 v1 hc1 r1 r2 b0 r7 b7
  go_wp2_with fail
  generalize w1.alloc (.cells #[.int .u64 7] 25) = W7 at HR7 ⊢
  obtain ⟨r7, b7⟩ := HR7.out
  clear HR7
  refine (new_some _ 1 1 [7] W7 r7 rt7).mono ?_
  rintro e w2 ⟨p, rfl, hp, hM, b2⟩
  have b02 : Below w.heap.size w w2 := b01.trans ((b7.mono b01.size).trans (b2.mono (Nat.le_trans b01.size b7.size)))
  have rd2 := (rd1.up b7 (Nat.le_refl _)).up b2 (Nat.le_refl _)
  obtain ⟨bs, os, es, hbs, hcs⟩ := rd2.at_ (k := 0) (by omega)
  injection es with es
  injection es with e1 e2
  subst e1 e2
  have hcs' : w2.cell? ⟨W.heap.size, 0, none⟩ = some (.int .u64 0) := hcs
  clear hcs rd1 rd2 r7 b7 b01
  have H3 := hid (built2 w2 3 5 3 5 rfl rfl (by omega) (by omega) _ rfl)
  go_wp2_with fail
  generalize (w2.alloc (.cells #[.int .u64 3] 25)).alloc (.cells #[.int .u64 5] 25) = W3 at H3 ⊢
  obtain ⟨r3, r5, b3⟩ := H3.out
  clear H3
  have hM3 := hM.keep b3 hM.lt
  refine (mmul_c _ _ 1 1 1 1 p [3] [5] [7] W3 r3 r5 hM3 (by omega) (by omega)).mono ?_
  rintro e w4 ⟨A4, c4, l4, rfl, hc4, rd4, v4, b4⟩
  have hM4 := hM3.keep b4 hM3.lt
  have b24 : Below w2.heap.size w2 w4 := b3.trans (b4.mono b3.size)
  have b04 : Below w.heap.size w w4 := b02.trans (b24.mono b02.size)
  obtain rfl : l4 = [1] := one_word rd4.len rd4.lt (by rw [v4, val_one, val_one, val_one])
  have rd4' : Rd w4 w4.heap.size A4 1 [1] := rd4
  obtain ⟨q1, bq1⟩ := built1 w4 1 1 rfl (by omega)
  have HQ1 := hid (And.intro q1 bq1)
  clear v4 r3 r5 b3 q1 bq1 rd4 hM3 b4 hcs'
  rw [show [7].length = 1 from rfl]
  go_wp2_with fail
  generalize w4.alloc (.cells #[.int .u64 1] 25) = W5 at HQ1 ⊢
  obtain ⟨q1, bq1⟩ := HQ1.out
  clear HQ1
  have rd45 := rd4'.up bq1 (Nat.le_refl _)
  have hM5 := hM4.keep bq1 hM4.lt
  refine (same_c _ _ 1 1 c4 1 _ [1] [1] W5 rd45 q1 (by omega)).mono ?_
  rintro e w6 ⟨rfl, S6⟩
  rw [decide_eq_true (rfl : [1] = [1])]
  have b6 := S6 W5.heap.size
  have hM6 := hM5.keep b6 hM5.lt
  have b46 : Below w4.heap.size w4 w6 := bq1.trans (b6.mono bq1.size)
  have b06 : Below w.heap.size w w6 := b04.trans (b46.mono b04.size)
  have H6 := hid (built2 w6 3 6 3 6 rfl rfl (by omega) (by omega) _ rfl)
  clear q1 bq1 rd45 rd4' hM5 hM4 S6 b6 b46 b04 hM
  go_wp2_with fail
  generalize (w6.alloc (.cells #[.int .u64 3] 25)).alloc (.cells #[.int .u64 6] 25) = W7 at H6 ⊢
  obtain ⟨r3, r6, b7⟩ := H6.out
  clear H6
  have hM7 := hM6.keep b7 hM6.lt
  refine (mexp_c _ _ 1 1 1 1 p [3] [6] [7] W7 r3 r6 hM7 (by omega) (by omega)).mono ?_
  rintro e w8 ⟨A8, c8, l8, rfl, hc8, rd8, v8, b8⟩
  have b68 : Below w6.heap.size w6 w8 := b7.trans (b8.mono b7.size)
  have b08 : Below w.heap.size w w8 := b06.trans (b68.mono b06.size)
  obtain rfl : l8 = [1] := one_word rd8.len rd8.lt (by rw [v8, val_one, val_one, val_one])
  have rd8' : Rd w8 w8.heap.size A8 1 [1] := rd8
  obtain ⟨q1, bq1⟩ := built1 w8 1 1 rfl (by omega)
  have HQ1 := hid (And.intro q1 bq1)
  clear v8 r3 r6 b7 q1 bq1 rd8 hM7 hM6 b8 b68 b06
  rw [show [7].length = 1 from rfl]
  go_wp2_with fail
  generalize w8.alloc (.cells #[.int .u64 1] 25) = W9 at HQ1 ⊢
  obtain ⟨q1, bq1⟩ := HQ1.out
  clear HQ1
  have rd89 := rd8'.up bq1 (Nat.le_refl _)
  refine (same_c _ _ 1 1 c8 1 _ [1] [1] W9 rd89 q1 (by omega)).mono ?_
  rintro e w10 ⟨rfl, S10⟩
  rw [decide_eq_true (rfl : [1] = [1])]
  have b10 : Below w.heap.size w w10 := b08.trans ((bq1.trans ((S10 W9.heap.size).mono bq1.size)).mono b08.size)
  clear rd8' rd89 q1 bq1 S10 b08
  go_wp2
  go_ret
  exact ⟨rfl, b10⟩
end Go.Proofs.Ythliochnmlbgcaa
