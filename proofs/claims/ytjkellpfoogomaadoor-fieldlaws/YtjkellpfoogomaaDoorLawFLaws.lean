/-
  avouchlaw02.FieldLaws returns true, whatever it is given, and turns nothing that was there.
-/
import Derived.Test.YtjkellpfoogomaaDoorFEnv
import Derived.Test.YtjkellpfoogomaaDoorFldJ
import Derived.Deep.RegionHeld3
import Derived.Deep.CutBlock
import Derived.Deep.DeepCutAuto
namespace Go.Proofs.YtjkellpfoogomaaDoor
open Go.RowKit
set_option linter.unusedVariables false

set_option maxRecDepth 100000 in
set_option maxHeartbeats 16000000 in
theorem fieldLaws_w (A0 A1 A2 : Option Addr) (n0 n1 n2 c0 c1 c2 : Nat) (l0 l1 l2 : List Nat) (w : World) (r0 : Rd8 w w.heap.size A0 n0 l0) (r1 : Rd8 w w.heap.size A1 n1 l1) (r2 : Rd8 w w.heap.size A2 n2 l2) (hG : Glob w) :
    Calls Tryd.prog 6 #[.slice A0 n0 c0, .slice A1 n1 c1, .slice A2 n2 c2] w fun e w' => e = .returned (.bool true) ∧ Below w.heap.size w w' := by
  by_cases g0 : 40 < n0
  · have d0 : decide ((40 : Int) < (n0 : Int)) = true := by simp; omega
    go_enter Tryd.func6, Tryd.ntmps6
    go_wp2_with fail
    refine (speaks2_c w hG).mono ?_
    rintro e w1 ⟨rfl, b1⟩
    go_wp2_with fail
    refine (speaks2_c w1 (hG.up b1)).mono ?_
    rintro e w2 ⟨rfl, b2⟩
    go_wp2
    go_ret
    exact ⟨rfl, bchain b1 b2⟩
  have d0 : decide ((40 : Int) < (n0 : Int)) = false := by simp; omega
  by_cases g1 : 40 < n1
  · have d1 : decide ((40 : Int) < (n1 : Int)) = true := by simp; omega
    go_enter Tryd.func6, Tryd.ntmps6
    go_wp2_with fail
    refine (speaks2_c w hG).mono ?_
    rintro e w1 ⟨rfl, b1⟩
    go_wp2_with fail
    refine (speaks2_c w1 (hG.up b1)).mono ?_
    rintro e w2 ⟨rfl, b2⟩
    go_wp2
    go_ret
    exact ⟨rfl, bchain b1 b2⟩
  have d1 : decide ((40 : Int) < (n1 : Int)) = false := by simp; omega
  by_cases g2 : 40 < n2
  · have d2 : decide ((40 : Int) < (n2 : Int)) = true := by simp; omega
    go_enter Tryd.func6, Tryd.ntmps6
    go_wp2_with fail
    refine (speaks2_c w hG).mono ?_
    rintro e w1 ⟨rfl, b1⟩
    go_wp2_with fail
    refine (speaks2_c w1 (hG.up b1)).mono ?_
    rintro e w2 ⟨rfl, b2⟩
    go_wp2
    go_ret
    exact ⟨rfl, bchain b1 b2⟩
  have d2 : decide ((40 : Int) < (n2 : Int)) = false := by simp; omega
  go_enter Tryd.func6, Tryd.ntmps6
  go_wp2_with fail
  refine (speaks2_c w hG).mono ?_
  rintro e w1 ⟨rfl, b1⟩
  go_wp2_with fail
  refine (fromWide_c A0 n0 c0 l0 w1 (r0.up b1 (Nat.le_refl _)) (by omega) (hG.up b1)).mono ?_
  rintro e w2 ⟨vx, rfl, hx, b2⟩
  have b12 := bchain b1 b2
  go_wp2_with fail
  refine (fromWide_c A1 n1 c1 l1 w2 (r1.up b12 (Nat.le_refl _)) (by omega) (hG.up b12)).mono ?_
  rintro e w3 ⟨vy, rfl, hy, b3⟩
  have b13 := bchain b12 b3
  go_wp2_with fail
  refine (fromWide_c A2 n2 c2 l2 w3 (r2.up b13 (Nat.le_refl _)) (by omega) (hG.up b13)).mono ?_
  rintro e w4' ⟨vz, rfl, hz, b4⟩
  have b14 := bchain b13 b4
  have HX := hid hx.lt
  have HY := hid hy.lt
  have HZ := hid hz.lt
  generalize val 256 l0 % pN = X at *
  generalize val 256 l1 % pN = Y at *
  generalize val 256 l2 % pN = Z at *
  have hxx := hid hx
  have hyy := hid hy
  have hzz := hid hz
  obtain ⟨x0, x1, x2, x3, rfl, -, -, -⟩ := hx
  obtain ⟨y0, y1, y2, y3, rfl, -, -, -⟩ := hy
  obtain ⟨z0, z1, z2, z3, rfl, -, -, -⟩ := hz
  have hb5 := ((b14.alloc b14.size (o4 27 x0 x1 x2 x3)).alloc (by simp; have := b14.size; omega) (o4 27 y0 y1 y2 y3)).alloc (by simp; have := b14.size; omega) (o4 27 z0 z1 z2 z3)
  have hX5 := ((o4_new w4' 27 x0 x1 x2 x3).alloc (o4 27 y0 y1 y2 y3)).alloc (o4 27 z0 z1 z2 z3)
  have hY5 := (o4_new (w4'.alloc (o4 27 x0 x1 x2 x3)) 27 y0 y1 y2 y3).alloc (o4 27 z0 z1 z2 z3)
  have hZ5 := o4_new ((w4'.alloc (o4 27 x0 x1 x2 x3)).alloc (o4 27 y0 y1 y2 y3)) 27 z0 z1 z2 z3
  rw [show (w4'.alloc (o4 27 x0 x1 x2 x3)).heap.size = w4'.heap.size + 1 by simp] at hY5
  rw [show ((w4'.alloc (o4 27 x0 x1 x2 x3)).alloc (o4 27 y0 y1 y2 y3)).heap.size = w4'.heap.size + 1 + 1 by simp] at hZ5
  have hG5 := hG.up hb5
  have K5 := hid (And.intro hX5 (And.intro hY5 (And.intro hZ5 hb5)))
  clear hX5 hY5 hZ5 hb5 b1 b2 b3 b4 b12 b13 b14
  unfold o4 Go.Proofs.YtjkellpfoogomaaDoor.w4 at *
  go_wp2_with fail
  refine (fromUint64_c 1 _ (by decide) hG5).mono ?_
  rintro e w5 ⟨vo, rfl, ho, b5⟩
  have hoo := hid ho
  obtain ⟨o0, o1, o2, o3, rfl, -, -, -⟩ := ho
  obtain ⟨kx, ky, kz, kb⟩ := K5.out
  have E5 : Hid (Env4 w w4'.heap.size (w4'.heap.size + 1) (w4'.heap.size + 1 + 1) w5.heap.size x0 x1 x2 x3 y0 y1 y2 y3 z0 z1 z2 z3 o0 o1 o2 o3 (w5.alloc (o4 27 o0 o1 o2 o3))) := by
    have hb := kb.trans (b5.mono kb.size)
    have hb' := hb.alloc hb.size (o4 27 o0 o1 o2 o3)
    exact ⟨hG.up hb', (kx.below b5 kx.size).alloc _, (ky.below b5 ky.size).alloc _, (kz.below b5 kz.size).alloc _, o4_new w5 _ o0 o1 o2 o3, hb'⟩
  clear kx ky kz kb K5 hG5 b5
  unfold o4 Go.Proofs.YtjkellpfoogomaaDoor.w4 at *
  go_wp2
  generalize w5.alloc (.cells #[.int .u64 o0, .int .u64 o1, .int .u64 o2, .int .u64 o3] 27) = w6 at E5 ⊢
  generalize w4'.heap.size + 1 + 1 = bz at E5 ⊢
  generalize w4'.heap.size + 1 = b_y at E5 ⊢
  generalize w4'.heap.size = bx at E5 ⊢
  generalize w5.heap.size = bo at E5 ⊢
  have E6 := E5.out.drew
  have ex := hxx.out
  have ey := hyy.out
  have ez := hzz.out
  have eo := hoo.out
  clear hxx hyy hzz hoo E5 r0 r1 r2 d0 d1 d2 g0 g1 g2 hG
  go_cut [83] (fun s wx => s = .bool false ∧ Env4 w bx b_y bz bo x0 x1 x2 x3 y0 y1 y2 y3 z0 z1 z2 z3 o0 o1 o2 o3 wx)
  case first =>
    go_region_held3 (fun w' => w'.cell? ⟨bx, 0, none⟩ = some (.int .u64 x0) ∧ w'.cell? ⟨bx, 1, none⟩ = some (.int .u64 x1) ∧ w'.cell? ⟨bx, 2, none⟩ = some (.int .u64 x2) ∧ w'.cell? ⟨bx, 3, none⟩ = some (.int .u64 x3) ∧ w'.cell? ⟨b_y, 0, none⟩ = some (.int .u64 y0) ∧ w'.cell? ⟨b_y, 1, none⟩ = some (.int .u64 y1) ∧ w'.cell? ⟨b_y, 2, none⟩ = some (.int .u64 y2) ∧ w'.cell? ⟨b_y, 3, none⟩ = some (.int .u64 y3) ∧ w'.cell? ⟨bz, 0, none⟩ = some (.int .u64 z0) ∧ w'.cell? ⟨bz, 1, none⟩ = some (.int .u64 z1) ∧ w'.cell? ⟨bz, 2, none⟩ = some (.int .u64 z2) ∧ w'.cell? ⟨bz, 3, none⟩ = some (.int .u64 z3) ∧ w'.cell? ⟨bo, 0, none⟩ = some (.int .u64 o0) ∧ w'.cell? ⟨bo, 1, none⟩ = some (.int .u64 o1) ∧ w'.cell? ⟨bo, 2, none⟩ = some (.int .u64 o2) ∧ w'.cell? ⟨bo, 3, none⟩ = some (.int .u64 o3)) (exact Env4.cells (by with_reducible assumption)) (first
    | (go_at_call 21; refine (eadd_c _ _ _ _ _ (by with_reducible assumption) (by with_reducible assumption) (Env4.g (by with_reducible assumption))).mono ?_; rintro e v ⟨r, rfl, hr, hb⟩; have hE := Env4.up (by with_reducible assumption) hb)
    | (go_at_call 25; refine (emul_c _ _ _ _ _ (by with_reducible assumption) (by with_reducible assumption) (Env4.g (by with_reducible assumption))).mono ?_; rintro e v ⟨r, rfl, hr, hb⟩; have hE := Env4.up (by with_reducible assumption) hb)
    | (go_at_call 23; refine (esub_c _ _ _ _ _ (by with_reducible assumption) (by with_reducible assumption) (Env4.g (by with_reducible assumption))).mono ?_; rintro e v ⟨r, rfl, hr, hb⟩; have hE := Env4.up (by with_reducible assumption) hb)
    | (go_at_call 28; refine (eneg_c _ _ _ (by with_reducible assumption) (Env4.g (by with_reducible assumption))).mono ?_; rintro e v ⟨r, rfl, hr, hb⟩; have hE := Env4.up (by with_reducible assumption) hb)
    | (go_at_call 36; refine (einverse_c _ _ _ (by with_reducible assumption) (Env4.g (by with_reducible assumption))).mono ?_; rintro e v ⟨r, rfl, hr, hb⟩; have hE := Env4.up (by with_reducible assumption) hb)
    | (go_at_call 29; refine (eequal_c _ _ _ _ _ (by with_reducible assumption) (by with_reducible assumption)).mono ?_; rintro e v ⟨rfl, hb⟩; have hE := Env4.up (by with_reducible assumption) hb
       first
       | rw [p_sub_self HX.out, ← HQ.out]
       | rw [decide_eq_true (by first | with_reducible exact p_add_comm _ _ | with_reducible exact p_mul_comm _ _ | with_reducible exact p_mul_assoc _ _ _ | with_reducible exact p_mul_add _ _ _ | with_reducible exact p_sub_add HX.out HY.out | with_reducible exact p_mul_one HX.out)])
    | (go_at_call 31; refine (eisZero_c _ _ _ (by with_reducible assumption)).mono ?_; rintro e v ⟨rfl, hb⟩; have hE := Env4.up (by with_reducible assumption) hb
       first
       | rw [decide_eq_true (p_add_neg HX.out)]
       | rw [← HQ.out]))
    go_wp2_with fail
    go_meet
    exact ⟨rfl, hE⟩
  case rest =>
    obtain ⟨rfl, hE7⟩ := hcut
    have E7 := hE7.drew
    clear E6
    obtain ⟨q, hq⟩ : ∃ q, q = decide (X = 0) := ⟨_, rfl⟩
    have HQ := hid hq
    clear hq
    go_wp2_with fail
    go_cut [117] (fun s wx => s = .bool false ∧ Env4 w bx b_y bz bo x0 x1 x2 x3 y0 y1 y2 y3 z0 z1 z2 z3 o0 o1 o2 o3 wx)
    case first =>
      go_region_held3 (fun w' => w'.cell? ⟨bx, 0, none⟩ = some (.int .u64 x0) ∧ w'.cell? ⟨bx, 1, none⟩ = some (.int .u64 x1) ∧ w'.cell? ⟨bx, 2, none⟩ = some (.int .u64 x2) ∧ w'.cell? ⟨bx, 3, none⟩ = some (.int .u64 x3) ∧ w'.cell? ⟨b_y, 0, none⟩ = some (.int .u64 y0) ∧ w'.cell? ⟨b_y, 1, none⟩ = some (.int .u64 y1) ∧ w'.cell? ⟨b_y, 2, none⟩ = some (.int .u64 y2) ∧ w'.cell? ⟨b_y, 3, none⟩ = some (.int .u64 y3) ∧ w'.cell? ⟨bz, 0, none⟩ = some (.int .u64 z0) ∧ w'.cell? ⟨bz, 1, none⟩ = some (.int .u64 z1) ∧ w'.cell? ⟨bz, 2, none⟩ = some (.int .u64 z2) ∧ w'.cell? ⟨bz, 3, none⟩ = some (.int .u64 z3) ∧ w'.cell? ⟨bo, 0, none⟩ = some (.int .u64 o0) ∧ w'.cell? ⟨bo, 1, none⟩ = some (.int .u64 o1) ∧ w'.cell? ⟨bo, 2, none⟩ = some (.int .u64 o2) ∧ w'.cell? ⟨bo, 3, none⟩ = some (.int .u64 o3)) (exact Env4.cells (by with_reducible assumption)) (first
    | (go_at_call 21; refine (eadd_c _ _ _ _ _ (by with_reducible assumption) (by with_reducible assumption) (Env4.g (by with_reducible assumption))).mono ?_; rintro e v ⟨r, rfl, hr, hb⟩; have hE := Env4.up (by with_reducible assumption) hb)
    | (go_at_call 25; refine (emul_c _ _ _ _ _ (by with_reducible assumption) (by with_reducible assumption) (Env4.g (by with_reducible assumption))).mono ?_; rintro e v ⟨r, rfl, hr, hb⟩; have hE := Env4.up (by with_reducible assumption) hb)
    | (go_at_call 23; refine (esub_c _ _ _ _ _ (by with_reducible assumption) (by with_reducible assumption) (Env4.g (by with_reducible assumption))).mono ?_; rintro e v ⟨r, rfl, hr, hb⟩; have hE := Env4.up (by with_reducible assumption) hb)
    | (go_at_call 28; refine (eneg_c _ _ _ (by with_reducible assumption) (Env4.g (by with_reducible assumption))).mono ?_; rintro e v ⟨r, rfl, hr, hb⟩; have hE := Env4.up (by with_reducible assumption) hb)
    | (go_at_call 36; refine (einverse_c _ _ _ (by with_reducible assumption) (Env4.g (by with_reducible assumption))).mono ?_; rintro e v ⟨r, rfl, hr, hb⟩; have hE := Env4.up (by with_reducible assumption) hb)
    | (go_at_call 29; refine (eequal_c _ _ _ _ _ (by with_reducible assumption) (by with_reducible assumption)).mono ?_; rintro e v ⟨rfl, hb⟩; have hE := Env4.up (by with_reducible assumption) hb
       first
       | rw [p_sub_self HX.out, ← HQ.out]
       | rw [decide_eq_true (by first | with_reducible exact p_add_comm _ _ | with_reducible exact p_mul_comm _ _ | with_reducible exact p_mul_assoc _ _ _ | with_reducible exact p_mul_add _ _ _ | with_reducible exact p_sub_add HX.out HY.out | with_reducible exact p_mul_one HX.out)])
    | (go_at_call 31; refine (eisZero_c _ _ _ (by with_reducible assumption)).mono ?_; rintro e v ⟨rfl, hb⟩; have hE := Env4.up (by with_reducible assumption) hb
       first
       | rw [decide_eq_true (p_add_neg HX.out)]
       | rw [← HQ.out]))
      go_wp2_with fail
      go_meet
      exact ⟨by simp, hE⟩
    case rest =>
      obtain ⟨rfl, hE8⟩ := hcut
      clear E7 hE7
      have cx0 := hE8.x.c0
      have cx1 := hE8.x.c1
      have cx2 := hE8.x.c2
      have cx3 := hE8.x.c3
      go_wp2_with fail
      refine (eisZero_c _ X wc ex).mono ?_
      rintro e w9 ⟨rfl, b9⟩
      have hE9 := hE8.up b9
      clear cx0 cx1 cx2 cx3
      by_cases hX0 : X = 0
      · rw [decide_eq_true hX0]
        have cx0 := hE9.x.c0
        have cx1 := hE9.x.c1
        have cx2 := hE9.x.c2
        have cx3 := hE9.x.c3
        clear hE8
        go_wp2_with fail
        refine (einverse_c _ X w9 ex hE9.g).mono ?_
        rintro e w10 ⟨vi, rfl, hi, b10⟩
        have hE10 := hE9.up b10
        rw [hX0, p_inv_zero] at hi
        go_wp2_with fail
        refine (eisZero_c _ 0 w10 hi).mono ?_
        rintro e w11 ⟨rfl, b11⟩
        have hE11 := hE10.up b11
        clear cx0 cx1 cx2 cx3 hE10 hE9
        go_wp2
        go_ret
        exact ⟨rfl, hE11.b⟩
      · rw [decide_eq_false hX0]
        have E9 := hE9.drew
        obtain ⟨I, hI⟩ : ∃ I, I = X ^ (pN - 2) % pN := ⟨_, rfl⟩
        have F1 : Hid (X * I % pN = 1) := hid (by rw [hI]; exact p_mul_inv hX0 HX.out)
        have F2 : Hid (Y * X % pN * I % pN = Y) := hid (by rw [hI]; exact p_mul_mul_inv hX0 HX.out HY.out)
        have EI : Hid (∀ w : World, Glob w → Calls Tryd.prog 36 #[.agg #[.int .u64 x0, .int .u64 x1, .int .u64 x2, .int .u64 x3]] w fun e w' => ∃ r, e = .returned r ∧ El r I ∧ Below w.heap.size w w') :=
          hid (by rw [hI]; exact fun w hg => einverse_c _ X w ex hg)
        have EJ : Hid (∀ (v : Value) (w : World), El v I → Glob w → Calls Tryd.prog 36 #[v] w fun e w' => ∃ r, e = .returned r ∧ El r X ∧ Below w.heap.size w w') :=
          hid (fun v w hv hg => by
            have h := einverse_c v I w hv hg
            rw [hI, p_inv_inv hX0 HX.out] at h
            exact h)
        clear hE8 hI
        go_wp2_with fail
        go_region_held3 (fun w' => w'.cell? ⟨bx, 0, none⟩ = some (.int .u64 x0) ∧ w'.cell? ⟨bx, 1, none⟩ = some (.int .u64 x1) ∧ w'.cell? ⟨bx, 2, none⟩ = some (.int .u64 x2) ∧ w'.cell? ⟨bx, 3, none⟩ = some (.int .u64 x3) ∧ w'.cell? ⟨b_y, 0, none⟩ = some (.int .u64 y0) ∧ w'.cell? ⟨b_y, 1, none⟩ = some (.int .u64 y1) ∧ w'.cell? ⟨b_y, 2, none⟩ = some (.int .u64 y2) ∧ w'.cell? ⟨b_y, 3, none⟩ = some (.int .u64 y3) ∧ w'.cell? ⟨bz, 0, none⟩ = some (.int .u64 z0) ∧ w'.cell? ⟨bz, 1, none⟩ = some (.int .u64 z1) ∧ w'.cell? ⟨bz, 2, none⟩ = some (.int .u64 z2) ∧ w'.cell? ⟨bz, 3, none⟩ = some (.int .u64 z3) ∧ w'.cell? ⟨bo, 0, none⟩ = some (.int .u64 o0) ∧ w'.cell? ⟨bo, 1, none⟩ = some (.int .u64 o1) ∧ w'.cell? ⟨bo, 2, none⟩ = some (.int .u64 o2) ∧ w'.cell? ⟨bo, 3, none⟩ = some (.int .u64 o3)) (exact Env4.cells (by with_reducible assumption)) (first
    | (go_at_call 25; refine (emul_c _ _ _ _ _ (by with_reducible assumption) (by with_reducible assumption) (Env4.g (by with_reducible assumption))).mono ?_; rintro e v ⟨r, rfl, hr, hb⟩; have hE := Env4.up (by with_reducible assumption) hb)
    | (go_at_call 36; refine (EJ.out _ _ (by with_reducible assumption) (Env4.g (by with_reducible assumption))).mono ?_; rintro e v ⟨r, rfl, hr, hb⟩; have hE := Env4.up (by with_reducible assumption) hb)
    | (go_at_call 36; refine (EI.out _ (Env4.g (by with_reducible assumption))).mono ?_; rintro e v ⟨r, rfl, hr, hb⟩; have hE := Env4.up (by with_reducible assumption) hb)
    | (go_at_call 29; refine (eequal_c _ _ _ _ _ (by with_reducible assumption) (by with_reducible assumption)).mono ?_; rintro e v ⟨rfl, hb⟩; have hE := Env4.up (by with_reducible assumption) hb
       first
       | rw [decide_eq_true F1.out]
       | rw [decide_eq_true F2.out]
       | rw [decide_eq_true (Eq.refl X)]))
        go_wp2_with fail
        go_ret
        exact ⟨rfl, hE.b⟩
end Go.Proofs.YtjkellpfoogomaaDoor
