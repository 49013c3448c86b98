/-
  avouchref06.rho: what the call does.
-/
import Derived.Test.YteogjnendkbjcaaDoorKRf
namespace Go.Proofs.YteogjnendkbjcaaDoor
open Go.RowKit
set_option linter.unusedVariables false

/-- What rho has laid behind t lanes and z bits of the next. -/
def rhz (a : KB) (t z : Nat) : KB := fun x y z' => if x = (kx t).1 ∧ y = (kx t).2 then (if (z' + 64 - koff.getD (x + 5 * y) 0) % 64 < z then krh a x y z' else false) else krho_at a t x y z'
theorem rhz_start (a : KB) {t : Nat} (ht : t < 24) : KEq (krho_at a t) (rhz a t 0) := fun x y z' hx hy hz => by
  unfold rhz
  by_cases c : x = (kx t).1 ∧ y = (kx t).2
  · rw [if_pos c, if_neg (by omega)]
    unfold krho_at
    have e : kx t = (x, y) := by rw [c.1, c.2]
    rw [if_neg ?_]
    rintro (h | ⟨s, hs, h⟩)
    · rw [h.1, h.2] at e
      exact kx_zero ht e
    · exact kx_ne hs ht (h.trans e.symm)
  · rw [if_neg c]
theorem rhz_end (a : KB) (t : Nat) : KEq (rhz a t 64) (krho_at a (t + 1)) := fun x y z' hx hy hz => by
  unfold rhz
  by_cases c : x = (kx t).1 ∧ y = (kx t).2
  · rw [if_pos c, if_pos (Nat.mod_lt _ (by decide))]
    unfold krho_at
    rw [if_pos (Or.inr ⟨t, by omega, by rw [c.1, c.2]⟩)]
  · rw [if_neg c]
    unfold krho_at
    by_cases d : (x = 0 ∧ y = 0) ∨ ∃ s, s < t ∧ kx s = (x, y)
    · rw [if_pos d, if_pos ?_]
      rcases d with d | ⟨s, hs, d⟩
      · exact Or.inl d
      · exact Or.inr ⟨s, by omega, d⟩
    · rw [if_neg d, if_neg ?_]
      rintro (h | ⟨s, hs, h⟩)
      · exact d (Or.inl h)
      · by_cases e : s = t
        · subst e
          rw [h] at c
          exact c ⟨rfl, rfl⟩
        · exact d (Or.inr ⟨s, by omega, h⟩)
theorem rhz_set (a : KB) {t z X Y o r : Nat} (ht : t < 24) (hz : z < 64) (hX : kx t = (X, Y)) (ho : o = (t + 1) * (t + 2) / 2) (hr : r = (z + o) % 64) : KEq (kset (rhz a t z) X Y r (a X Y z)) (rhz a t (z + 1)) := fun x y z' hx hy hz' => by
  have hoff := kx_off ht
  rw [hX] at hoff
  simp only at hoff
  rw [← ho] at hoff
  unfold kset rhz
  rw [hX]
  simp only
  by_cases c : x = X ∧ y = Y
  · obtain ⟨rfl, rfl⟩ := c
    by_cases d : z' = r
    · rw [if_pos (show x = x ∧ y = y ∧ z' = r from ⟨rfl, rfl, d⟩), if_pos (show x = x ∧ y = y from ⟨rfl, rfl⟩), hoff, if_pos (by omega)]
      unfold krh
      rw [hoff, show (z' + 64 - o % 64) % 64 = z by omega]
    · rw [if_neg (fun h : x = x ∧ y = y ∧ z' = r => d h.2.2), if_pos (show x = x ∧ y = y from ⟨rfl, rfl⟩), if_pos (show x = x ∧ y = y from ⟨rfl, rfl⟩), hoff]
      by_cases e : (z' + 64 - o % 64) % 64 < z
      · rw [if_pos e, if_pos (by omega)]
      · rw [if_neg e, if_neg (by omega)]
  · rw [if_neg (fun h : x = X ∧ y = Y ∧ z' = r => c ⟨h.1, h.2.1⟩), if_neg c, if_neg c]
theorem rho_zero (a : KB) : KEq (klane kzero 0 0 (a 0 0)) (krho_at a 0) := fun x y z hx hy hz => by
  unfold klane krho_at
  by_cases c : x = 0 ∧ y = 0
  · rw [if_pos c, if_pos (Or.inl c)]
    unfold krh
    rw [c.1, c.2, show (z + 64 - koff.getD (0 + 5 * 0) 0) % 64 = z by simp [koff]; omega]
  · rw [if_neg c, if_neg ?_]
    · rfl
    · rintro (h | ⟨s, hs, h⟩)
      · exact c h
      · omega

set_option maxRecDepth 20000 in
set_option maxHeartbeats 1000000 in
theorem rho6_c (a : KB) (w : World) :
    Calls Tryd.prog 35 #[bt a] w fun e w' => e = .returned (bt (krh a)) ∧ Below w.heap.size w w' := by
  have hst := (bootB w a).2.2.2.2
  have RB := BRel.start w a
  have HRG := hid (RB.s.lane (x := 0) (y := 0) (by decide) (by decide))
  have hst2 := storeBL RB.o (x := 0) (y := 0) (by decide) (by decide) (a 0 0)
  have R0 := hid ((RB.put (x := 0) (y := 0) (by decide) (by decide) (a 0 0)).eq (rho_zero a))
  rw [show 0 * 320 + 0 * 64 = 0 by decide] at HRG hst2 R0
  have HSzF := hid (sizeL_f (a 0 0))
  have hlenF := bcell_len 64 (a 0 0)
  have hla := kcell_len a
  have hlz := kcell_len kzero
  have hzB := zeroB
  obtain ⟨L, eL⟩ : ∃ L, L = krh a := ⟨_, rfl⟩
  have HLE := hid eL
  rw [← eL]
  clear eL RB
  unfold oB at hst R0 HRG hst2
  rw [show bt a = .agg (kcell a).toArray from rfl]
  obtain ⟨fl, hfl⟩ : ∃ f, f = bcell 64 (a 0 0) := ⟨_, rfl⟩
  rw [← hfl] at HRG hst2 R0 HSzF hlenF
  clear hfl
  go_enter Tryd.func35, Tryd.ntmps35
  go_wp2_with (with_reducible refine wpList_load_mid rfl 57 (.tmp 10) rfl w.heap.size 0 rfl fl _ HRG.out Tryd.underlying57 rfl HSzF.out ?_)
  clear hla hlz hzB hst hst2 HRG HSzF hlenF
  generalize (((((w.alloc _).alloc _).alloc _).setCells _ _ _).setCells _ _ _) = w0 at *
  go_loopw [4, 5, 6] (fun u v i wr => ∃ t X Y : Nat, t ≤ 24 ∧ Hid (kx t = (X, Y)) ∧ u = .int .i64 X ∧ v = .int .i64 Y ∧ i = .int .i64 t ∧ BRel w a (krho_at a t) wr) (fun _ _ i _ => 24 - (intOf i).toNat)
  case atStart => exact ⟨0, 1, 0, by omega, hid (show kx 0 = (1, 0) from rfl), rfl, rfl, rfl, R0.out⟩
  case round =>
    clear R0
    obtain ⟨t, X, Y, ht, HK, rfl, rfl, rfl, hrel⟩ := hrel
    have hX5 : X < 5 := by
      have h := (kx_lt t).1
      rw [HK.out] at h
      exact h
    have hY5 : Y < 5 := by
      have h := (kx_lt t).2
      rw [HK.out] at h
      exact h
    by_cases hltt : t < 24
    · have i2 : (t : Int) < 24 := by omega
      have HR := hid (hrel.eq (rhz_start a hltt))
      obtain ⟨w1, hw1⟩ : ∃ v, v = wr := ⟨wr, rfl⟩
      rw [← hw1] at HR ⊢
      clear hrel hw1
      go_wp2_with fail
      go_loopw [7] (fun i wr => ∃ z : Nat, z ≤ 64 ∧ i = .int .i64 z ∧ BRel w a (rhz a t z) wr) (fun i _ => 64 - (intOf i).toNat)
      case atStart => exact ⟨0, by omega, rfl, HR.out⟩
      case round =>
        clear HR
        obtain ⟨z, hz, rfl, hrel⟩ := hrel
        by_cases hltz : z < 64
        · have k2 : (z : Int) < 64 := by omega
          obtain ⟨ta, hta⟩ : ∃ n, n = t + 1 := ⟨_, rfl⟩
          obtain ⟨tb, htb⟩ : ∃ n, n = t + 2 := ⟨_, rfl⟩
          obtain ⟨tc, htc⟩ : ∃ n, n = ta * tb := ⟨_, rfl⟩
          obtain ⟨o, ho⟩ : ∃ n, n = tc / 2 := ⟨_, rfl⟩
          obtain ⟨s, hs⟩ : ∃ n, n = z + o := ⟨_, rfl⟩
          obtain ⟨r, hr⟩ : ∃ n, n = s % 64 := ⟨_, rfl⟩
          have hb : tc ≤ 25 * 26 := by rw [htc]; exact Nat.mul_le_mul (by omega) (by omega)
          have a1 : IntKind.i64.wrap ((t : Int) + 1) = (ta : Int) := by rw [IntKind.wrap_i64]; omega
          have a2 : IntKind.i64.wrap ((t : Int) + 2) = (tb : Int) := by rw [IntKind.wrap_i64]; omega
          have a3 : IntKind.i64.wrap ((ta : Int) * (tb : Int)) = (tc : Int) := by rw [show (ta : Int) * (tb : Int) = (tc : Int) by rw [htc, Int.natCast_mul], IntKind.wrap_i64]; omega
          have a4 : IntKind.i64.wrap ((tc : Int) / 2) = (o : Int) := by rw [IntKind.wrap_i64]; omega
          have a5 : IntKind.i64.wrap ((z : Int) + (o : Int)) = (s : Int) := by rw [IntKind.wrap_i64]; omega
          have a6 : (s : Int).tmod 64 = (r : Int) := by rw [hr, Int.tmod_eq_emod_of_nonneg (by omega)]; rfl
          have hr64 : r < 64 := by omega
          have r5 : (r : Int) < 64 := by omega
          have r0 : (0 : Int) ≤ (r : Int) := by omega
          have x0 : (0 : Int) ≤ (X : Int) := by omega
          have y0 : (0 : Int) ≤ (Y : Int) := by omega
          have z0 : (0 : Int) ≤ (z : Int) := by omega
          have x5 : (X : Int) < 5 := by omega
          have y5 : (Y : Int) < 5 := by omega
          have c0 := hrel.s.cellk hX5 hY5 hltz
          have c3 := hrel.o.cellk hX5 hY5 hr64
          have f3 := hrel.o.frozen (X * 320 + Y * 64 + r)
          have HST := hid ((hrel.set hX5 hY5 hr64 (a X Y z)).eq (d := rhz a t (z + 1)) (rhz_set a (o := o) (r := r) hltt hltz HK.out (by rw [ho, htc, hta, htb]) (by rw [hr, hs])))
          clear hrel hr hs ho htc hta htb hb
          go_wp2_with fail
          go_still_tail 21, (by kernel_rfl)
          change wpList _ _ _ _ _ wr.drew
          clear a1 a2 a3 a4 a5 a6
          go_wp2
          go_roundw
          case rel => exact ⟨z + 1, by omega, by go_num, HST.out.drewN 1⟩
          case measure => simp [intOf]; omega
        · have k2 : decide ((z : Int) < 64) = false := by simp; omega
          have HR5 := hid (hrel.eq (d := krho_at a (t + 1)) (by rw [show z = 64 by omega]; exact rhz_end a t))
          have HK2 : Hid (kx (t + 1) = (Y, (2 * X + 3 * Y) % 5)) := by
            show ((kx t).2, (2 * (kx t).1 + 3 * (kx t).2) % 5) = _
            rw [HK.out]
          clear hrel
          go_wp2
          go_roundw
          case rel => exact ⟨t + 1, Y, (2 * X + 3 * Y) % 5, by omega, HK2, rfl, by go_num, by go_num, HR5.out⟩
          case measure => simp [intOf]; omega
    · have i2 : decide ((t : Int) < 24) = false := by simp; omega
      have hrel := (show BRel w a (krho_at a 24) wr by rw [show (24 : Nat) = t by omega]; exact hrel).eq (krho_end a)
      rw [← HLE.out] at hrel
      have HO := hid hrel.o.range
      have hst := storeB L hrel.z
      have HZ := hid (hrel.z.over L)
      have HB := hid hrel.b
      have hlenL := kcell_len L
      have HSz := hid (sizeB_k L)
      clear hrel
      go_wp2_with (with_reducible refine wpList_load_mid rfl 60 (.tmp 3) rfl (w.heap.size + 1 + 1) 0 rfl (kcell L) _ HO.out Tryd.underlying60 rfl HSz.out ?_)
      refine bodyPost_ret (BB.bt_result HZ.out Tryd.results35 rfl) rfl ?_
      exact ⟨rfl, below_cells (by omega) _ _ _ HB.out⟩
end Go.Proofs.YteogjnendkbjcaaDoor
