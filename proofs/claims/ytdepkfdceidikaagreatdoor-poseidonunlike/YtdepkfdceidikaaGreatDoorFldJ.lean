import Derived.Test.YtdepkfdceidikaaGreatDoorFldF
import Derived.Test.YtdepkfdceidikaaGreatDoorLOpsC
/-
  (Element).Exp, Inverse, field.Sum: what each call does.
-/
namespace Go.Proofs.YtdepkfdceidikaaGreatDoor
open Go.RowKit
set_option linter.unusedVariables false

/-- All four words of a block, stored anew. -/
theorem B4.all {w : World} {b : Nat} {a0 a1 a2 a3 : Int} (h : B4 w b a0 a1 a2 a3) (x0 x1 x2 x3 : Int) : B4 ((((w.setCell ⟨b, 0, none⟩ (.int .u64 x0)).setCell ⟨b, 1, none⟩ (.int .u64 x1)).setCell ⟨b, 2, none⟩ (.int .u64 x2)).setCell ⟨b, 3, none⟩ (.int .u64 x3)) b x0 x1 x2 x3 :=
  (((h.s0 x0).s1 x1).s2 x2).s3 x3
theorem B4.others {w : World} {b c : Nat} {a0 a1 a2 a3 x0 x1 x2 x3 : Int} (h : B4 w b a0 a1 a2 a3) (hne : b ≠ c) : B4 ((((w.setCell ⟨c, 0, none⟩ (.int .u64 x0)).setCell ⟨c, 1, none⟩ (.int .u64 x1)).setCell ⟨c, 2, none⟩ (.int .u64 x2)).setCell ⟨c, 3, none⟩ (.int .u64 x3)) b a0 a1 a2 a3 :=
  (((h.other hne).other hne).other hne).other hne
theorem below_all {B c : Nat} {a w : World} (h : Below B a w) (hB : B ≤ c) (x0 x1 x2 x3 : Int) : Below B a ((((w.setCell ⟨c, 0, none⟩ (.int .u64 x0)).setCell ⟨c, 1, none⟩ (.int .u64 x1)).setCell ⟨c, 2, none⟩ (.int .u64 x2)).setCell ⟨c, 3, none⟩ (.int .u64 x3)) :=
  (((h.setCell (p := ⟨c, 0, none⟩) hB _).setCell (p := ⟨c, 1, none⟩) hB _).setCell (p := ⟨c, 2, none⟩) hB _).setCell (p := ⟨c, 3, none⟩) hB _
theorem size_all (w : World) (c : Nat) (x0 x1 x2 x3 : Int) : ((((w.setCell ⟨c, 0, none⟩ (.int .u64 x0)).setCell ⟨c, 1, none⟩ (.int .u64 x1)).setCell ⟨c, 2, none⟩ (.int .u64 x2)).setCell ⟨c, 3, none⟩ (.int .u64 x3)).heap.size = w.heap.size := by simp [World.setCell]

/-- The relation of Exp's loop. -/
def ERel (w : World) (bo : Nat) (a0 a1 a2 a3 : Int) (x E : Nat) (wr : World) (k : Nat) : Prop :=
  ∃ o0 o1 o2 o3 : Int, B4 wr w.heap.size a0 a1 a2 a3 ∧ B4 wr (w.heap.size + 1) 0 0 0 0 ∧ B4 wr bo o0 o1 o2 o3 ∧ Below w.heap.size w wr ∧ El (w4 o0 o1 o2 o3) (x ^ (E / 2 ^ k) % pN)

set_option maxRecDepth 20000 in
set_option maxHeartbeats 4000000 in
theorem eexp_c (u : Value) (x : Nat) (B : Option Addr) (ne ce : Nat) (le : List Nat) (w : World) (hu : El u x) (hb : Rd w w.heap.size B ne le) (hne : ne ≤ 5000) (hG : Glob w) :
    Calls Tryz.prog 77 #[u, .slice B ne ce] w fun e w' => ∃ r, e = .returned r ∧ El r (x ^ val 18446744073709551616 le % pN) ∧ Below w.heap.size w w' := by
  have HU := hid hu
  obtain ⟨a0, a1, a2, a3, rfl, -, -, -⟩ := hu
  have hA0 := (o4_new w 37 a0 a1 a2 a3).alloc (o4 37 0 0 0 0)
  have hZ0 := o4_new (w.alloc (o4 37 a0 a1 a2 a3)) 37 0 0 0 0
  rw [show (w.alloc (o4 37 a0 a1 a2 a3)).heap.size = w.heap.size + 1 by simp] at hZ0
  have hl0 := ((Below.refl w.heap.size w).alloc (Nat.le_refl _) (o4 37 a0 a1 a2 a3)).alloc (by simp) (o4 37 0 0 0 0)
  have hG0 := hG.up hl0
  have HA := hid hA0
  have HZ := hid hZ0
  have HL := hid hl0
  clear hA0 hZ0 hl0
  unfold w4
  go_enter Tryz.func77, Tryz.ntmps77
  go_wp2_with fail
  refine (fromUint64_c 1 _ (by decide) hG0).mono ?_
  rintro e w1 ⟨r, rfl, hr, hb1⟩
  have HR1 := hid hr
  obtain ⟨s0, s1, s2, s3, rfl, -, -, -⟩ := hr
  have hA1 := (HA.out.below hb1 HA.out.size).alloc (o4 37 s0 s1 s2 s3)
  have hZ1 := (HZ.out.below hb1 HZ.out.size).alloc (o4 37 s0 s1 s2 s3)
  have hO1 := o4_new w1 37 s0 s1 s2 s3
  have hl1' : Below w.heap.size w w1 := HL.out.trans (Below.mono (B' := w.heap.size) hb1 HL.out.size)
  have hl1 := hl1'.alloc hl1'.size (o4 37 s0 s1 s2 s3)
  have hsz : w.heap.size + 1 + 1 ≤ w1.heap.size := by
    have h1 := hb1.size
    have h2 : ((w.alloc (o4 37 a0 a1 a2 a3)).alloc (o4 37 0 0 0 0)).heap.size = w.heap.size + 1 + 1 := by simp
    rw [h2] at h1
    exact h1
  have rb1 := hb.up hl1 (Nat.le_refl _)
  have hbl := blen_le (n := val 18446744073709551616 le) (k := 64 * ne) (by have := val_lt _ (by decide) le hb.lt; rw [hb.len] at this; rw [Nat.pow_mul]; exact this)
  have HBL := hid (blen_lt (val 18446744073709551616 le))
  have HREL : Hid (ERel w w1.heap.size a0 a1 a2 a3 x (val 18446744073709551616 le) (w1.alloc (o4 37 s0 s1 s2 s3)) (blen (val 18446744073709551616 le))) := by
    refine ⟨s0, s1, s2, s3, hA1, hZ1, hO1, hl1, ?_⟩
    rw [Nat.div_eq_of_lt HBL.out, Nat.pow_zero]
    exact HR1.out
  clear hA1 hZ1 hO1 hb1 HA HZ HL hG0
  unfold w4 o4 at *
  go_wp2_with fail
  refine (bits_c B ne ce _ le _ rb1 (by omega)).mono ?_
  rintro e w' ⟨rfl, rfl⟩
  generalize w1.alloc (.cells #[.int .u64 s0, .int .u64 s1, .int .u64 s2, .int .u64 s3] 37) = wS at HREL rb1 hl1 ⊢
  go_wp2
  go_loopw [6] (fun i wr => ∃ k : Nat, k ≤ 64 * ne ∧ i = .int .i64 ((k : Int) - 1) ∧ ERel w w1.heap.size a0 a1 a2 a3 x (val 18446744073709551616 le) wr k) (fun i _ => (intOf i + 1).toNat)
  case atStart =>
    exact ⟨blen (val 18446744073709551616 le), hbl, rfl, HREL.out⟩
  case round =>
    obtain ⟨k, hk, rfl, o0, o1, o2, o3, hA, hZ, hO, hl, hE⟩ := hrel
    have HE := hid hE
    have co0 := hO.c0
    have co1 := hO.c1
    have co2 := hO.c2
    have co3 := hO.c3
    clear hE
    rcases k with _ | k
    · have cz0 := hZ.c0
      have cz1 := hZ.c1
      have cz2 := hZ.c2
      have cz3 := hZ.c3
      have fz := hZ.frozen
      have R : Hid (El (w4 o0 o1 o2 o3) (x ^ val 18446744073709551616 le % pN)) := by
        have := HE.out
        rw [Nat.pow_zero, Nat.div_one] at this
        exact this
      clear hA hZ hO rb1
      go_wp2
      refine bodyPost_ret (by simp [results, Tryz.results77, go_sem, cz0, cz1, cz2, cz3]; rfl) rfl ?_
      exact ⟨_, rfl, R.out, below_all hl (by omega) _ _ _ _⟩
    · have e1 : (((k + 1 : Nat) : Int) - 1) = (k : Int) := by omega
      rw [e1]
      clear e1
      have hGr := hG.up hl
      go_wp2_with fail
      refine (esquare_c _ _ wr HE.out hGr).mono ?_
      rintro e w4' ⟨r, rfl, hr, hb4⟩
      have HQ := hid hr
      obtain ⟨q0, q1, q2, q3, rfl, -, -, -⟩ := hr
      have hA4 := hA.below hb4 hA.size
      have hZ4 := hZ.below hb4 hZ.size
      have hO4 := hO.below hb4 hO.size
      have hl4 := hl.trans (hb4.mono hl.size)
      have rb4 := (hb.up hl4 (Nat.le_refl _))
      have hk64 : k / 64 < ne := by omega
      obtain ⟨bb, ob, rfl, hbb, hcb0⟩ := hb.at_ hk64
      have hcb := (hl4.cell (p := ⟨bb, ob + k / 64, none⟩) hbb).trans hcb0
      clear hcb0
      have x0 := at64_nonneg le (k / 64)
      have hand : bits .and .u64 (at64 le (k / 64) / 2 ^ (k % 64)) 1 = ((val 18446744073709551616 le / 2 ^ k % 2 : Nat) : Int) := by
        rw [← bit_at64 le hb.lt k]; exact and_one _ _ (getD_lt _ (by decide) le hb.lt _)
      have HST := hid (pow_step x (val 18446744073709551616 le) k pN _ rfl)
      have hbne : bb ≠ w1.heap.size := by omega
      have cq0 := hO4.c0
      have cq1 := hO4.c1
      have cq2 := hO4.c2
      have cq3 := hO4.c3
      have fq := hO4.frozen
      have hA5 := hA4.others (c := w1.heap.size) (x0 := q0) (x1 := q1) (x2 := q2) (x3 := q3) (by omega)
      have hZ5 := hZ4.others (c := w1.heap.size) (x0 := q0) (x1 := q1) (x2 := q2) (x3 := q3) (by omega)
      have hO5 := hO4.all q0 q1 q2 q3
      have hl5 := below_all hl4 hl1'.size q0 q1 q2 q3
      have HS := hid (size_all w4' w1.heap.size q0 q1 q2 q3)
      unfold Go.Proofs.YtdepkfdceidikaaGreatDoor.w4
      have hb2 : val 18446744073709551616 le / 2 ^ k % 2 = 0 ∨ val 18446744073709551616 le / 2 ^ k % 2 = 1 := by omega
      rcases hb2 with hb2 | hb2
      · have hbit : (bits .and .u64 (at64 le (k / 64) / 2 ^ (k % 64)) 1 == 1) = false := by rw [hand, hb2]; rfl
        have HF : Hid (El (Go.Proofs.YtdepkfdceidikaaGreatDoor.w4 q0 q1 q2 q3) (x ^ (val 18446744073709551616 le / 2 ^ k) % pN)) := by
          show El _ _
          rw [← HST.out, hb2, if_neg (by decide), Nat.mul_one, Nat.mod_mod]
          exact HQ.out
        clear hand hb2 hA hZ hO hA4 hZ4 hO4 co0 co1 co2 co3 rb4 rb1
        go_wp2
        go_roundw
        case rel => exact ⟨k, by omega, by go_num, q0, q1, q2, q3, hA5, hZ5, hO5, hl5, HF.out⟩
        case measure => simp [intOf]
      · have hbit : (bits .and .u64 (at64 le (k / 64) / 2 ^ (k % 64)) 1 == 1) = true := by rw [hand, hb2]; rfl
        have HB2 := hid hb2
        clear hand hb2
        have ca0 := hA5.c0
        have ca1 := hA5.c1
        have ca2 := hA5.c2
        have ca3 := hA5.c3
        have hG5 := hG.up hl5
        clear hA hZ hO hA4 hZ4 hO4 co0 co1 co2 co3 rb4 rb1
        go_wp2_with fail
        refine (emul_c _ _ _ x _ HQ.out HU.out hG5).mono ?_
        rintro e w6 ⟨r, rfl, hr, hb6⟩
        have HQ6 := hid hr
        obtain ⟨t0, t1, t2, t3, rfl, -, -, -⟩ := hr
        have hA6 := hA5.below hb6 hA5.size
        have hZ6 := hZ5.below hb6 hZ5.size
        have hO6 := hO5.below hb6 hO5.size
        have hl6 := hl5.trans (hb6.mono hl5.size)
        have HF : Hid (El (Go.Proofs.YtdepkfdceidikaaGreatDoor.w4 t0 t1 t2 t3) (x ^ (val 18446744073709551616 le / 2 ^ k) % pN)) := by
          show El _ _
          rw [← HST.out, HB2.out, if_pos rfl, Nat.mul_mod_mod]
          exact HQ6.out
        have ct0 := hO6.c0
        have ct1 := hO6.c1
        have ct2 := hO6.c2
        have ct3 := hO6.c3
        have ft := hO6.frozen
        have hA7 := hA6.others (c := w1.heap.size) (x0 := t0) (x1 := t1) (x2 := t2) (x3 := t3) (by omega)
        have hZ7 := hZ6.others (c := w1.heap.size) (x0 := t0) (x1 := t1) (x2 := t2) (x3 := t3) (by omega)
        have hO7 := hO6.all t0 t1 t2 t3
        have hl7 := below_all hl6 hl1'.size t0 t1 t2 t3
        clear hA6 hZ6 hO6 hA5 hZ5 hO5 hb6 hl6 hG5 ca0 ca1 ca2 ca3 cq0 cq1 cq2 cq3 fq HS
        unfold Go.Proofs.YtdepkfdceidikaaGreatDoor.w4
        go_wp2
        go_roundw
        case rel => exact ⟨k, by omega, by go_num, t0, t1, t2, t3, hA7, hZ7, hO7, hl7, HF.out⟩
        case measure => simp [intOf]

theorem val_two : val 18446744073709551616 [2] = 2 := by decide
set_option maxRecDepth 20000 in
set_option maxHeartbeats 4000000 in
theorem einverse_c (u : Value) (x : Nat) (w : World) (hu : El u x) (hG : Glob w) :
    Calls Tryz.prog 48 #[u] w fun e w' => ∃ r, e = .returned r ∧ El r (x ^ (pN - 2) % pN) ∧ Below w.heap.size w w' := by
  have HU := hid hu
  obtain ⟨a0, a1, a2, a3, rfl, -, -, -⟩ := hu
  have hA0 := ((o4_new w 37 a0 a1 a2 a3).alloc (o4 37 0 0 0 0)).alloc (o4 35 4891460686036598785 2896914383306846353 13281191951274694749 3486998266802970665)
  have hZ0 := (o4_new (w.alloc (o4 37 a0 a1 a2 a3)) 37 0 0 0 0).alloc (o4 35 4891460686036598785 2896914383306846353 13281191951274694749 3486998266802970665)
  have hP0 := o4_new ((w.alloc (o4 37 a0 a1 a2 a3)).alloc (o4 37 0 0 0 0)) 35 4891460686036598785 2896914383306846353 13281191951274694749 3486998266802970665
  rw [show (w.alloc (o4 37 a0 a1 a2 a3)).heap.size = w.heap.size + 1 by simp] at hZ0
  rw [show ((w.alloc (o4 37 a0 a1 a2 a3)).alloc (o4 37 0 0 0 0)).heap.size = w.heap.size + 1 + 1 by simp] at hP0
  have hl0 := (((Below.refl w.heap.size w).alloc (Nat.le_refl _) (o4 37 a0 a1 a2 a3)).alloc (by simp) (o4 37 0 0 0 0)).alloc (by simp; omega) (o4 35 4891460686036598785 2896914383306846353 13281191951274694749 3486998266802970665)
  have g0 := hG.p0
  have g1 := hG.p1
  have g2 := hG.p2
  have g3 := hG.p3
  have szP := hG.sizeP
  have HA := hid hA0
  have HZ := hid hZ0
  have HP := hid hP0
  have HL := hid hl0
  clear hA0 hZ0 hP0 hl0
  unfold w4
  go_enter Tryz.func48, Tryz.ntmps48
  go_wp2_with fail
  change Calls _ _ _ ((((w.alloc (o4 37 a0 a1 a2 a3)).alloc (o4 37 0 0 0 0)).alloc (o4 35 4891460686036598785 2896914383306846353 13281191951274694749 3486998266802970665)).alloc (.cells #[.int .u64 2] 34)) _
  have hsz : (((w.alloc (o4 37 a0 a1 a2 a3)).alloc (o4 37 0 0 0 0)).alloc (o4 35 4891460686036598785 2896914383306846353 13281191951274694749 3486998266802970665)).heap.size = w.heap.size + 1 + 1 + 1 := by simp
  generalize ((w.alloc (o4 37 a0 a1 a2 a3)).alloc (o4 37 0 0 0 0)).alloc (o4 35 4891460686036598785 2896914383306846353 13281191951274694749 3486998266802970665) = w3 at *
  have hA4 := HA.out.alloc (.cells #[.int .u64 2] 34)
  have hZ4 := HZ.out.alloc (.cells #[.int .u64 2] 34)
  have hP4 := HP.out.alloc (.cells #[.int .u64 2] 34)
  have hl4 := HL.out.alloc (by omega) (.cells #[.int .u64 2] 34)
  have r2 := rdw_one w3 2 (by decide)
  have hs4 : (w3.alloc (.cells #[.int .u64 2] 34)).heap.size = w3.heap.size + 1 := by simp
  have rp := hP4.rd prime4 hP4.size
  rw [← hs4, hsz] at r2
  clear g0 g1 g2 g3 HA HZ HP HL hP4
  refine (sub_c (some ⟨w.heap.size + 1 + 1, 0, none⟩) (some ⟨w.heap.size + 1 + 1 + 1, 0, none⟩) 4 1 4 1 _ [2] _ rp r2 (by omega) (by omega)).mono ?_
  rintro e w5 ⟨c, rfl, hS⟩
  obtain ⟨r, hr, hv, hb5, hc⟩ := hS.wds
  rw [show (w3.alloc (.cells #[.int .u64 2] 34)).heap.size = w.heap.size + 1 + 1 + 1 + 1 by rw [hs4, hsz]] at hr hb5 ⊢
  have hval : val 18446744073709551616 r = pN - 2 := by
    have h1 := val_lt _ (by decide) r hr.lt
    rw [hr.len] at h1
    have h2 : pv 18446744073709551616 [2] (max 4 1) = 2 := by decide
    have h3 : pv 18446744073709551616 (l4 4891460686036598785 2896914383306846353 13281191951274694749 3486998266802970665) (max 4 1) = pN := val_prime
    rw [h2, h3] at hv
    have h4 : (18446744073709551616 : Nat) ^ max 4 1 = 115792089237316195423570985008687907853269984665640564039457584007913129639936 := by decide
    rw [h4] at hv h1
    unfold pN at hv ⊢
    omega
  have hA5 := hA4.below hb5 (by omega)
  have hZ5 := hZ4.below hb5 (by omega)
  have hl5 := hl4.trans (hb5.mono (by omega))
  have hG5 := hG.up hl5
  have HV := hid hval
  have ca0 := hA5.c0
  have ca1 := hA5.c1
  have ca2 := hA5.c2
  have ca3 := hA5.c3
  clear hval hv hS hA4 hZ4 hl4 r2 rp hs4 hsz hc hb5
  change Rd w5 _ _ 4 r at hr
  simp only [show max 4 1 = 4 from rfl]
  go_wp2_with fail
  refine (eexp_c _ x _ 4 4 r w5 HU.out hr (by omega) hG5).mono ?_
  rintro e w6 ⟨q, rfl, hq, hb6⟩
  rw [HV.out] at hq
  have hZ6 := hZ5.below hb6 hZ5.size
  have hl6 := hl5.trans (hb6.mono hl5.size)
  have R := hid hq
  obtain ⟨q0, q1, q2, q3, rfl, -, -, -⟩ := hq
  have z0 := hZ6.c0
  have z1 := hZ6.c1
  have z2 := hZ6.c2
  have z3 := hZ6.c3
  have fz := hZ6.frozen
  clear hb6 hZ6 hZ5 hG5 hr ca0 ca1 ca2 ca3 hA5 hl5
  unfold w4
  go_wp2
  refine bodyPost_ret (by simp [results, Tryz.results48, go_sem, z0, z1, z2, z3]; rfl) rfl ?_
  exact ⟨_, rfl, R.out, by go_grown⟩
end Go.Proofs.YtdepkfdceidikaaGreatDoor
/-
  field.Sum: what the call does; slices of elements (RdE).
-/
namespace Go.Proofs.YtdepkfdceidikaaGreatDoor
open Go.RowKit
set_option linter.unusedVariables false

/-- The slice of n elements at A reads as the numbers xs, and lies below block B. -/
structure RdE (w : World) (B : Nat) (A : Option Addr) (n : Nat) (xs : List Nat) : Prop where
  len : xs.length = n
  cells : 0 < n → ∃ b off, A = some ⟨b, off, none⟩ ∧ b < B ∧ ∀ i, i < n → ∃ r0 r1 r2 r3 : Int, El (w4 r0 r1 r2 r3) (xs.getD i 0) ∧
    w.cell? ⟨b, off + i * 4, none⟩ = some (.int .u64 r0) ∧ w.cell? ⟨b, off + i * 4 + 1, none⟩ = some (.int .u64 r1) ∧ w.cell? ⟨b, off + i * 4 + 2, none⟩ = some (.int .u64 r2) ∧ w.cell? ⟨b, off + i * 4 + 3, none⟩ = some (.int .u64 r3)
theorem RdE.below {w w' : World} {B B' n : Nat} {A : Option Addr} {l : List Nat} (h : RdE w B A n l) (hb : Below B' w w') (hB : B ≤ B') : RdE w' B A n l :=
  ⟨h.len, fun hn => by
    obtain ⟨b, off, e, hbB, hc⟩ := h.cells hn
    have k : ∀ i, w'.cell? ⟨b, i, none⟩ = w.cell? ⟨b, i, none⟩ := fun i => hb.cell (p := ⟨b, i, none⟩) (Nat.lt_of_lt_of_le hbB hB)
    refine ⟨b, off, e, hbB, fun i hi => ?_⟩
    obtain ⟨r0, r1, r2, r3, h0, h1, h2, h3, h4⟩ := hc i hi
    exact ⟨r0, r1, r2, r3, h0, (k _).trans h1, (k _).trans h2, (k _).trans h3, (k _).trans h4⟩⟩
theorem RdE.more {w : World} {B B' n : Nat} {A : Option Addr} {l : List Nat} (h : RdE w B A n l) (hB : B ≤ B') : RdE w B' A n l :=
  ⟨h.len, fun hn => by
    obtain ⟨b, off, e, hb, hc⟩ := h.cells hn
    exact ⟨b, off, e, by omega, hc⟩⟩
theorem RdE.nil (w : World) (B : Nat) (A : Option Addr) : RdE w B A 0 [] := ⟨rfl, fun h => absurd h (by omega)⟩

/-- The sum of the first k numbers. -/
def psum (l : List Nat) : Nat → Nat
  | 0 => 0
  | k + 1 => psum l k + l.getD k 0
def SRel (w : World) (l : List Nat) (wr : World) (k : Nat) : Prop :=
  ∃ o0 o1 o2 o3 : Int, B4 wr w.heap.size 0 0 0 0 ∧ B4 wr (w.heap.size + 1) o0 o1 o2 o3 ∧ Below w.heap.size w wr ∧ El (w4 o0 o1 o2 o3) (psum l k % pN)

end Go.Proofs.YtdepkfdceidikaaGreatDoor
