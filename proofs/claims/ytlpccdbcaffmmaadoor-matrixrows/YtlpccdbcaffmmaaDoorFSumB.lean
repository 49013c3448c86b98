import Derived.Test.YtlpccdbcaffmmaaDoorFldF
import Derived.Test.YtlpccdbcaffmmaaDoorLOpsC
import Derived.Test.YtlpccdbcaffmmaaDoorRefA
import Derived.Laws.OwnMore
/-
  (Element).Exp, Inverse, field.Sum: what each call does.
-/
namespace Go.Proofs.YtlpccdbcaffmmaaDoor
open Go.RowKit
set_option linter.unusedVariables false

/-- All four words of a block, stored anew. -/
theorem B4.all {w : World} {b : Nat} {a0 a1 a2 a3 : Int} (h : B4 w b a0 a1 a2 a3) (x0 x1 x2 x3 : Int) : B4 ((((w.setCell ⟨b, 0, none⟩ (.int .u64 x0)).setCell ⟨b, 1, none⟩ (.int .u64 x1)).setCell ⟨b, 2, none⟩ (.int .u64 x2)).setCell ⟨b, 3, none⟩ (.int .u64 x3)) b x0 x1 x2 x3 :=
  (((h.s0 x0).s1 x1).s2 x2).s3 x3
theorem B4.others {w : World} {b c : Nat} {a0 a1 a2 a3 x0 x1 x2 x3 : Int} (h : B4 w b a0 a1 a2 a3) (hne : b ≠ c) : B4 ((((w.setCell ⟨c, 0, none⟩ (.int .u64 x0)).setCell ⟨c, 1, none⟩ (.int .u64 x1)).setCell ⟨c, 2, none⟩ (.int .u64 x2)).setCell ⟨c, 3, none⟩ (.int .u64 x3)) b a0 a1 a2 a3 :=
  (((h.other hne).other hne).other hne).other hne
theorem below_all {B c : Nat} {a w : World} (h : Below B a w) (hB : B ≤ c) (x0 x1 x2 x3 : Int) : Below B a ((((w.setCell ⟨c, 0, none⟩ (.int .u64 x0)).setCell ⟨c, 1, none⟩ (.int .u64 x1)).setCell ⟨c, 2, none⟩ (.int .u64 x2)).setCell ⟨c, 3, none⟩ (.int .u64 x3)) :=
  (((h.setCell (p := ⟨c, 0, none⟩) hB _).setCell (p := ⟨c, 1, none⟩) hB _).setCell (p := ⟨c, 2, none⟩) hB _).setCell (p := ⟨c, 3, none⟩) hB _
theorem size_all (w : World) (c : Nat) (x0 x1 x2 x3 : Int) : ((((w.setCell ⟨c, 0, none⟩ (.int .u64 x0)).setCell ⟨c, 1, none⟩ (.int .u64 x1)).setCell ⟨c, 2, none⟩ (.int .u64 x2)).setCell ⟨c, 3, none⟩ (.int .u64 x3)).heap.size = w.heap.size := by simp [World.setCell]

/-- The relation of Exp's loop. -/
def ERel (w : World) (bo : Nat) (a0 a1 a2 a3 : Int) (x E : Nat) (wr : World) (k : Nat) : Prop :=
  ∃ o0 o1 o2 o3 : Int, B4 wr w.heap.size a0 a1 a2 a3 ∧ B4 wr (w.heap.size + 1) 0 0 0 0 ∧ B4 wr bo o0 o1 o2 o3 ∧ Below w.heap.size w wr ∧ El (w4 o0 o1 o2 o3) (x ^ (E / 2 ^ k) % pN)

set_option maxRecDepth 20000 in
set_option maxHeartbeats 4000000 in
theorem eexp_c (u : Value) (x : Nat) (B : Option Addr) (ne ce : Nat) (le : List Nat) (w : World) (hu : El u x) (hb : Rd w w.heap.size B ne le) (hne : ne ≤ 5000) (hG : Glob w) :
    Calls Tryd.prog 71 #[u, .slice B ne ce] w fun e w' => ∃ r, e = .returned r ∧ El r (x ^ val 18446744073709551616 le % pN) ∧ Below w.heap.size w w' := by
  have HU := hid hu
  obtain ⟨a0, a1, a2, a3, rfl, -, -, -⟩ := hu
  have hA0 := (o4_new w 30 a0 a1 a2 a3).alloc (o4 30 0 0 0 0)
  have hZ0 := o4_new (w.alloc (o4 30 a0 a1 a2 a3)) 30 0 0 0 0
  rw [show (w.alloc (o4 30 a0 a1 a2 a3)).heap.size = w.heap.size + 1 by simp] at hZ0
  have hl0 := ((Below.refl w.heap.size w).alloc (Nat.le_refl _) (o4 30 a0 a1 a2 a3)).alloc (by simp) (o4 30 0 0 0 0)
  have hG0 := hG.up hl0
  have HA := hid hA0
  have HZ := hid hZ0
  have HL := hid hl0
  clear hA0 hZ0 hl0
  unfold w4
  go_enter Tryd.func71, Tryd.ntmps71
  go_wp2_with fail
  refine (fromUint64_c 1 _ (by decide) hG0).mono ?_
  rintro e w1 ⟨r, rfl, hr, hb1⟩
  have HR1 := hid hr
  obtain ⟨s0, s1, s2, s3, rfl, -, -, -⟩ := hr
  have hA1 := (HA.out.below hb1 HA.out.size).alloc (o4 30 s0 s1 s2 s3)
  have hZ1 := (HZ.out.below hb1 HZ.out.size).alloc (o4 30 s0 s1 s2 s3)
  have hO1 := o4_new w1 30 s0 s1 s2 s3
  have hl1' : Below w.heap.size w w1 := HL.out.trans (Below.mono (B' := w.heap.size) hb1 HL.out.size)
  have hl1 := hl1'.alloc hl1'.size (o4 30 s0 s1 s2 s3)
  have hsz : w.heap.size + 1 + 1 ≤ w1.heap.size := by
    have h1 := hb1.size
    have h2 : ((w.alloc (o4 30 a0 a1 a2 a3)).alloc (o4 30 0 0 0 0)).heap.size = w.heap.size + 1 + 1 := by simp
    rw [h2] at h1
    exact h1
  have rb1 := hb.up hl1 (Nat.le_refl _)
  have hbl := blen_le (n := val 18446744073709551616 le) (k := 64 * ne) (by have := val_lt _ (by decide) le hb.lt; rw [hb.len] at this; rw [Nat.pow_mul]; exact this)
  have HBL := hid (blen_lt (val 18446744073709551616 le))
  have HREL : Hid (ERel w w1.heap.size a0 a1 a2 a3 x (val 18446744073709551616 le) (w1.alloc (o4 30 s0 s1 s2 s3)) (blen (val 18446744073709551616 le))) := by
    refine ⟨s0, s1, s2, s3, hA1, hZ1, hO1, hl1, ?_⟩
    rw [Nat.div_eq_of_lt HBL.out, Nat.pow_zero]
    exact HR1.out
  clear hA1 hZ1 hO1 hb1 HA HZ HL hG0
  unfold w4 o4 at *
  go_wp2_with fail
  refine (bits_c B ne ce _ le _ rb1 (by omega)).mono ?_
  rintro e w' ⟨rfl, rfl⟩
  generalize w1.alloc (.cells #[.int .u64 s0, .int .u64 s1, .int .u64 s2, .int .u64 s3] 30) = wS at HREL rb1 hl1 ⊢
  go_wp2
  go_loopw [6] (fun i wr => ∃ k : Nat, k ≤ 64 * ne ∧ i = .int .i64 ((k : Int) - 1) ∧ ERel w w1.heap.size a0 a1 a2 a3 x (val 18446744073709551616 le) wr k) (fun i _ => (intOf i + 1).toNat)
  case atStart =>
    exact ⟨blen (val 18446744073709551616 le), hbl, rfl, HREL.out⟩
  case round =>
    obtain ⟨k, hk, rfl, o0, o1, o2, o3, hA, hZ, hO, hl, hE⟩ := hrel
    have HE := hid hE
    have co0 := hO.c0
    have co1 := hO.c1
    have co2 := hO.c2
    have co3 := hO.c3
    clear hE
    rcases k with _ | k
    · have cz0 := hZ.c0
      have cz1 := hZ.c1
      have cz2 := hZ.c2
      have cz3 := hZ.c3
      have fz := hZ.frozen
      have R : Hid (El (w4 o0 o1 o2 o3) (x ^ val 18446744073709551616 le % pN)) := by
        have := HE.out
        rw [Nat.pow_zero, Nat.div_one] at this
        exact this
      clear hA hZ hO rb1
      go_wp2
      refine bodyPost_ret (by simp [results, Tryd.results71, go_sem, cz0, cz1, cz2, cz3]; rfl) rfl ?_
      exact ⟨_, rfl, R.out, below_all hl (by omega) _ _ _ _⟩
    · have e1 : (((k + 1 : Nat) : Int) - 1) = (k : Int) := by omega
      rw [e1]
      clear e1
      have hGr := hG.up hl
      go_wp2_with fail
      refine (esquare_c _ _ wr HE.out hGr).mono ?_
      rintro e w4' ⟨r, rfl, hr, hb4⟩
      have HQ := hid hr
      obtain ⟨q0, q1, q2, q3, rfl, -, -, -⟩ := hr
      have hA4 := hA.below hb4 hA.size
      have hZ4 := hZ.below hb4 hZ.size
      have hO4 := hO.below hb4 hO.size
      have hl4 := hl.trans (hb4.mono hl.size)
      have rb4 := (hb.up hl4 (Nat.le_refl _))
      have hk64 : k / 64 < ne := by omega
      obtain ⟨bb, ob, rfl, hbb, hcb0⟩ := hb.at_ hk64
      have hcb := (hl4.cell (p := ⟨bb, ob + k / 64, none⟩) hbb).trans hcb0
      clear hcb0
      have x0 := at64_nonneg le (k / 64)
      have hand : bits .and .u64 (at64 le (k / 64) / 2 ^ (k % 64)) 1 = ((val 18446744073709551616 le / 2 ^ k % 2 : Nat) : Int) := by
        rw [← bit_at64 le hb.lt k]; exact and_one _ _ (getD_lt _ (by decide) le hb.lt _)
      have HST := hid (pow_step x (val 18446744073709551616 le) k pN _ rfl)
      have hbne : bb ≠ w1.heap.size := by omega
      have cq0 := hO4.c0
      have cq1 := hO4.c1
      have cq2 := hO4.c2
      have cq3 := hO4.c3
      have fq := hO4.frozen
      have hA5 := hA4.others (c := w1.heap.size) (x0 := q0) (x1 := q1) (x2 := q2) (x3 := q3) (by omega)
      have hZ5 := hZ4.others (c := w1.heap.size) (x0 := q0) (x1 := q1) (x2 := q2) (x3 := q3) (by omega)
      have hO5 := hO4.all q0 q1 q2 q3
      have hl5 := below_all hl4 hl1'.size q0 q1 q2 q3
      have HS := hid (size_all w4' w1.heap.size q0 q1 q2 q3)
      unfold Go.Proofs.YtlpccdbcaffmmaaDoor.w4
      have hb2 : val 18446744073709551616 le / 2 ^ k % 2 = 0 ∨ val 18446744073709551616 le / 2 ^ k % 2 = 1 := by omega
      rcases hb2 with hb2 | hb2
      · have hbit : (bits .and .u64 (at64 le (k / 64) / 2 ^ (k % 64)) 1 == 1) = false := by rw [hand, hb2]; rfl
        have HF : Hid (El (Go.Proofs.YtlpccdbcaffmmaaDoor.w4 q0 q1 q2 q3) (x ^ (val 18446744073709551616 le / 2 ^ k) % pN)) := by
          show El _ _
          rw [← HST.out, hb2, if_neg (by decide), Nat.mul_one, Nat.mod_mod]
          exact HQ.out
        clear hand hb2 hA hZ hO hA4 hZ4 hO4 co0 co1 co2 co3 rb4 rb1
        go_wp2
        go_roundw
        case rel => exact ⟨k, by omega, by go_num, q0, q1, q2, q3, hA5, hZ5, hO5, hl5, HF.out⟩
        case measure => simp [intOf]
      · have hbit : (bits .and .u64 (at64 le (k / 64) / 2 ^ (k % 64)) 1 == 1) = true := by rw [hand, hb2]; rfl
        have HB2 := hid hb2
        clear hand hb2
        have ca0 := hA5.c0
        have ca1 := hA5.c1
        have ca2 := hA5.c2
        have ca3 := hA5.c3
        have hG5 := hG.up hl5
        clear hA hZ hO hA4 hZ4 hO4 co0 co1 co2 co3 rb4 rb1
        go_wp2_with fail
        refine (emul_c _ _ _ x _ HQ.out HU.out hG5).mono ?_
        rintro e w6 ⟨r, rfl, hr, hb6⟩
        have HQ6 := hid hr
        obtain ⟨t0, t1, t2, t3, rfl, -, -, -⟩ := hr
        have hA6 := hA5.below hb6 hA5.size
        have hZ6 := hZ5.below hb6 hZ5.size
        have hO6 := hO5.below hb6 hO5.size
        have hl6 := hl5.trans (hb6.mono hl5.size)
        have HF : Hid (El (Go.Proofs.YtlpccdbcaffmmaaDoor.w4 t0 t1 t2 t3) (x ^ (val 18446744073709551616 le / 2 ^ k) % pN)) := by
          show El _ _
          rw [← HST.out, HB2.out, if_pos rfl, Nat.mul_mod_mod]
          exact HQ6.out
        have ct0 := hO6.c0
        have ct1 := hO6.c1
        have ct2 := hO6.c2
        have ct3 := hO6.c3
        have ft := hO6.frozen
        have hA7 := hA6.others (c := w1.heap.size) (x0 := t0) (x1 := t1) (x2 := t2) (x3 := t3) (by omega)
        have hZ7 := hZ6.others (c := w1.heap.size) (x0 := t0) (x1 := t1) (x2 := t2) (x3 := t3) (by omega)
        have hO7 := hO6.all t0 t1 t2 t3
        have hl7 := below_all hl6 hl1'.size t0 t1 t2 t3
        clear hA6 hZ6 hO6 hA5 hZ5 hO5 hb6 hl6 hG5 ca0 ca1 ca2 ca3 cq0 cq1 cq2 cq3 fq HS
        unfold Go.Proofs.YtlpccdbcaffmmaaDoor.w4
        go_wp2
        go_roundw
        case rel => exact ⟨k, by omega, by go_num, t0, t1, t2, t3, hA7, hZ7, hO7, hl7, HF.out⟩
        case measure => simp [intOf]

theorem val_two : val 18446744073709551616 [2] = 2 := by decide
set_option maxRecDepth 20000 in
set_option maxHeartbeats 4000000 in
theorem einverse_c (u : Value) (x : Nat) (w : World) (hu : El u x) (hG : Glob w) :
    Calls Tryd.prog 41 #[u] w fun e w' => ∃ r, e = .returned r ∧ El r (x ^ (pN - 2) % pN) ∧ Below w.heap.size w w' := by
  have HU := hid hu
  obtain ⟨a0, a1, a2, a3, rfl, -, -, -⟩ := hu
  have hA0 := ((o4_new w 30 a0 a1 a2 a3).alloc (o4 30 0 0 0 0)).alloc (o4 28 4891460686036598785 2896914383306846353 13281191951274694749 3486998266802970665)
  have hZ0 := (o4_new (w.alloc (o4 30 a0 a1 a2 a3)) 30 0 0 0 0).alloc (o4 28 4891460686036598785 2896914383306846353 13281191951274694749 3486998266802970665)
  have hP0 := o4_new ((w.alloc (o4 30 a0 a1 a2 a3)).alloc (o4 30 0 0 0 0)) 28 4891460686036598785 2896914383306846353 13281191951274694749 3486998266802970665
  rw [show (w.alloc (o4 30 a0 a1 a2 a3)).heap.size = w.heap.size + 1 by simp] at hZ0
  rw [show ((w.alloc (o4 30 a0 a1 a2 a3)).alloc (o4 30 0 0 0 0)).heap.size = w.heap.size + 1 + 1 by simp] at hP0
  have hl0 := (((Below.refl w.heap.size w).alloc (Nat.le_refl _) (o4 30 a0 a1 a2 a3)).alloc (by simp) (o4 30 0 0 0 0)).alloc (by simp; omega) (o4 28 4891460686036598785 2896914383306846353 13281191951274694749 3486998266802970665)
  have g0 := hG.p0
  have g1 := hG.p1
  have g2 := hG.p2
  have g3 := hG.p3
  have szP := hG.sizeP
  have HA := hid hA0
  have HZ := hid hZ0
  have HP := hid hP0
  have HL := hid hl0
  clear hA0 hZ0 hP0 hl0
  unfold w4
  go_enter Tryd.func41, Tryd.ntmps41
  go_wp2_with fail
  change Calls _ _ _ ((((w.alloc (o4 30 a0 a1 a2 a3)).alloc (o4 30 0 0 0 0)).alloc (o4 28 4891460686036598785 2896914383306846353 13281191951274694749 3486998266802970665)).alloc (.cells #[.int .u64 2] 27)) _
  have hsz : (((w.alloc (o4 30 a0 a1 a2 a3)).alloc (o4 30 0 0 0 0)).alloc (o4 28 4891460686036598785 2896914383306846353 13281191951274694749 3486998266802970665)).heap.size = w.heap.size + 1 + 1 + 1 := by simp
  generalize ((w.alloc (o4 30 a0 a1 a2 a3)).alloc (o4 30 0 0 0 0)).alloc (o4 28 4891460686036598785 2896914383306846353 13281191951274694749 3486998266802970665) = w3 at *
  have hA4 := HA.out.alloc (.cells #[.int .u64 2] 27)
  have hZ4 := HZ.out.alloc (.cells #[.int .u64 2] 27)
  have hP4 := HP.out.alloc (.cells #[.int .u64 2] 27)
  have hl4 := HL.out.alloc (by omega) (.cells #[.int .u64 2] 27)
  have r2 := rdw_one w3 2 (by decide)
  have hs4 : (w3.alloc (.cells #[.int .u64 2] 27)).heap.size = w3.heap.size + 1 := by simp
  have rp := hP4.rd prime4 hP4.size
  rw [← hs4, hsz] at r2
  clear g0 g1 g2 g3 HA HZ HP HL hP4
  refine (sub_c (some ⟨w.heap.size + 1 + 1, 0, none⟩) (some ⟨w.heap.size + 1 + 1 + 1, 0, none⟩) 4 1 4 1 _ [2] _ rp r2 (by omega) (by omega)).mono ?_
  rintro e w5 ⟨c, rfl, hS⟩
  obtain ⟨r, hr, hv, hb5, hc⟩ := hS.wds
  rw [show (w3.alloc (.cells #[.int .u64 2] 27)).heap.size = w.heap.size + 1 + 1 + 1 + 1 by rw [hs4, hsz]] at hr hb5 ⊢
  have hval : val 18446744073709551616 r = pN - 2 := by
    have h1 := val_lt _ (by decide) r hr.lt
    rw [hr.len] at h1
    have h2 : pv 18446744073709551616 [2] (max 4 1) = 2 := by decide
    have h3 : pv 18446744073709551616 (l4 4891460686036598785 2896914383306846353 13281191951274694749 3486998266802970665) (max 4 1) = pN := val_prime
    rw [h2, h3] at hv
    have h4 : (18446744073709551616 : Nat) ^ max 4 1 = 115792089237316195423570985008687907853269984665640564039457584007913129639936 := by decide
    rw [h4] at hv h1
    unfold pN at hv ⊢
    omega
  have hA5 := hA4.below hb5 (by omega)
  have hZ5 := hZ4.below hb5 (by omega)
  have hl5 := hl4.trans (hb5.mono (by omega))
  have hG5 := hG.up hl5
  have HV := hid hval
  have ca0 := hA5.c0
  have ca1 := hA5.c1
  have ca2 := hA5.c2
  have ca3 := hA5.c3
  clear hval hv hS hA4 hZ4 hl4 r2 rp hs4 hsz hc hb5
  change Rd w5 _ _ 4 r at hr
  simp only [show max 4 1 = 4 from rfl]
  go_wp2_with fail
  refine (eexp_c _ x _ 4 4 r w5 HU.out hr (by omega) hG5).mono ?_
  rintro e w6 ⟨q, rfl, hq, hb6⟩
  rw [HV.out] at hq
  have hZ6 := hZ5.below hb6 hZ5.size
  have hl6 := hl5.trans (hb6.mono hl5.size)
  have R := hid hq
  obtain ⟨q0, q1, q2, q3, rfl, -, -, -⟩ := hq
  have z0 := hZ6.c0
  have z1 := hZ6.c1
  have z2 := hZ6.c2
  have z3 := hZ6.c3
  have fz := hZ6.frozen
  clear hb6 hZ6 hZ5 hG5 hr ca0 ca1 ca2 ca3 hA5 hl5
  unfold w4
  go_wp2
  refine bodyPost_ret (by simp [results, Tryd.results41, go_sem, z0, z1, z2, z3]; rfl) rfl ?_
  exact ⟨_, rfl, R.out, by go_grown⟩
end Go.Proofs.YtlpccdbcaffmmaaDoor
/-
  field.Sum: what the call does; slices of elements (RdE).
-/
namespace Go.Proofs.YtlpccdbcaffmmaaDoor
open Go.RowKit
set_option linter.unusedVariables false

/-- The slice of n elements at A reads as the numbers xs, and lies below block B. -/
structure RdE (w : World) (B : Nat) (A : Option Addr) (n : Nat) (xs : List Nat) : Prop where
  len : xs.length = n
  cells : 0 < n → ∃ b off, A = some ⟨b, off, none⟩ ∧ b < B ∧ ∀ i, i < n → ∃ r0 r1 r2 r3 : Int, El (w4 r0 r1 r2 r3) (xs.getD i 0) ∧
    w.cell? ⟨b, off + i * 4, none⟩ = some (.int .u64 r0) ∧ w.cell? ⟨b, off + i * 4 + 1, none⟩ = some (.int .u64 r1) ∧ w.cell? ⟨b, off + i * 4 + 2, none⟩ = some (.int .u64 r2) ∧ w.cell? ⟨b, off + i * 4 + 3, none⟩ = some (.int .u64 r3)
theorem RdE.below {w w' : World} {B B' n : Nat} {A : Option Addr} {l : List Nat} (h : RdE w B A n l) (hb : Below B' w w') (hB : B ≤ B') : RdE w' B A n l :=
  ⟨h.len, fun hn => by
    obtain ⟨b, off, e, hbB, hc⟩ := h.cells hn
    have k : ∀ i, w'.cell? ⟨b, i, none⟩ = w.cell? ⟨b, i, none⟩ := fun i => hb.cell (p := ⟨b, i, none⟩) (Nat.lt_of_lt_of_le hbB hB)
    refine ⟨b, off, e, hbB, fun i hi => ?_⟩
    obtain ⟨r0, r1, r2, r3, h0, h1, h2, h3, h4⟩ := hc i hi
    exact ⟨r0, r1, r2, r3, h0, (k _).trans h1, (k _).trans h2, (k _).trans h3, (k _).trans h4⟩⟩
theorem RdE.more {w : World} {B B' n : Nat} {A : Option Addr} {l : List Nat} (h : RdE w B A n l) (hB : B ≤ B') : RdE w B' A n l :=
  ⟨h.len, fun hn => by
    obtain ⟨b, off, e, hb, hc⟩ := h.cells hn
    exact ⟨b, off, e, by omega, hc⟩⟩
theorem RdE.nil (w : World) (B : Nat) (A : Option Addr) : RdE w B A 0 [] := ⟨rfl, fun h => absurd h (by omega)⟩

/-- The sum of the first k numbers. -/
def psum (l : List Nat) : Nat → Nat
  | 0 => 0
  | k + 1 => psum l k + l.getD k 0
def SRel (w : World) (l : List Nat) (wr : World) (k : Nat) : Prop :=
  ∃ o0 o1 o2 o3 : Int, B4 wr w.heap.size 0 0 0 0 ∧ B4 wr (w.heap.size + 1) o0 o1 o2 o3 ∧ Below w.heap.size w wr ∧ El (w4 o0 o1 o2 o3) (psum l k % pN)

end Go.Proofs.YtlpccdbcaffmmaaDoor
/-
  Rows of field elements that a call makes and appends to.
-/
namespace Go.Proofs.YtlpccdbcaffmmaaDoor
open Go.RowKit
set_option linter.unusedVariables false

/-- An element's four words, and its number. -/
abbrev Qd := Int × Int × Int × Int × Nat
def qc (q : Qd) : List Value := [.int .u64 q.1, .int .u64 q.2.1, .int .u64 q.2.2.1, .int .u64 q.2.2.2.1]
def qv (q : Qd) : Value := .agg #[.int .u64 q.1, .int .u64 q.2.1, .int .u64 q.2.2.1, .int .u64 q.2.2.2.1]
def qn (q : Qd) : Nat := q.2.2.2.2
def flat : List Qd → List Value
  | [] => []
  | q :: L => qc q ++ flat L
theorem flat_append (L M : List Qd) : flat (L ++ M) = flat L ++ flat M := by
  induction L with
  | nil => rfl
  | cons q L ih => simp [flat, ih]
theorem flat_length (L : List Qd) : (flat L).length = L.length * 4 := by
  induction L with
  | nil => rfl
  | cons q L ih => simp [flat, qc, ih]; omega
theorem flat_one (L : List Qd) : ∀ u ∈ flat L, u.oneCell' = true := by
  induction L with
  | nil => intro u hu; simp [flat] at hu
  | cons q L ih =>
    intro u hu
    simp only [flat, List.mem_append] at hu
    rcases hu with h | h
    · simp only [qc, List.mem_cons, List.not_mem_nil, or_false] at h
      rcases h with rfl | rfl | rfl | rfl <;> rfl
    · exact ih u h
theorem flat_get (L : List Qd) : ∀ (i : Nat) (q : Qd), L[i]? = some q → ∀ k, k < 4 → (flat L)[i * 4 + k]? = (qc q)[k]? := by
  induction L with
  | nil => intro i q h; simp at h
  | cons p L ih =>
    intro i q h k hk
    cases i with
    | zero =>
      simp only [List.getElem?_cons_zero, Option.some.injEq] at h
      subst h
      simp only [flat, Nat.zero_mul, Nat.zero_add]
      exact List.getElem?_append_left (by simp [qc]; exact hk)
    | succ i =>
      simp only [List.getElem?_cons_succ] at h
      have h1 := ih i q h k hk
      simp only [flat]
      rw [List.getElem?_append_right (by simp [qc]; omega), ← h1]
      congr 1
      simp [qc]
      omega

/-- The slice value v owns the elements L, among the blocks from base on. -/
abbrev OwnE (w : World) (base : Nat) (v : Value) (L : List Qd) : Prop := w.ownsRow base 30 4 v L.length (flat L)

theorem OwnE.rd {w : World} {base : Nat} {v : Value} {L : List Qd} (h : OwnE w base v L) (hel : ∀ q ∈ L, El (qv q) (qn q)) : ∃ A c, v = .slice A L.length c ∧ L.length ≤ c ∧ (c ≤ maxLen) ∧ RdE w w.heap.size A L.length (L.map qn) := by
  rcases h.2 with ⟨rfl, hn⟩ | ⟨g, cap, cur, rfl, hb, hg, hc, hm, _, ht⟩
  · rw [hn]
    have : L = [] := List.eq_nil_of_length_eq_zero hn
    subst this
    exact ⟨none, 0, rfl, Nat.le_refl _, by decide, rfl, fun h => absurd h (by decide)⟩
  · refine ⟨some ⟨g, 0, none⟩, cap, rfl, hc, hm, by simp, fun _ => ⟨g, 0, rfl, (Array.getElem?_eq_some_iff.1 hg).1, fun i hi => ?_⟩⟩
    have hq : L[i]? = some L[i] := List.getElem?_eq_getElem hi
    have hcell : ∀ k, k < 4 → w.cell? ⟨g, 0 + i * 4 + k, none⟩ = (qc L[i])[k]? := by
      intro k hk
      rw [Nat.zero_add, h.cellAt (i * 4 + k) (by omega)]
      exact flat_get L i _ hq k hk
    refine ⟨L[i].1, L[i].2.1, L[i].2.2.1, L[i].2.2.2.1, ?_, hcell 0 (by decide), hcell 1 (by decide), hcell 2 (by decide), hcell 3 (by decide)⟩
    have := hel L[i] (List.getElem_mem hi)
    simp only [List.getD_eq_getElem?_getD, List.getElem?_map, hq, Option.map_some, Option.getD_some]
    exact this

theorem OwnE.mono {w : World} {base base' : Nat} {v : Value} {L : List Qd} (h : OwnE w base v L) (hb : base' ≤ base) : OwnE w base' v L := by
  refine ⟨h.1, ?_⟩
  rcases h.2 with h' | ⟨g, cap, cur, h1, h2, h3⟩
  · exact Or.inl h'
  · exact Or.inr ⟨g, cap, cur, h1, Nat.le_trans hb h2, h3⟩
theorem OwnE.below {w w' : World} {base B : Nat} {v : Value} {L : List Qd} (h : OwnE w base v L) (hb : Below B w w') (hB : w.heap.size ≤ B) : OwnE w' base v L := by
  refine ⟨h.1, ?_⟩
  rcases h.2 with h' | ⟨g, cap, cur, h1, h2, h3, h4⟩
  · exact Or.inl h'
  · exact Or.inr ⟨g, cap, cur, h1, h2, by rw [hb.block g (Nat.lt_of_lt_of_le (Array.getElem?_eq_some_iff.1 h3).1 hB)]; exact h3, h4⟩

theorem el_info : (Tryd.prog.info? 30).map (fun i => (i.zero, i.size, i.bytes)) = some (some (.agg #[.int .u64 0, .int .u64 0, .int .u64 0, .int .u64 0]), 4, 32) := by kernel_rfl

/-- append onto an own row of elements: where the new row lies. -/
theorem run_append_els (w : World) (base : Nat) (ty : TypeId) (v : Value) (L M : List Qd) (hown : OwnE w base v L) (a : Addr) (c : Nat) (hM : 0 < M.length)
    (hnews : ∀ j u, (flat M)[j]? = some u → w.cell? (a.add j) = some u) (hlen : L.length + M.length ≤ 1000000) (hbase : base ≤ w.heap.size) :
    ∃ v' w', (Builtin.append_ #[50, 50] ty #[v, .slice (some a) M.length c]).run Tryd.prog w = .ok v' w' ∧ OwnE w' base v' (L ++ M) ∧ w.grownBy w' v.ownBlock ∧
      (v'.ownBlock = v.ownBlock ∨ ∃ k, v'.ownBlock = some k ∧ w.heap.size ≤ k) := by
  obtain ⟨i0, hi, hz, hs1, hb⟩ := info_parts el_info
  have hML : (flat M).length = M.length * 4 := flat_length M
  rcases hown.2 with ⟨rfl, hn⟩ | ⟨g, cap, cur, rfl, hbg, hg, hnc, hcm, hcs, htake⟩
  · have hL : L = [] := List.eq_nil_of_length_eq_zero hn
    subst hL
    obtain ⟨v', w', h1, h2, h3, h4⟩ := run_append_own (P := Tryd.prog) w w.heap.size 50 ty 30 i0 _ 4 32 Tryd.underlying50 hi hz hs1 hb rfl (by decide) (.slice none 0 0) 0 [] (World.ownsRow_nil w _ _ 4) a M.length c (flat M) hML hnews (flat_one M) (by unfold maxLen; omega) (by omega) (Nat.le_refl _)
    rw [Nat.zero_add, List.nil_append] at h2
    refine ⟨v', w', h1, OwnE.mono (L := M) h2 hbase, h3, Or.inr ?_⟩
    rcases h2.2 with ⟨rfl, h0⟩ | ⟨g, cap, cur, rfl, hbg, _⟩
    · omega
    · exact ⟨g, rfl, hbg⟩
  · obtain ⟨v', w', h1, h2, h3, h4⟩ := run_append_own (P := Tryd.prog) w base 50 ty 30 i0 _ 4 32 Tryd.underlying50 hi hz hs1 hb rfl (by decide) _ L.length (flat L) hown a M.length c (flat M) hML hnews (flat_one M) (by unfold maxLen; omega) (by omega) hbase
    refine ⟨v', w', h1, ?_, h3, ?_⟩
    · show World.ownsRow _ _ _ _ _ (L ++ M).length _
      rw [flat_append, List.length_append]
      exact h2
    · by_cases hroom : L.length + M.length ≤ cap
      · obtain ⟨w'', h5, _, _⟩ := run_append_fits (P := Tryd.prog) w base 50 ty 30 i0 4 Tryd.underlying50 hi hs1 g L.length cap (flat L) hown a M.length c (flat M) hML hnews (flat_one M) hroom
        rw [h1] at h5
        simp only [Result.ok.injEq] at h5
        rw [h5.1]
        exact Or.inl rfl
      · have h6 := run_append_grow (P := Tryd.prog) w 50 ty 30 i0 _ Tryd.underlying50 hi hz ⟨g, 0, none⟩ L.length cap (flat L) (by rw [hs1]; exact flat_length L) (hown.cells rfl) a M.length c (flat M) (by rw [hs1]; exact hML) hnews (by omega) (by omega)
          (by rw [hb]; have := nextslicecap_le (need := L.length + M.length) (old := cap) (by omega); omega)
        rw [h1] at h6
        simp only [Result.ok.injEq] at h6
        rw [h6.1]
        exact Or.inr ⟨_, rfl, Nat.le_refl _⟩
end Go.Proofs.YtlpccdbcaffmmaaDoor
/-
  Two rows of elements, one grown behind and one grown in front, as avouchlaw02.FieldSums makes them.
-/
namespace Go.Proofs.YtlpccdbcaffmmaaDoor
open Go.RowKit
set_option linter.unusedVariables false

structure Two (w0 w : World) (va vt : Value) (L : List Qd) : Prop where
  a : OwnE w w0.heap.size va L
  t : OwnE w w0.heap.size vt L.reverse
  ne : vt.ownBlock = none ∨ vt.ownBlock ≠ va.ownBlock
  z : L.length = 0 → vt = .slice none 0 0
  b : Below w0.heap.size w0 w
structure Mid (w0 w : World) (va vt : Value) (L : List Qd) (q : Qd) (be : Nat) : Prop where
  a : OwnE w w0.heap.size va (L ++ [q])
  t : OwnE w w0.heap.size vt L.reverse
  ne : vt.ownBlock = none ∨ vt.ownBlock ≠ va.ownBlock
  z : L.length = 0 → vt = .slice none 0 0
  e : B4 w be q.1 q.2.1 q.2.2.1 q.2.2.2.1
  b : Below w0.heap.size w0 w
theorem Two.up {w0 w w' : World} {va vt : Value} {L : List Qd} (h : Two w0 w va vt L) (hb : Below w.heap.size w w') : Two w0 w' va vt L :=
  ⟨h.a.below hb (Nat.le_refl _), h.t.below hb (Nat.le_refl _), h.ne, h.z, h.b.trans (hb.mono h.b.size)⟩
theorem two_nil (w : World) : Two w w (.slice none 0 0) (.slice none 0 0) [] := ⟨World.ownsRow_nil w _ _ 4, World.ownsRow_nil w _ _ 4, Or.inl rfl, fun _ => rfl, Below.refl _ _⟩
theorem B4.grownBy {w w' : World} {b : Nat} {row : Option Nat} {a0 a1 a2 a3 : Int} (h : B4 w b a0 a1 a2 a3) (hg : w.grownBy w' row) (hne : row ≠ some b) : B4 w' b a0 a1 a2 a3 := by
  have hs := h.size
  obtain ⟨t, h⟩ := h.heap
  exact ⟨t, (hg.block b hs (fun e => hne e.symm)).trans h⟩
theorem lit_cells (w : World) (q : Qd) : ∀ j u, (flat [q])[j]? = some u → (w.alloc (.cells #[.int .u64 q.1, .int .u64 q.2.1, .int .u64 q.2.2.1, .int .u64 q.2.2.2.1] 30)).cell? ((⟨w.heap.size, 0, none⟩ : Addr).add j) = some u := by
  intro j u hj
  have hadd : (⟨w.heap.size, 0, none⟩ : Addr).add j = ⟨w.heap.size, j, none⟩ := by unfold Addr.add; split <;> simp_all
  rw [hadd, cell_of_row _ _ j _ _ (0, 0) (heap_alloc_new w _), ← hj]
  simp [flat, qc]

theorem app_all {ops : Array Oper} {rest : List Oper} {o : Oper} {a : Act} {Q : Exit → Act → World → Prop} {w0 w : World} (hgd : o.guard = none) (s x : Operand)
    (ho : o.op = .call { callee := .builtin .append, args := #[s, x], argTypes := #[50, 50] })
    (va vt : Value) (L : List Qd) (q : Qd) (be : Nat) (hs : a.eval s = va) (hx : a.eval x = .slice (some ⟨w.heap.size, 0, none⟩) 1 1) (hT : Two w0 w va vt L) (hl : L.length ≤ 1000)
    (hbe : B4 w be q.1 q.2.1 q.2.2.1 q.2.2.2.1) (hne : ∀ k, va.ownBlock = some k → k < be)
    (h : ∀ v' w', Mid w0 w' v' vt L q be → wpList Tryd.prog ops Q rest (a.put o.dst v') w') :
    wpList Tryd.prog ops Q (o :: rest) a (w.alloc (.cells #[.int .u64 q.1, .int .u64 q.2.1, .int .u64 q.2.2.1, .int .u64 q.2.2.2.1] 30)) := by
  refine wpList_plain hgd fun K hK => ?_
  have hsz : w0.heap.size ≤ w.heap.size := hT.b.size
  obtain ⟨v', w', hr, h2, h3, h4⟩ := run_append_els (w.alloc (.cells #[.int .u64 q.1, .int .u64 q.2.1, .int .u64 q.2.2.1, .int .u64 q.2.2.2.1] 30)) w0.heap.size o.type va L [q] (hT.a.alloc _) ⟨w.heap.size, 0, none⟩ 1 (by simp)
    (lit_cells w q) (by simp; omega) (by simp; omega)
  have hM : Mid w0 w' v' vt L q be := by
    refine ⟨h2, (hT.t.alloc _).kept h3 hT.ne, ?_, hT.z, (hbe.alloc _).grownBy h3 (fun e => absurd (hne be e) (Nat.lt_irrefl _)), ((hT.b.alloc hT.b.size _).grown h3 (by simp; omega) (fun k hk => (hT.a.lt k hk).1))⟩
    rcases hT.ne with h5 | h5
    · exact Or.inl h5
    · rcases h4 with h6 | ⟨k, h6, h7⟩
      · exact Or.inr (by rw [h6]; exact h5)
      · refine Or.inr fun e => ?_
        rw [h6] at e
        have := (hT.t.lt k e).2
        simp at h7
        omega
  unfold Oper.wp execOp
  simp only [List.length_cons, List.length_nil, Nat.zero_add] at hr
  simp only [ho, resolve, invoke, builtin, Sem.run_bind, Sem.run_pure, Result.andThen_ok, List.map_toArray, List.map_cons, List.map_nil, hs, hx, hr]
  exact hK _ _ (h v' w' hM)

theorem app_turned {ops : Array Oper} {rest : List Oper} {o : Oper} {a : Act} {Q : Exit → Act → World → Prop} {w0 w : World} (hgd : o.guard = none) (s x : Operand)
    (ho : o.op = .call { callee := .builtin .append, args := #[s, x], argTypes := #[50, 50] })
    (va vt : Value) (L : List Qd) (q : Qd) (be : Nat) (hs : a.eval s = .slice (some ⟨w.heap.size, 0, none⟩) 1 1) (hx : a.eval x = vt) (hT : Mid w0 w va vt L q be) (hl : L.length ≤ 1000)
    (h : ∀ v' w', Two w0 w' va v' (L ++ [q]) → B4 w' be q.1 q.2.1 q.2.2.1 q.2.2.2.1 → wpList Tryd.prog ops Q rest (a.put o.dst v') w') :
    wpList Tryd.prog ops Q (o :: rest) a (w.alloc (.cells #[.int .u64 q.1, .int .u64 q.2.1, .int .u64 q.2.2.1, .int .u64 q.2.2.2.1] 30)) := by
  refine wpList_plain hgd fun K hK => ?_
  have hsz : w0.heap.size ≤ w.heap.size := hT.b.size
  have hlit : OwnE (w.alloc (.cells #[.int .u64 q.1, .int .u64 q.2.1, .int .u64 q.2.2.1, .int .u64 q.2.2.2.1] 30)) w0.heap.size (.slice (some ⟨w.heap.size, 0, none⟩) 1 1) [q] :=
    World.ownsRow_lit w _ 1 hsz (by decide) rfl
  have hrev : (L ++ [q]).reverse = [q] ++ L.reverse := by simp
  have hbe := hT.e.alloc (.cells #[.int .u64 q.1, .int .u64 q.2.1, .int .u64 q.2.2.1, .int .u64 q.2.2.2.1] 30)
  have hva : ∀ k, va.ownBlock = some k → k < w.heap.size := fun k hk => (hT.a.lt k hk).2
  rcases hT.t.2 with ⟨hn, h0⟩ | ⟨g, cap, cur, hv, hbg, hg, hnc, hcm, hcs, htake⟩
  · obtain ⟨i0, hi, hz, hs1, hb⟩ := info_parts el_info
    have hr := run_append_owned_none (P := Tryd.prog) (w.alloc (.cells #[.int .u64 q.1, .int .u64 q.2.1, .int .u64 q.2.2.1, .int .u64 q.2.2.2.1] 30)) w0.heap.size 50 o.type 30 i0 4 Tryd.underlying50 hi _ 1 _ hlit
    have hL : L = [] := List.eq_nil_of_length_eq_zero (by simpa using h0)
    subst hL
    have hTw : Two w0 (w.alloc (.cells #[.int .u64 q.1, .int .u64 q.2.1, .int .u64 q.2.2.1, .int .u64 q.2.2.2.1] 30)) va (.slice (some ⟨w.heap.size, 0, none⟩) 1 1) ([] ++ [q]) :=
      ⟨hT.a.alloc _, hlit, Or.inr fun e => absurd (hva _ e.symm) (Nat.lt_irrefl _), fun h => by simp at h, hT.b.alloc hT.b.size _⟩
    unfold Oper.wp execOp
    simp only [ho, resolve, invoke, builtin, Sem.run_bind, Sem.run_pure, Result.andThen_ok, List.map_toArray, List.map_cons, List.map_nil, hs, hx, hn, hr]
    exact hK _ _ (h _ _ hTw hbe)
  · have hpos : 0 < L.reverse.length := by
      rcases Nat.eq_zero_or_pos L.reverse.length with h0 | h0
      · have := hT.z (by simpa using h0)
        rw [hv] at this
        simp at this
      · exact h0
    obtain ⟨v', w', hr, h2, h3, h4⟩ := run_append_els (w.alloc (.cells #[.int .u64 q.1, .int .u64 q.2.1, .int .u64 q.2.2.1, .int .u64 q.2.2.2.1] 30)) w0.heap.size o.type _ [q] L.reverse hlit ⟨g, 0, none⟩ cap hpos
      ((hT.t.alloc _).cells (by rw [hv]; rfl)) (by simp; omega) (by simp; omega)
    have hTw : Two w0 w' va v' (L ++ [q]) := by
      refine ⟨(hT.a.alloc _).kept h3 (Or.inr fun e => absurd (hva _ e) (Nat.lt_irrefl _)), ?_, Or.inr fun e => ?_, fun h => by simp at h, (hT.b.alloc hT.b.size _).grown h3 (by simp; omega) (fun k hk => (hlit.lt k hk).1)⟩
      · show OwnE _ _ _ _
        rw [hrev]
        exact h2
      · rcases h4 with h6 | ⟨k, h6, h7⟩
        · rw [h6] at e
          exact absurd (hva _ e.symm) (Nat.lt_irrefl _)
        · rw [h6] at e
          have := hva _ e.symm
          simp at h7
          omega
    unfold Oper.wp execOp
    simp only [ho, resolve, invoke, builtin, Sem.run_bind, Sem.run_pure, Result.andThen_ok, List.map_toArray, List.map_cons, List.map_nil, hs, hx, hv, hr]
    exact hK _ _ (h v' w' hTw (hbe.grownBy h3 (fun e => by
      have := hT.e.size
      simp only [Value.ownBlock, Option.some.injEq] at e
      omega)))
end Go.Proofs.YtlpccdbcaffmmaaDoor
