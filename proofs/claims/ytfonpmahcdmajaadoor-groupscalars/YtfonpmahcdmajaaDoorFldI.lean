import Derived.Test.YtfonpmahcdmajaaDoorFldE
import Derived.Test.YtfonpmahcdmajaaDoorAgg
import Derived.Test.YtfonpmahcdmajaaDoorBytesA
import Derived.Laws.CopyOwn
import Derived.Deep.RegionLaw
import Derived.Deep.MidRow
import Derived.Test.YtfonpmahcdmajaaDoorLOpsC
/-
  field.FromUint64, FromWide: what each call does.
-/
namespace Go.Proofs.YtfonpmahcdmajaaDoor
open Go.RowKit
set_option linter.unusedVariables false

theorem rdw_one (w : World) (v : Nat) (hv : v < 18446744073709551616) : Rd (w.alloc (.cells #[.int .u64 (v : Int)] 22)) (w.heap.size + 1) (some ⟨w.heap.size, 0, none⟩) 1 [v] := by
  refine ⟨rfl, fun x hx => by simp at hx; omega, fun _ => ⟨w.heap.size, 0, rfl, by omega, fun i hi => ?_⟩⟩
  have : i = 0 := by omega
  subst this
  rw [cell_of_row _ w.heap.size 0 #[.int .u64 (v : Int)] 22 (0, 0) (heap_alloc_new w _)]
  rfl

theorem rt_prime : Rt (l4 4891460686036598785 2896914383306846353 13281191951274694749 3486998266802970665) := rtB_of (by decide)
theorem val_prime : val 18446744073709551616 (l4 4891460686036598785 2896914383306846353 13281191951274694749 3486998266802970665) = pN := by decide

set_option maxRecDepth 20000 in
set_option maxHeartbeats 2000000 in
theorem fromWide_c (A : Option Addr) (n c : Nat) (b : List Nat) (w : World) (ha : Rd8 w w.heap.size A n b) (hn : n ≤ 1000) (hG : Glob w) :
    Calls Tryd.prog 43 #[.slice A n c] w fun e w' => ∃ r, e = .returned r ∧ El r (val 256 b % pN) ∧ Below w.heap.size w w' := by
  have hl0 : Below w.heap.size w ((w.alloc (o4 66 0 0 0 0)).alloc (o4 64 4891460686036598785 2896914383306846353 13281191951274694749 3486998266802970665)) := ((Below.refl w.heap.size w).alloc (Nat.le_refl _) _).alloc (by simp) _
  have hz0 := (o4_new w 66 0 0 0 0).alloc (o4 64 4891460686036598785 2896914383306846353 13281191951274694749 3486998266802970665)
  have hp0 := o4_new (w.alloc (o4 66 0 0 0 0)) 64 4891460686036598785 2896914383306846353 13281191951274694749 3486998266802970665
  rw [show (w.alloc (o4 66 0 0 0 0)).heap.size = w.heap.size + 1 by simp] at hp0
  have hr0 := hp0.rd prime4 hp0.size
  have HG := hid hG
  have HZ := hid hz0
  have HL := hid hl0
  have HR := hid hr0
  have g0 := hG.p0
  have g1 := hG.p1
  have g2 := hG.p2
  have g3 := hG.p3
  have szP := hG.sizeP
  clear hz0 hl0 hp0 hr0 hG
  unfold o4 at *
  go_enter Tryd.func43, Tryd.ntmps43
  go_wp2_with fail
  refine (new_some _ 4 4 _ _ HR.out rt_prime).mono ?_
  rintro e w1 ⟨p, rfl, hp, hM, hb1⟩
  have hz1 := HZ.out.below hb1 HZ.out.size
  have hl1 := HL.out.trans (hb1.mono HL.out.size)
  have ra1 := ha.up hl1 (Nat.le_refl _)
  clear g0 g1 g2 g3 HR HL HZ hb1 hp
  go_wp2_with fail
  refine (limbWords_c A n c b w1 ra1 hn).mono ?_
  rintro e w2 ⟨Ar, cr, lr, rfl, hcr, hr2, hv2, hb2⟩
  have hM2 := hM.keep hb2 hM.lt
  have hl2 := hl1.trans (hb2.mono hl1.size)
  have hz2 := hz1.below hb2 hz1.size
  have HV2 := hid hv2
  have HN : Hid ((n + 7) / 8 ≤ 5000) := hid (by omega)
  clear hv2 hM ra1 hb2 hz1
  generalize (n + 7) / 8 = m at *
  go_wp2_with fail
  refine (reduce_c Ar m cr p lr _ w2 hr2 hM2 HN.out).mono ?_
  rintro e w3 ⟨Ar3, cr3, lr3, rfl, hcr3, hr3, hv3, hb3⟩
  have hl3 := hl2.trans (hb3.mono hl2.size)
  have hz3 := hz2.below hb3 hz2.size
  have hG3 := HG.out.up hl3
  rw [HV2.out, val_prime] at hv3
  have HV3 := hid hv3
  have hp3 : Hid (val 18446744073709551616 lr3 < pN) := hid (by rw [hv3]; exact Nat.mod_lt _ pN_pos)
  clear hv3 hM2 hr2 hb3 hz2 hcr hcr3
  change Rd w3 _ Ar3 4 lr3 at hr3
  go_wp2_with fail
  refine (ofRest_c Ar3 4 cr3 lr3 w3 hr3 (Nat.le_refl _) hp3 hG3).mono ?_
  rintro e w4 ⟨r, rfl, hr, hb4⟩
  rw [HV3.out] at hr
  have hz4 := hz3.below hb4 hz3.size
  have hl4 := hl3.trans (hb4.mono hl3.size)
  have R := hid hr
  obtain ⟨r0, r1, r2, r3, rfl, -, -, -⟩ := hr
  have z0 := hz4.c0
  have z1 := hz4.c1
  have z2 := hz4.c2
  have z3 := hz4.c3
  have fz := hz4.frozen
  clear hb4 hz4 hz3 hG3 hr3 hl1 hl2 hl3
  unfold Go.Proofs.YtfonpmahcdmajaaDoor.w4
  go_wp2
  refine bodyPost_ret (by simp [results, Tryd.results43, go_sem, z0, z1, z2, z3]; rfl) rfl ?_
  exact ⟨_, rfl, R.out, by go_grown⟩
end Go.Proofs.YtfonpmahcdmajaaDoor
/-
  field.bytesOf, Prime, (Element).Bytes: arrays of 32 bytes.
-/
namespace Go.Proofs.YtfonpmahcdmajaaDoor
open Go.RowKit
set_option linter.unusedVariables false

/-- 32 bytes as a value: the bytes of the number X. -/
structure By (v : Value) (X : Nat) : Prop where
  ex : ∃ l : List Nat, v = .agg (cells8 l).toArray ∧ l.length = 32 ∧ allLt8 l ∧ val 256 l = X

/-- A new block of 32 bytes. -/
def o32 (t : TypeId) : Obj := .cells (cells8 (List.replicate 32 0)).toArray t
theorem o32_new (w : World) (t : TypeId) : BlkB (w.alloc (o32 t)) w.heap.size t (List.replicate 32 0) := BlkB.new w t _ (zeros_lt8 _)
theorem size32 : (Tryd.prog.info? 94).map (·.size) = some 32 := by kernel_rfl

set_option maxRecDepth 20000 in
set_option maxHeartbeats 2000000 in
theorem bytesOf_c (a0 a1 a2 a3 : Int) (w : World) (ha : W4 a0 a1 a2 a3) (X : Nat) (hX : Hid (n4 a0 a1 a2 a3 = (X : Int))) :
    Calls Tryd.prog 98 #[w4 a0 a1 a2 a3] w fun e w' => ∃ r, e = .returned r ∧ By r X ∧ Below w.heap.size w w' := by
  unfold w4
  go_enter Tryd.func98, Tryd.ntmps98
  go_wp2
  change Code.wp _ _ _ _ (((w.alloc (o4 64 a0 a1 a2 a3)).alloc (o32 94)).alloc (o32 94))
  have hA0 := ((o4_new w 64 a0 a1 a2 a3).alloc (o32 94)).alloc (o32 94)
  have hZ0 := (o32_new (w.alloc (o4 64 a0 a1 a2 a3)) 94).alloc (o32 94)
  have hO0 := o32_new ((w.alloc (o4 64 a0 a1 a2 a3)).alloc (o32 94)) 94
  have hl0 := ((((Below.refl w.heap.size w).alloc (Nat.le_refl _) (o4 64 a0 a1 a2 a3))).alloc (by simp) (o32 94)).alloc (by simp; omega) (o32 94)
  rw [show (w.alloc (o4 64 a0 a1 a2 a3)).heap.size = w.heap.size + 1 by simp] at hZ0
  rw [show ((w.alloc (o4 64 a0 a1 a2 a3)).alloc (o32 94)).heap.size = w.heap.size + 1 + 1 by simp] at hO0
  generalize ((w.alloc (o4 64 a0 a1 a2 a3)).alloc (o32 94)).alloc (o32 94) = w0 at *
  have hr0 := (hA0.drew).rd ha hA0.size
  have HO := hid hO0
  have HZ := hid hZ0
  have HL := hid hl0
  clear hA0 hZ0 hO0 hl0
  go_region_law (first
    | (refine step_copy_splice rfl (.tmp 4) (.tmp 6) 33 33 rfl 5 Tryd.underlying33 (by kernel_rfl) (some ⟨w.heap.size + 1 + 1, 0, none⟩) Ar 32 32 32 cr (by simp [Act.eval]) (by simp [Act.eval])
        (w.heap.size + 1 + 1) 0 (cells8 (List.replicate 32 0)) 94 (HO.out.drew.below hb1 HO.out.size).heap (cells8 lr) (by simp [cells8, hr1.len]) (fun _ => ⟨rfl, src8 hr1 (by decide)⟩) (by simp [cells8, hr1.len]) (one8 lr) (w.heap.size + 1 + 1) w1 (Below.refl _ _) (Nat.le_refl _) ?_
       intro w2 hg2 hb2)
    | (go_simp
       go_at_call 83
       refine (limbBytes_c _ 4 4 (l4 a0 a1 a2 a3) _ hr0 (by decide)).mono ?_
       rintro e w1 ⟨Ar, cr, lr, rfl, hcr, hr1, hv1, hb1⟩))
  have hO2 : BlkB w2 (w.heap.size + 1 + 1) 94 lr := by
    refine ⟨?_, hr1.lt⟩
    have e : splice (cells8 (List.replicate 32 0)) 0 (cells8 lr) = cells8 lr := by
      have h1 : (cells8 lr).length = 32 := by simp [cells8, hr1.len]
      have h2 : (cells8 (List.replicate 32 0)).length = 32 := by simp [cells8]
      unfold splice
      rw [List.take_zero, List.nil_append, Nat.zero_add, List.drop_eq_nil_of_le (by omega), List.append_nil]
    rw [← e]; exact hg2.out
  have hZ2 : BlkB w2 (w.heap.size + 1) 94 (List.replicate 32 0) := (HZ.out.drew.below hb1 HZ.out.size).below hb2 (by omega)
  have hl2 : Below w.heap.size w w2 := (HL.out.drew.trans (hb1.mono HL.out.size)).trans (hb2.mono (by omega))
  have hlen : (cells8 lr).length = 32 := by simp [cells8, hr1.len]
  have HL32 : Hid (lr.length = 32) := hid hr1.len
  have hval : By (.agg (cells8 lr).toArray) X := by
    refine ⟨lr, rfl, hr1.len, hr1.lt, ?_⟩
    rw [hv1]
    have h := l4_val ha
    rw [hX.out] at h
    exact_mod_cast h
  have HV := hid hval
  have HE := hid hlen
  have hth := hZ2.there
  have hran := World.rangeAt_setCells_same w2 (w.heap.size + 1) 0 (cells8 lr) (by rw [hlen]; exact hth)
  have HR := hid hran
  have hst := store8 (w.heap.size + 1) lr w2 (by rw [HL32.out]; exact hth)
  have HO2 := hid hO2.range
  clear hval hth hran hO2 hZ2 hg2 hb2 hb1 hr1 hv1 hr0 HO HZ HL
  go_wp2_with (with_reducible refine wpList_load_mid rfl 94 (.tmp 3) rfl (w.heap.size + 1 + 1) 0 rfl (cells8 lr) _ HO2.out Tryd.underlying94 rfl (size32.trans (congrArg some HE.out.symm)) ?_)
  refine bodyPost_ret (results_cell1 Tryd.results98 ⟨w.heap.size + 1, 0, none⟩ _ rfl (run_loadVar_mid _ (w.heap.size + 1) 0 94 (cells8 lr) _ HR.out Tryd.underlying94 rfl (size32.trans (congrArg some HE.out.symm)))) rfl ?_
  exact ⟨_, rfl, HV.out, below_cells (by omega) _ _ _ hl2⟩
end Go.Proofs.YtfonpmahcdmajaaDoor
/-
  field.Prime, (Element).Bytes: what each call does.
-/
namespace Go.Proofs.YtfonpmahcdmajaaDoor
open Go.RowKit
set_option linter.unusedVariables false

theorem one4 : W4 1 0 0 0 := ⟨⟨by decide, by decide⟩, ⟨by decide, by decide⟩, ⟨by decide, by decide⟩, ⟨by decide, by decide⟩⟩
theorem el_back {r0 r1 r2 r3 : Int} {x : Nat} {A : Int} (hx : x < pN) (hW : W4 r0 r1 r2 r3) (h1 : n4 r0 r1 r2 r3 < prm) (hA : A = ((mo x : Nat) : Int))
    (h : ∃ T : Int, n4 r0 r1 r2 r3 * 115792089237316195423570985008687907853269984665640564039457584007913129639936 = A * n4 1 0 0 0 + prm * T) : n4 r0 r1 r2 r3 = (x : Int) := by
  obtain ⟨n, e, hn⟩ := nat_of (n4_nonneg hW) h1
  obtain ⟨T, h⟩ := h
  rw [e, hA, show n4 1 0 0 0 = ((1 : Nat) : Int) by decide] at h
  rw [e]
  exact_mod_cast mo_back hn hx (int_mod h)

set_option maxRecDepth 20000 in
set_option maxHeartbeats 2000000 in
theorem ebytes_c (u : Value) (x : Nat) (w : World) (hu : El u x) (hG : Glob w) :
    Calls Tryd.prog 77 #[u] w fun e w' => ∃ r, e = .returned r ∧ By r x ∧ Below w.heap.size w w' := by
  obtain ⟨a0, a1, a2, a3, rfl, ha, hx, ea⟩ := hu
  have EA := hid ea
  have pa : Hid (n4 a0 a1 a2 a3 < prm) := hid (by rw [ea]; exact mo_prm x)
  have HX := hid hx
  have hZ0 := o32_new (w.alloc (o4 66 a0 a1 a2 a3)) 94
  have hl0 := ((Below.refl w.heap.size w).alloc (Nat.le_refl _) (o4 66 a0 a1 a2 a3)).alloc (by simp) (o32 94)
  rw [show (w.alloc (o4 66 a0 a1 a2 a3)).heap.size = w.heap.size + 1 by simp] at hZ0
  have hG0 := hG.up hl0
  have HZ := hid hZ0
  have HL := hid hl0
  clear ea hx hZ0 hl0
  unfold w4
  go_enter Tryd.func77, Tryd.ntmps77
  go_wp2_with fail
  refine (product_c a0 a1 a2 a3 1 0 0 0 _ ha one4 hG0 pa).mono ?_
  rintro e w1 ⟨r0, r1, r2, r3, rfl, hr, hlt, hT, hb1⟩
  have HB := hid (el_back HX.out hr hlt EA.out hT)
  have hl1 := HL.out.trans (Below.mono (B' := w.heap.size) hb1 HL.out.size)
  have hZ1 : BlkB w1 (w.heap.size + 1) 94 (List.replicate 32 0) := HZ.out.below hb1 HZ.out.size
  clear hlt hT hb1 hG0 ha HZ HL
  unfold w4
  go_wp2_with fail
  refine (bytesOf_c r0 r1 r2 r3 w1 hr x HB).mono ?_
  rintro e w2 ⟨r, rfl, hr2, hb2⟩
  have hl2 := hl1.trans (hb2.mono hl1.size)
  have hZ2 : BlkB w2 (w.heap.size + 1) 94 (List.replicate 32 0) := hZ1.below hb2 hZ1.size
  have HR := hid hr2
  obtain ⟨lr, rfl, hl, _, _⟩ := hr2
  have hlen : (cells8 lr).length = 32 := by simp [cells8, hl]
  have hth := hZ2.there
  have hran := hid (World.rangeAt_setCells_same w2 (w.heap.size + 1) 0 (cells8 lr) (by rw [hlen]; exact hth))
  have hst := store8 (w.heap.size + 1) lr w2 (by rw [hl]; exact hth)
  have HE := hid hlen
  clear hb2 hZ1 hZ2 hth hl hr hl1
  go_wp2
  refine bodyPost_ret (results_cell1 Tryd.results77 ⟨w.heap.size + 1, 0, none⟩ _ rfl (run_loadVar_mid _ (w.heap.size + 1) 0 94 (cells8 lr) _ hran.out Tryd.underlying94 rfl (size32.trans (congrArg some HE.out.symm)))) rfl ?_
  exact ⟨_, rfl, HR.out, below_cells (by omega) _ _ _ hl2⟩
end Go.Proofs.YtfonpmahcdmajaaDoor
/-
  (Element).Exp, Inverse, field.Sum: what each call does.
-/
namespace Go.Proofs.YtfonpmahcdmajaaDoor
open Go.RowKit
set_option linter.unusedVariables false

/-- All four words of a block, stored anew. -/
theorem B4.all {w : World} {b : Nat} {a0 a1 a2 a3 : Int} (h : B4 w b a0 a1 a2 a3) (x0 x1 x2 x3 : Int) : B4 ((((w.setCell ⟨b, 0, none⟩ (.int .u64 x0)).setCell ⟨b, 1, none⟩ (.int .u64 x1)).setCell ⟨b, 2, none⟩ (.int .u64 x2)).setCell ⟨b, 3, none⟩ (.int .u64 x3)) b x0 x1 x2 x3 :=
  (((h.s0 x0).s1 x1).s2 x2).s3 x3
theorem B4.others {w : World} {b c : Nat} {a0 a1 a2 a3 x0 x1 x2 x3 : Int} (h : B4 w b a0 a1 a2 a3) (hne : b ≠ c) : B4 ((((w.setCell ⟨c, 0, none⟩ (.int .u64 x0)).setCell ⟨c, 1, none⟩ (.int .u64 x1)).setCell ⟨c, 2, none⟩ (.int .u64 x2)).setCell ⟨c, 3, none⟩ (.int .u64 x3)) b a0 a1 a2 a3 :=
  (((h.other hne).other hne).other hne).other hne
theorem below_all {B c : Nat} {a w : World} (h : Below B a w) (hB : B ≤ c) (x0 x1 x2 x3 : Int) : Below B a ((((w.setCell ⟨c, 0, none⟩ (.int .u64 x0)).setCell ⟨c, 1, none⟩ (.int .u64 x1)).setCell ⟨c, 2, none⟩ (.int .u64 x2)).setCell ⟨c, 3, none⟩ (.int .u64 x3)) :=
  (((h.setCell (p := ⟨c, 0, none⟩) hB _).setCell (p := ⟨c, 1, none⟩) hB _).setCell (p := ⟨c, 2, none⟩) hB _).setCell (p := ⟨c, 3, none⟩) hB _
theorem size_all (w : World) (c : Nat) (x0 x1 x2 x3 : Int) : ((((w.setCell ⟨c, 0, none⟩ (.int .u64 x0)).setCell ⟨c, 1, none⟩ (.int .u64 x1)).setCell ⟨c, 2, none⟩ (.int .u64 x2)).setCell ⟨c, 3, none⟩ (.int .u64 x3)).heap.size = w.heap.size := by simp [World.setCell]

/-- The relation of Exp's loop. -/
def ERel (w : World) (bo : Nat) (a0 a1 a2 a3 : Int) (x E : Nat) (wr : World) (k : Nat) : Prop :=
  ∃ o0 o1 o2 o3 : Int, B4 wr w.heap.size a0 a1 a2 a3 ∧ B4 wr (w.heap.size + 1) 0 0 0 0 ∧ B4 wr bo o0 o1 o2 o3 ∧ Below w.heap.size w wr ∧ El (w4 o0 o1 o2 o3) (x ^ (E / 2 ^ k) % pN)

theorem val_two : val 18446744073709551616 [2] = 2 := by decide
end Go.Proofs.YtfonpmahcdmajaaDoor
