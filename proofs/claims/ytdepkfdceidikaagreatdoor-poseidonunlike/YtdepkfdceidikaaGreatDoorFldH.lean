import Derived.Test.YtdepkfdceidikaaGreatDoorFldF
import Derived.Test.YtdepkfdceidikaaGreatDoorAgg
import Derived.Test.YtdepkfdceidikaaGreatDoorBytesB
import Derived.Laws.CopyOwn
import Derived.Deep.RegionLaw
import Derived.Deep.MidRow
/-
  field.bytesOf, Prime, (Element).Bytes: arrays of 32 bytes.
-/
namespace Go.Proofs.YtdepkfdceidikaaGreatDoor
open Go.RowKit
set_option linter.unusedVariables false

/-- 32 bytes as a value: the bytes of the number X. -/
structure By (v : Value) (X : Nat) : Prop where
  ex : ∃ l : List Nat, v = .agg (cells8 l).toArray ∧ l.length = 32 ∧ allLt8 l ∧ val 256 l = X

/-- A new block of 32 bytes. -/
def o32 (t : TypeId) : Obj := .cells (cells8 (List.replicate 32 0)).toArray t
theorem o32_new (w : World) (t : TypeId) : BlkB (w.alloc (o32 t)) w.heap.size t (List.replicate 32 0) := BlkB.new w t _ (zeros_lt8 _)
theorem size32 : (Tryz.prog.info? 90).map (·.size) = some 32 := by kernel_rfl

set_option maxRecDepth 20000 in
set_option maxHeartbeats 2000000 in
theorem bytesOf_c (a0 a1 a2 a3 : Int) (w : World) (ha : W4 a0 a1 a2 a3) (X : Nat) (hX : Hid (n4 a0 a1 a2 a3 = (X : Int))) :
    Calls Tryz.prog 70 #[w4 a0 a1 a2 a3] w fun e w' => ∃ r, e = .returned r ∧ By r X ∧ Below w.heap.size w w' := by
  unfold w4
  go_enter Tryz.func70, Tryz.ntmps70
  go_wp2
  change Code.wp _ _ _ _ (((w.alloc (o4 35 a0 a1 a2 a3)).alloc (o32 90)).alloc (o32 90))
  have hA0 := ((o4_new w 35 a0 a1 a2 a3).alloc (o32 90)).alloc (o32 90)
  have hZ0 := (o32_new (w.alloc (o4 35 a0 a1 a2 a3)) 90).alloc (o32 90)
  have hO0 := o32_new ((w.alloc (o4 35 a0 a1 a2 a3)).alloc (o32 90)) 90
  have hl0 := ((((Below.refl w.heap.size w).alloc (Nat.le_refl _) (o4 35 a0 a1 a2 a3))).alloc (by simp) (o32 90)).alloc (by simp; omega) (o32 90)
  rw [show (w.alloc (o4 35 a0 a1 a2 a3)).heap.size = w.heap.size + 1 by simp] at hZ0
  rw [show ((w.alloc (o4 35 a0 a1 a2 a3)).alloc (o32 90)).heap.size = w.heap.size + 1 + 1 by simp] at hO0
  generalize ((w.alloc (o4 35 a0 a1 a2 a3)).alloc (o32 90)).alloc (o32 90) = w0 at *
  have hr0 := (hA0.drew).rd ha hA0.size
  have HO := hid hO0
  have HZ := hid hZ0
  have HL := hid hl0
  clear hA0 hZ0 hO0 hl0
  go_region_law (first
    | (refine step_copy_splice rfl (.tmp 4) (.tmp 6) 22 22 rfl 5 Tryz.underlying22 (by kernel_rfl) (some ⟨w.heap.size + 1 + 1, 0, none⟩) Ar 32 32 32 cr (by simp [Act.eval]) (by simp [Act.eval])
        (w.heap.size + 1 + 1) 0 (cells8 (List.replicate 32 0)) 90 (HO.out.drew.below hb1 HO.out.size).heap (cells8 lr) (by simp [cells8, hr1.len]) (fun _ => ⟨rfl, src8 hr1 (by decide)⟩) (by simp [cells8, hr1.len]) (one8 lr) (w.heap.size + 1 + 1) w1 (Below.refl _ _) (Nat.le_refl _) ?_
       intro w2 hg2 hb2)
    | (go_simp
       go_at_call 101
       refine (limbBytes_c _ 4 4 (l4 a0 a1 a2 a3) _ hr0 (by decide)).mono ?_
       rintro e w1 ⟨Ar, cr, lr, rfl, hcr, hr1, hv1, hb1⟩))
  have hO2 : BlkB w2 (w.heap.size + 1 + 1) 90 lr := by
    refine ⟨?_, hr1.lt⟩
    have e : splice (cells8 (List.replicate 32 0)) 0 (cells8 lr) = cells8 lr := by
      have h1 : (cells8 lr).length = 32 := by simp [cells8, hr1.len]
      have h2 : (cells8 (List.replicate 32 0)).length = 32 := by simp [cells8]
      unfold splice
      rw [List.take_zero, List.nil_append, Nat.zero_add, List.drop_eq_nil_of_le (by omega), List.append_nil]
    rw [← e]; exact hg2.out
  have hZ2 : BlkB w2 (w.heap.size + 1) 90 (List.replicate 32 0) := (HZ.out.drew.below hb1 HZ.out.size).below hb2 (by omega)
  have hl2 : Below w.heap.size w w2 := (HL.out.drew.trans (hb1.mono HL.out.size)).trans (hb2.mono (by omega))
  have hlen : (cells8 lr).length = 32 := by simp [cells8, hr1.len]
  have HL32 : Hid (lr.length = 32) := hid hr1.len
  have hval : By (.agg (cells8 lr).toArray) X := by
    refine ⟨lr, rfl, hr1.len, hr1.lt, ?_⟩
    rw [hv1]
    have h := l4_val ha
    rw [hX.out] at h
    exact_mod_cast h
  have HV := hid hval
  have HE := hid hlen
  have hth := hZ2.there
  have hran := World.rangeAt_setCells_same w2 (w.heap.size + 1) 0 (cells8 lr) (by rw [hlen]; exact hth)
  have HR := hid hran
  have hst := store8 (w.heap.size + 1) lr w2 (by rw [HL32.out]; exact hth)
  have HO2 := hid hO2.range
  clear hval hth hran hO2 hZ2 hg2 hb2 hb1 hr1 hv1 hr0 HO HZ HL
  go_wp2_with (with_reducible refine wpList_load_mid rfl 90 (.tmp 3) rfl (w.heap.size + 1 + 1) 0 rfl (cells8 lr) _ HO2.out Tryz.underlying90 rfl (size32.trans (congrArg some HE.out.symm)) ?_)
  refine bodyPost_ret (results_cell1 Tryz.results70 ⟨w.heap.size + 1, 0, none⟩ _ rfl (run_loadVar_mid _ (w.heap.size + 1) 0 90 (cells8 lr) _ HR.out Tryz.underlying90 rfl (size32.trans (congrArg some HE.out.symm)))) rfl ?_
  exact ⟨_, rfl, HV.out, below_cells (by omega) _ _ _ hl2⟩
end Go.Proofs.YtdepkfdceidikaaGreatDoor
/-
  field.Prime, (Element).Bytes: what each call does.
-/
namespace Go.Proofs.YtdepkfdceidikaaGreatDoor
open Go.RowKit
set_option linter.unusedVariables false

theorem one4 : W4 1 0 0 0 := ⟨⟨by decide, by decide⟩, ⟨by decide, by decide⟩, ⟨by decide, by decide⟩, ⟨by decide, by decide⟩⟩
theorem el_back {r0 r1 r2 r3 : Int} {x : Nat} {A : Int} (hx : x < pN) (hW : W4 r0 r1 r2 r3) (h1 : n4 r0 r1 r2 r3 < prm) (hA : A = ((mo x : Nat) : Int))
    (h : ∃ T : Int, n4 r0 r1 r2 r3 * 115792089237316195423570985008687907853269984665640564039457584007913129639936 = A * n4 1 0 0 0 + prm * T) : n4 r0 r1 r2 r3 = (x : Int) := by
  obtain ⟨n, e, hn⟩ := nat_of (n4_nonneg hW) h1
  obtain ⟨T, h⟩ := h
  rw [e, hA, show n4 1 0 0 0 = ((1 : Nat) : Int) by decide] at h
  rw [e]
  exact_mod_cast mo_back hn hx (int_mod h)

set_option maxRecDepth 20000 in
set_option maxHeartbeats 2000000 in
theorem ebytes_c (u : Value) (x : Nat) (w : World) (hu : El u x) (hG : Glob w) :
    Calls Tryz.prog 41 #[u] w fun e w' => ∃ r, e = .returned r ∧ By r x ∧ Below w.heap.size w w' := by
  obtain ⟨a0, a1, a2, a3, rfl, ha, hx, ea⟩ := hu
  have EA := hid ea
  have pa : Hid (n4 a0 a1 a2 a3 < prm) := hid (by rw [ea]; exact mo_prm x)
  have HX := hid hx
  have hZ0 := o32_new (w.alloc (o4 37 a0 a1 a2 a3)) 90
  have hl0 := ((Below.refl w.heap.size w).alloc (Nat.le_refl _) (o4 37 a0 a1 a2 a3)).alloc (by simp) (o32 90)
  rw [show (w.alloc (o4 37 a0 a1 a2 a3)).heap.size = w.heap.size + 1 by simp] at hZ0
  have hG0 := hG.up hl0
  have HZ := hid hZ0
  have HL := hid hl0
  clear ea hx hZ0 hl0
  unfold w4
  go_enter Tryz.func41, Tryz.ntmps41
  go_wp2_with fail
  refine (product_c a0 a1 a2 a3 1 0 0 0 _ ha one4 hG0 pa).mono ?_
  rintro e w1 ⟨r0, r1, r2, r3, rfl, hr, hlt, hT, hb1⟩
  have HB := hid (el_back HX.out hr hlt EA.out hT)
  have hl1 := HL.out.trans (Below.mono (B' := w.heap.size) hb1 HL.out.size)
  have hZ1 : BlkB w1 (w.heap.size + 1) 90 (List.replicate 32 0) := HZ.out.below hb1 HZ.out.size
  clear hlt hT hb1 hG0 ha HZ HL
  unfold w4
  go_wp2_with fail
  refine (bytesOf_c r0 r1 r2 r3 w1 hr x HB).mono ?_
  rintro e w2 ⟨r, rfl, hr2, hb2⟩
  have hl2 := hl1.trans (hb2.mono hl1.size)
  have hZ2 : BlkB w2 (w.heap.size + 1) 90 (List.replicate 32 0) := hZ1.below hb2 hZ1.size
  have HR := hid hr2
  obtain ⟨lr, rfl, hl, _, _⟩ := hr2
  have hlen : (cells8 lr).length = 32 := by simp [cells8, hl]
  have hth := hZ2.there
  have hran := hid (World.rangeAt_setCells_same w2 (w.heap.size + 1) 0 (cells8 lr) (by rw [hlen]; exact hth))
  have hst := store8 (w.heap.size + 1) lr w2 (by rw [hl]; exact hth)
  have HE := hid hlen
  clear hb2 hZ1 hZ2 hth hl hr hl1
  go_wp2
  refine bodyPost_ret (results_cell1 Tryz.results41 ⟨w.heap.size + 1, 0, none⟩ _ rfl (run_loadVar_mid _ (w.heap.size + 1) 0 90 (cells8 lr) _ hran.out Tryz.underlying90 rfl (size32.trans (congrArg some HE.out.symm)))) rfl ?_
  exact ⟨_, rfl, HR.out, below_cells (by omega) _ _ _ hl2⟩
end Go.Proofs.YtdepkfdceidikaaGreatDoor
