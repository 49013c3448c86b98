import Derived.Test.YtjohbepdmnigcaaDoorCalE
import Derived.Test.YtjohbepdmnigcaaDoorFrameG
import Derived.Test.YtjohbepdmnigcaaDoorRefD
import Derived.Test.YtjohbepdmnigcaaDoorBytesA
import Derived.Laws.CopyOwn
import Derived.Deep.RegionLaw
import Derived.Deep.MidRow
/-
  What the cards' condition gives calc's walks: the three tables hold what the text lays in them; the door's own heap meets it.
-/
namespace Go.Proofs.YtjohbepdmnigcaaDoor
open Go.RowKit
set_option linter.unusedVariables false

def laid3 : List (String × DataW Unit) := [("avouch/field.prime", Rows.laid_avouch_field_prime), ("avouch/field.raise", Rows.laid_avouch_field_raise), ("avouch/calc.needs", Rows.laid_avouch_calc_needs)]
theorem gNeeds : Tryd.prog.globalNamed "avouch/calc.needs" = some 0 := by kernel_rfl
theorem tNeeds : (Tryd.prog.globals[0]?).map (·.type) = some 69 := by kernel_rfl
theorem cellsI : Tryd.prog.cellsOf 3 = 1 := by kernel_rfl
theorem cells11I : Tryd.prog.cellsOf 69 = 11 := by kernel_rfl

theorem door_met3 (os : Os) (args : Array Value) : laidMetH Tryd.prog laid3 ((World.doorLaid Tryd.prog 400 os).forCall (fun _ _ => 0) ⟨#[], args, []⟩).memory :=
  laidMetH_of_parts3 (fuel := 8) (laidMet_of_run' 8 (by kernel_rfl) (by kernel_rfl)) (by kernel_rfl) (by kernel_rfl)

theorem gc_of_laid {W : World} (h : laidMetH Tryd.prog laid3 W) : Gc W.heap.size W := by
  rw [MakeChecks.laidMetH_plain _ _ _ (by kernel_rfl)] at h
  obtain ⟨ps, ⟨g0, t0, cs0, f0, p0, q0, hg0, ht0, hv0, hd0, ⟨g1, t1, cs1, f1, p1, q1, hg1, ht1, hv1, hd1, ⟨g2, t2, cs2, f2, p2, q2, hg2, ht2, hv2, hd2, _, _⟩, _⟩, _⟩, _, _⟩ := h
  obtain rfl := Option.some.inj (gPrime.symm.trans hg0)
  obtain rfl := Option.some.inj (gRaise.symm.trans hg1)
  obtain rfl := Option.some.inj (gNeeds.symm.trans hg2)
  obtain rfl := Option.some.inj (tPrime.symm.trans ht0)
  obtain rfl := Option.some.inj (tRaise.symm.trans ht1)
  obtain rfl := Option.some.inj (tNeeds.symm.trans ht2)
  have e0 := Lib.cells_of_tab (zs := [4891460686036598785, 2896914383306846353, 13281191951274694749, 3486998266802970665]) Tryd.underlying38 Tryd.underlying37 cellsW cells4W hd0
  have e1 := Lib.cells_of_tab (zs := [1997599621687373223, 6052339484930628067, 10108755138030829701, 150537098327114917]) Tryd.underlying38 Tryd.underlying37 cellsW cells4W hd1
  have e2 := Lib.cells_of_tab (zs := [0, 2, 2, 2, 1, 1, 1, 1, 2, 1, 2]) Tryd.underlying69 Tryd.underlying3 cellsI cells11I hd2
  obtain ⟨l0⟩ := cs0
  obtain ⟨l1⟩ := cs1
  obtain ⟨l2⟩ := cs2
  simp only at e0 e1 e2
  subst e0 e1 e2
  have a0 := World.var?_cell hg0 hv0 0
  have a1 := World.var?_cell hg0 hv0 1
  have a2 := World.var?_cell hg0 hv0 2
  have a3 := World.var?_cell hg0 hv0 3
  have b0 := World.var?_cell hg1 hv1 0
  have b1 := World.var?_cell hg1 hv1 1
  have b2 := World.var?_cell hg1 hv1 2
  have b3 := World.var?_cell hg1 hv1 3
  have c := World.var?_cell hg2 hv2
  have c0 := c 0
  simp at a0 a1 a2 a3 b0 b1 b2 b3 c0
  refine ⟨⟨World.block_lt_of_cell? W _ a0, World.block_lt_of_cell? W _ b0, a0, a1, a2, a3, b0, b1, b2, b3⟩, World.block_lt_of_cell? W _ a0, World.block_lt_of_cell? W _ b0, World.block_lt_of_cell? W _ c0, fun k hk => ?_⟩
  rw [c k]
  match k, hk with
  | 0, _ => rfl
  | 1, _ => rfl
  | 2, _ => rfl
  | 3, _ => rfl
  | 4, _ => rfl
  | 5, _ => rfl
  | 6, _ => rfl
  | 7, _ => rfl
  | 8, _ => rfl
  | 9, _ => rfl
  | 10, _ => rfl
  | k + 11, h => omega
end Go.Proofs.YtjohbepdmnigcaaDoor
/-
  field.bytesOf, Prime, (Element).Bytes: arrays of 32 bytes.
-/
namespace Go.Proofs.YtjohbepdmnigcaaDoor
open Go.RowKit
set_option linter.unusedVariables false

/-- Block b is just the bytes bs (of element type t), none frozen. -/
structure BlkB (w : World) (b : Nat) (t : TypeId) (bs : List Nat) : Prop where
  heap : w.heap[b]? = some (.cells (cells8 bs).toArray t (0, 0))
  lt : allLt8 bs
theorem BlkB.size {w : World} {b : Nat} {t : TypeId} {bs : List Nat} (h : BlkB w b t bs) : b < w.heap.size := by
  rcases Nat.lt_or_ge b w.heap.size with hlt | hge
  · exact hlt
  · have := h.heap; rw [Array.getElem?_eq_none hge] at this; cases this
theorem BlkB.cell {w : World} {b : Nat} {t : TypeId} {bs : List Nat} (h : BlkB w b t bs) {i : Nat} (hi : i < bs.length) : w.cell? ⟨b, i, none⟩ = some (.int .u8 (at64 bs i)) := by
  rw [cell_of_row w b i _ t (0, 0) h.heap]
  simp [cells8, at64, List.getElem?_eq_getElem hi, List.getD_eq_getElem?_getD]
theorem BlkB.below {w w' : World} {b B : Nat} {t : TypeId} {bs : List Nat} (h : BlkB w b t bs) (hb : Below B w w') (hB : b < B) : BlkB w' b t bs := ⟨(hb.block b hB).trans h.heap, h.lt⟩
theorem BlkB.alloc {w : World} {b : Nat} {t : TypeId} {bs : List Nat} (h : BlkB w b t bs) (o : Obj) : BlkB (w.alloc o) b t bs := h.below ((Below.refl _ _).alloc (Nat.le_refl _) o) h.size
theorem BlkB.drew {w : World} {b : Nat} {t : TypeId} {bs : List Nat} (h : BlkB w b t bs) : BlkB w.drew b t bs := ⟨h.heap, h.lt⟩
theorem BlkB.new (w : World) (t : TypeId) (bs : List Nat) (hl : allLt8 bs) : BlkB (w.alloc (.cells (cells8 bs).toArray t)) w.heap.size t bs := ⟨heap_alloc_new w _, hl⟩
theorem BlkB.range {w : World} {b : Nat} {t : TypeId} {bs : List Nat} (h : BlkB w b t bs) : w.rangeAt b 0 (cells8 bs) := fun j v hv => by
  have hj : j < bs.length := by
    have := (List.getElem?_eq_some_iff.1 hv).1
    simpa [cells8] using this
  rw [show 0 + j = j by omega, h.cell hj, ← hv]
  simp [cells8, at64, List.getElem?_eq_getElem hj, List.getD_eq_getElem?_getD]
theorem BlkB.there {w : World} {b : Nat} {t : TypeId} {bs : List Nat} (h : BlkB w b t bs) : w.there b 0 bs.length := fun j hj => by
  rw [show 0 + j = j by omega, h.cell hj]
  exact ⟨rfl, by simp [World.frozen?, h.heap]⟩
theorem BlkB.rd {w : World} {b B : Nat} {t : TypeId} {bs : List Nat} (h : BlkB w b t bs) (hB : b < B) : Rd8 w B (some ⟨b, 0, none⟩) bs.length bs :=
  ⟨rfl, h.lt, fun _ => ⟨b, 0, rfl, hB, fun i hi => by rw [show 0 + i = i by omega]; exact h.cell hi⟩⟩
theorem zeros_lt8 (n : Nat) : allLt8 (List.replicate n 0) := by intro x hx; have := List.eq_of_mem_replicate hx; omega
/-- 32 bytes as a value: the bytes of the number X. -/
structure By (v : Value) (X : Nat) : Prop where
  ex : ∃ l : List Nat, v = .agg (cells8 l).toArray ∧ l.length = 32 ∧ allLt8 l ∧ val 256 l = X

/-- A new block of 32 bytes. -/
def o32 (t : TypeId) : Obj := .cells (cells8 (List.replicate 32 0)).toArray t
theorem o32_new (w : World) (t : TypeId) : BlkB (w.alloc (o32 t)) w.heap.size t (List.replicate 32 0) := BlkB.new w t _ (zeros_lt8 _)
theorem src8 {w : World} {B n : Nat} {A : Option Addr} {l : List Nat} (h : Rd8 w B A n l) (hn : 0 < n) : ∃ ad, A = some ad ∧ ∀ j v, (cells8 l)[j]? = some v → w.cell? (ad.add j) = some v := by
  obtain ⟨b, off, e, _, hc⟩ := h.cells hn
  refine ⟨⟨b, off, none⟩, e, fun j v hj => ?_⟩
  have hjl : j < l.length := by
    have := (List.getElem?_eq_some_iff.1 hj).1
    simpa [cells8] using this
  rw [Addr.add_mid, hc j (by rw [← h.len]; exact hjl), ← hj]
  simp [cells8, at64, List.getElem?_eq_getElem hjl, List.getD_eq_getElem?_getD]
theorem one8 (l : List Nat) : ∀ v ∈ cells8 l, v.oneCell' = true := by
  intro u hu
  simp only [cells8, List.mem_map] at hu
  obtain ⟨y, _, rfl⟩ := hu
  rfl
theorem store8 (b : Nat) (l : List Nat) (w : World) (h : w.there b 0 l.length) : (storeCells ⟨b, 0, none⟩ (cells8 l)).run Tryd.prog w = .ok () (w.setCells b 0 (cells8 l)) := by
  have hl : (cells8 l).length = l.length := by simp [cells8]
  exact run_storeCells_cells (P := Tryd.prog) b 0 (cells8 l) 0 w (fun j hj => by simpa using (h j (by omega)).1) (fun j hj => by simpa using (h j (by omega)).2) (one8 l)
theorem results_cell1 {fn : Func} {p : Tmp} {ty : TypeId} {P : Program} {w : World} {tmps : Array Value} (h : fn.results = #[.cell p ty]) (a : Addr) (v : Value) (hp : tmps.getD p undef = .pointer (some a)) (hl : (loadVar ty a).run P w = .ok v w) :
    (results fn tmps).run P w = .ok v w := by
  have e : (results fn tmps).run P w = ((asAddr (tmps.getD p undef)).run P w).andThen fun a w₁ => (loadVar ty a).run P w₁ := by
    simp only [results, h]
    simp [Sem.run_bind, Result.andThen]
  rw [e, hp]
  simp [asAddr, Result.andThen, hl]
theorem below_cells {B b : Nat} {a : World} (hb : B ≤ b) : ∀ (vs : List Value) (o : Nat) (w : World), Below B a w → Below B a (w.setCells b o vs)
  | [], _, _, h => h
  | v :: r, o, w, h => below_cells hb r (o + 1) _ (h.setCell (p := ⟨b, o, none⟩) hb v)
theorem size32 : (Tryd.prog.info? 62).map (·.size) = some 32 := by kernel_rfl

set_option maxRecDepth 20000 in
set_option maxHeartbeats 2000000 in
theorem bytesOf_c (a0 a1 a2 a3 : Int) (w : World) (ha : W4 a0 a1 a2 a3) (X : Nat) (hX : Hid (n4 a0 a1 a2 a3 = (X : Int))) :
    Calls Tryd.prog 43 #[w4 a0 a1 a2 a3] w fun e w' => ∃ r, e = .returned r ∧ By r X ∧ Below w.heap.size w w' := by
  unfold w4
  go_enter Tryd.func43, Tryd.ntmps43
  go_wp2
  change Code.wp _ _ _ _ (((w.alloc (o4 38 a0 a1 a2 a3)).alloc (o32 62)).alloc (o32 62))
  have hA0 := ((o4_new w 38 a0 a1 a2 a3).alloc (o32 62)).alloc (o32 62)
  have hZ0 := (o32_new (w.alloc (o4 38 a0 a1 a2 a3)) 62).alloc (o32 62)
  have hO0 := o32_new ((w.alloc (o4 38 a0 a1 a2 a3)).alloc (o32 62)) 62
  have hl0 := ((((Below.refl w.heap.size w).alloc (Nat.le_refl _) (o4 38 a0 a1 a2 a3))).alloc (by simp) (o32 62)).alloc (by simp; omega) (o32 62)
  rw [show (w.alloc (o4 38 a0 a1 a2 a3)).heap.size = w.heap.size + 1 by simp] at hZ0
  rw [show ((w.alloc (o4 38 a0 a1 a2 a3)).alloc (o32 62)).heap.size = w.heap.size + 1 + 1 by simp] at hO0
  generalize ((w.alloc (o4 38 a0 a1 a2 a3)).alloc (o32 62)).alloc (o32 62) = w0 at *
  have hr0 := (hA0.drew).rd ha hA0.size
  have HO := hid hO0
  have HZ := hid hZ0
  have HL := hid hl0
  clear hA0 hZ0 hO0 hl0
  go_region_law (first
    | (refine step_copy_splice rfl (.tmp 4) (.tmp 6) 64 64 rfl 5 Tryd.underlying64 (by kernel_rfl) (some ⟨w.heap.size + 1 + 1, 0, none⟩) Ar 32 32 32 cr (by simp [Act.eval]) (by simp [Act.eval])
        (w.heap.size + 1 + 1) 0 (cells8 (List.replicate 32 0)) 62 (HO.out.drew.below hb1 HO.out.size).heap (cells8 lr) (by simp [cells8, hr1.len]) (fun _ => ⟨rfl, src8 hr1 (by decide)⟩) (by simp [cells8, hr1.len]) (one8 lr) (w.heap.size + 1 + 1) w1 (Below.refl _ _) (Nat.le_refl _) ?_
       intro w2 hg2 hb2)
    | (go_simp
       go_at_call 65
       refine (limbBytes_c _ 4 4 (l4 a0 a1 a2 a3) _ hr0 (by decide)).mono ?_
       rintro e w1 ⟨Ar, cr, lr, rfl, hcr, hr1, hv1, hb1⟩))
  have hO2 : BlkB w2 (w.heap.size + 1 + 1) 62 lr := by
    refine ⟨?_, hr1.lt⟩
    have e : splice (cells8 (List.replicate 32 0)) 0 (cells8 lr) = cells8 lr := by
      have h1 : (cells8 lr).length = 32 := by simp [cells8, hr1.len]
      have h2 : (cells8 (List.replicate 32 0)).length = 32 := by simp [cells8]
      unfold splice
      rw [List.take_zero, List.nil_append, Nat.zero_add, List.drop_eq_nil_of_le (by omega), List.append_nil]
    rw [← e]; exact hg2.out
  have hZ2 : BlkB w2 (w.heap.size + 1) 62 (List.replicate 32 0) := (HZ.out.drew.below hb1 HZ.out.size).below hb2 (by omega)
  have hl2 : Below w.heap.size w w2 := (HL.out.drew.trans (hb1.mono HL.out.size)).trans (hb2.mono (by omega))
  have hlen : (cells8 lr).length = 32 := by simp [cells8, hr1.len]
  have HL32 : Hid (lr.length = 32) := hid hr1.len
  have hval : By (.agg (cells8 lr).toArray) X := by
    refine ⟨lr, rfl, hr1.len, hr1.lt, ?_⟩
    rw [hv1]
    have h := l4_val ha
    rw [hX.out] at h
    exact_mod_cast h
  have HV := hid hval
  have HE := hid hlen
  have hth := hZ2.there
  have hran := World.rangeAt_setCells_same w2 (w.heap.size + 1) 0 (cells8 lr) (by rw [hlen]; exact hth)
  have HR := hid hran
  have hst := store8 (w.heap.size + 1) lr w2 (by rw [HL32.out]; exact hth)
  have HO2 := hid hO2.range
  clear hval hth hran hO2 hZ2 hg2 hb2 hb1 hr1 hv1 hr0 HO HZ HL
  go_wp2_with (with_reducible refine wpList_load_mid rfl 62 (.tmp 3) rfl (w.heap.size + 1 + 1) 0 rfl (cells8 lr) _ HO2.out Tryd.underlying62 rfl (size32.trans (congrArg some HE.out.symm)) ?_)
  refine bodyPost_ret (results_cell1 Tryd.results43 ⟨w.heap.size + 1, 0, none⟩ _ rfl (run_loadVar_mid _ (w.heap.size + 1) 0 62 (cells8 lr) _ HR.out Tryd.underlying62 rfl (size32.trans (congrArg some HE.out.symm)))) rfl ?_
  exact ⟨_, rfl, HV.out, below_cells (by omega) _ _ _ hl2⟩
end Go.Proofs.YtjohbepdmnigcaaDoor
