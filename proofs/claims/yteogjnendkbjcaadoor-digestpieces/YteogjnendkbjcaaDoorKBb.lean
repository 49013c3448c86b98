/-
  keccak.State.Bytes, keccak.OfBytes: what each call does.
-/
import Derived.Test.YteogjnendkbjcaaDoorKLb
import Derived.Test.YteogjnendkbjcaaDoorKRk
namespace Go.Proofs.YteogjnendkbjcaaDoor
open Go.RowKit
set_option linter.unusedVariables false

/-- 200 bytes as a value: the bytes of the number X. -/
structure By200 (bs : List Nat) (X : Nat) : Prop where
  len : bs.length = 200
  lt : allLt8 bs
  v : val 256 bs = X
def z200 : List Nat := List.replicate 200 0
def o200 (t : TypeId) : Obj := .cells (cells8 z200).toArray t
theorem o200_new (w : World) (t : TypeId) : BlkB (w.alloc (o200 t)) w.heap.size t z200 := BlkB.new w t _ (zeros_lt8 _)
theorem size200 : (Tryd.prog.info? 40).map (·.size) = some 200 := by kernel_rfl
theorem zero200 (v : World) : (zeroValue 40).run Tryd.prog v = .ok (.agg (cells8 z200).toArray) v := by kernel_rfl
theorem c8_len (l : List Nat) : (cells8 l).length = l.length := by simp [cells8]
theorem BlkB.overB {w : World} {b : Nat} {t : TypeId} {bs : List Nat} (us : List Nat) (h : BlkB w b t bs) (hl : us.length = bs.length) (hu : allLt8 us) : BlkB (w.setCells b 0 (cells8 us)) b t us := by
  have h1 : BlkV w b t (cells8 bs) := ⟨h.heap⟩
  exact ⟨(BlkV.whole (cells8 us) h1 (by rw [c8_len, c8_len, hl])).heap, hu⟩
theorem BlkB.up {w w' : World} {b : Nat} {t : TypeId} {bs : List Nat} (h : BlkB w b t bs) (hb : Below w.heap.size w w') : BlkB w' b t bs := h.below hb h.size
theorem BlkW.rdk {w : World} {b B : Nat} {t : TypeId} {ws : List Nat} (h : BlkW w b t ws) (hB : b < B) {n : Nat} (hn : ws.length = n) : Rd w B (some ⟨b, 0, none⟩) n ws := by
  have := h.rd (off := 0) (n := n) (B := B) (by omega) hB
  rw [List.drop_zero, ← hn, List.take_length] at this
  rw [← hn]; exact this

theorem srcW {w : World} {B n : Nat} {A : Option Addr} {l : List Nat} (h : Rd w B A n l) (hn : 0 < n) : ∃ ad, A = some ad ∧ ∀ j v, (cellsOf64 l)[j]? = some v → w.cell? (ad.add j) = some v := by
  obtain ⟨b, off, e, _, hc⟩ := h.cells hn
  refine ⟨⟨b, off, none⟩, e, fun j v hj => ?_⟩
  have hjl : j < l.length := by
    have := (List.getElem?_eq_some_iff.1 hj).1
    simpa [cellsOf64] using this
  rw [Addr.add_mid, hc j (by rw [← h.len]; exact hjl), ← hj]
  simp [cellsOf64, at64, List.getElem?_eq_getElem hjl, List.getD_eq_getElem?_getD]

set_option maxRecDepth 20000 in
set_option maxHeartbeats 2000000 in
theorem kbytes_c (l : List Nat) (w : World) (hl : Lanes l) :
    Calls Tryd.prog 13 #[st l] w fun e w' => ∃ bs, e = .returned (.agg (cells8 bs).toArray) ∧ By200 bs (val 18446744073709551616 l) ∧ Below w.heap.size w w' := by
  have hlen := st_len hl
  have hz := zero200
  unfold st
  go_enter Tryd.func13, Tryd.ntmps13
  go_wp2
  change Code.wp _ _ _ _ (((w.alloc (oW 31 l)).alloc (o200 40)).alloc (o200 40))
  have hA0 := ((oW_new w 31 l hl.all).alloc (o200 40)).alloc (o200 40)
  have hZ0 := (o200_new (w.alloc (oW 31 l)) 40).alloc (o200 40)
  have hO0 := o200_new ((w.alloc (oW 31 l)).alloc (o200 40)) 40
  have hl0 := ((((Below.refl w.heap.size w).alloc (Nat.le_refl _) (oW 31 l))).alloc (by simp) (o200 40)).alloc (by simp; omega) (o200 40)
  rw [show (w.alloc (oW 31 l)).heap.size = w.heap.size + 1 by simp] at hZ0
  rw [show ((w.alloc (oW 31 l)).alloc (o200 40)).heap.size = w.heap.size + 1 + 1 by simp] at hO0
  generalize ((w.alloc (oW 31 l)).alloc (o200 40)).alloc (o200 40) = w0 at *
  have hA1 : BlkW w0.drew w.heap.size 31 l := hA0.drew'
  have hr0 := hA1.rdk (show w.heap.size < w0.drew.heap.size from hA1.size) hl.len
  have HO := hid hO0
  have HZ := hid hZ0
  have HL := hid hl0
  clear hA0 hZ0 hO0 hl0 hA1 hlen hz
  go_region_law (first
    | (refine step_copy_splice rfl (.tmp 4) (.tmp 6) 22 22 rfl 5 Tryd.underlying22 (by kernel_rfl) (some ⟨w.heap.size + 1 + 1, 0, none⟩) Ar 200 200 200 cr (by simp [Act.eval]) (by simp [Act.eval])
        (w.heap.size + 1 + 1) 0 (cells8 z200) 40 (HO.out.drew.below hb1 HO.out.size).heap (cells8 lr) (by simp [cells8, hr1.len]) (fun _ => ⟨rfl, src8 hr1 (by decide)⟩) (by simp [cells8, hr1.len, z200]) (one8 lr) (w.heap.size + 1 + 1) w1 (Below.refl _ _) (Nat.le_refl _) ?_
       intro w2 hg2 hb2)
    | (go_simp
       go_at_call 22
       refine (limbBytes_c _ 25 25 l _ hr0 (by decide)).mono ?_
       rintro e w1 ⟨Ar, cr, lr, rfl, hcr, hr1, hv1, hb1⟩))
  have hO2 : BlkB w2 (w.heap.size + 1 + 1) 40 lr := by
    refine ⟨?_, hr1.lt⟩
    have e : splice (cells8 z200) 0 (cells8 lr) = cells8 lr := by
      have h1 : (cells8 lr).length = 200 := by simp [cells8, hr1.len]
      have h2 : (cells8 z200).length = 200 := by simp [cells8, z200]
      unfold splice
      rw [List.take_zero, List.nil_append, Nat.zero_add, List.drop_eq_nil_of_le (by omega), List.append_nil]
    rw [← e]; exact hg2.out
  have hZ2 : BlkB w2 (w.heap.size + 1) 40 z200 := (HZ.out.drew.below hb1 HZ.out.size).below hb2 (by omega)
  have hl2 : Below w.heap.size w w2 := (HL.out.drew.trans (hb1.mono HL.out.size)).trans (hb2.mono (by omega))
  have hlen : (cells8 lr).length = 200 := by simp [cells8, hr1.len]
  have HL96 : Hid (lr.length = 200) := hid hr1.len
  have hval : By200 lr (val 18446744073709551616 l) := ⟨hr1.len, hr1.lt, hv1⟩
  have HV := hid hval
  have HE := hid hlen
  have hth := hZ2.there
  rw [show z200.length = 200 by simp [z200]] at hth
  have hran := World.rangeAt_setCells_same w2 (w.heap.size + 1) 0 (cells8 lr) (by rw [hlen]; exact hth)
  have HR := hid hran
  have hst := store8 (w.heap.size + 1) lr w2 (by rw [HL96.out]; exact hth)
  have HO2 := hid hO2.range
  clear hval hth hran hO2 hZ2 hg2 hb2 hb1 hr1 hv1 hr0 HO HZ HL
  go_wp2_with (with_reducible refine wpList_load_mid rfl 40 (.tmp 3) rfl (w.heap.size + 1 + 1) 0 rfl (cells8 lr) _ HO2.out Tryd.underlying40 rfl (size200.trans (congrArg some HE.out.symm)) ?_)
  refine bodyPost_ret (results_cell1 Tryd.results13 ⟨w.heap.size + 1, 0, none⟩ _ rfl (run_loadVar_mid _ (w.heap.size + 1) 0 40 (cells8 lr) _ HR.out Tryd.underlying40 rfl (size200.trans (congrArg some HE.out.symm)))) rfl ?_
  exact ⟨_, rfl, HV.out, below_cells (by omega) _ _ _ hl2⟩

theorem results_cell_tmpK {fn : Func} {p q : Tmp} {ty : TypeId} {P : Program} {w : World} {tmps : Array Value} (h : fn.results = #[.cell p ty, .tmp q]) (a : Addr) (v u : Value) (hp : tmps.getD p undef = .pointer (some a)) (hl : (loadVar ty a).run P w = .ok v w) (hq : tmps.getD q undef = u) :
    (results fn tmps).run P w = .ok (.tuple #[v, u]) w := by
  have hp' : tmps[p]?.getD undef = .pointer (some a) := by simpa using hp
  have hq' : tmps[q]?.getD undef = u := by simpa using hq
  simp only [results, h]
  simp [hp', asAddr, hl, hq', Result.andThen]
theorem st_result2 {fn : Func} {p q : Tmp} {w : World} {tmps : Array Value} {b : Nat} {L : List Nat} {u : Value} (hL : Lanes L) (h : fn.results = #[.cell p 31, .tmp q]) (hp : tmps.getD p undef = .pointer (some ⟨b, 0, none⟩)) (hr : Hid (w.rangeAt b 0 (cellsOf64 L))) (hq : tmps.getD q undef = u) :
    (results fn tmps).run Tryd.prog w = .ok (.tuple #[st L, u]) w :=
  results_cell_tmpK h ⟨b, 0, none⟩ _ u hp (run_loadVar_mid _ b 0 31 (cellsOf64 L) _ hr.out Tryd.underlying31 rfl (st_size hL)) hq
theorem z25_sizeS : (Tryd.prog.info? 31).map (·.size) = some (#[.int .u64 0, .int .u64 0, .int .u64 0, .int .u64 0, .int .u64 0, .int .u64 0, .int .u64 0, .int .u64 0, .int .u64 0, .int .u64 0, .int .u64 0, .int .u64 0, .int .u64 0, .int .u64 0, .int .u64 0, .int .u64 0, .int .u64 0, .int .u64 0, .int .u64 0, .int .u64 0, .int .u64 0, .int .u64 0, .int .u64 0, .int .u64 0, .int .u64 0] : Array Value).size := by kernel_rfl

set_option maxRecDepth 20000 in
set_option maxHeartbeats 1000000 in
theorem kofBytes_err (A : Option Addr) (n c : Nat) (w : World) (hn : n ≠ 200) :
    Calls Tryd.prog 14 #[.slice A n c] w fun e w' => e = .returned (.tuple #[st l0, .int .i64 1]) ∧ Below w.heap.size w w' := by
  have h0 := zS_new w 31
  have HT := hid (z25_there h0)
  have HR := hid (World.rangeAt_setCells_same _ w.heap.size 0 (cellsOf64 l0) (by rw [st_len l0_lanes]; exact h0.there))
  have HB := hid ((Below.refl w.heap.size w).alloc (Nat.le_refl _) (zS 31))
  have hne : ((n : Int) != 200) = true := by rw [bne_iff_ne]; omega
  clear h0 hn
  unfold zS at HT HR HB
  rw [z25_list] at HR
  go_enter Tryd.func14, Tryd.ntmps14
  go_wp2_with (refine wpList_store_mid rfl 31 (.tmp 2) (.tmp 8) rfl w.heap.size 0 #[.int .u64 0, .int .u64 0, .int .u64 0, .int .u64 0, .int .u64 0, .int .u64 0, .int .u64 0, .int .u64 0, .int .u64 0, .int .u64 0, .int .u64 0, .int .u64 0, .int .u64 0, .int .u64 0, .int .u64 0, .int .u64 0, .int .u64 0, .int .u64 0, .int .u64 0, .int .u64 0, .int .u64 0, .int .u64 0, .int .u64 0, .int .u64 0, .int .u64 0] rfl rfl (by with_reducible exact HT.out) z25_sizeS z25_all ?_)
  refine bodyPost_ret (st_result2 l0_lanes Tryd.results14 rfl HR rfl) rfl ?_
  exact ⟨rfl, below_cells (Nat.le_refl _) _ _ _ HB.out⟩

set_option maxRecDepth 20000 in
set_option maxHeartbeats 2000000 in
theorem kofBytes_ok (A : Option Addr) (c : Nat) (b : List Nat) (w : World) (ha : Rd8 w w.heap.size A 200 b) :
    Calls Tryd.prog 14 #[.slice A 200 c] w fun e w' => ∃ l, e = .returned (.tuple #[st l, .int .i64 0]) ∧ Lanes l ∧ val 18446744073709551616 l = val 256 b ∧ Below w.heap.size w w' := by
  have e1 : (w.alloc (zS 31)).heap.size = w.heap.size + 1 := by simp
  have hZ0 := (zS_new w 31).alloc (zS 31)
  have hO0 := zS_new (w.alloc (zS 31)) 31
  rw [e1] at hO0
  have hl0 := ((Below.refl w.heap.size w).alloc (Nat.le_refl _) (zS 31)).alloc (by omega) (zS 31)
  have hr0 := ha.up hl0 (Nat.le_refl _)
  unfold zS at hZ0 hO0 hl0 hr0
  clear e1 ha
  go_enter Tryd.func14, Tryd.ntmps14
  go_wp2_with fail
  generalize ((w.alloc _).alloc _) = w0 at *
  have hr1 : Rd8 w0.drew w0.drew.heap.size A 200 b := hr0.drewN 1
  have HO := hid hO0
  have HZ := hid hZ0
  have HL := hid hl0
  clear hO0 hZ0 hl0 hr0
  go_region_law (first
    | (refine step_copy_splice rfl (.tmp 9) (.tmp 11) 54 54 rfl 29 Tryd.underlying54 (by kernel_rfl) (some ⟨w.heap.size + 1, 0, none⟩) Ar 25 25 25 cr (by simp [Act.eval]) (by simp [Act.eval])
        (w.heap.size + 1) 0 (cellsOf64 l0) 31 (HO.out.drew'.below hb1 HO.out.size).heap (cellsOf64 lr) (by simp [cellsOf64, hr2.len]) (fun _ => ⟨rfl, srcW hr2 (by decide)⟩) (by simp [cellsOf64, hr2.len, l0]) (one64 lr) (w.heap.size + 1) w1 (Below.refl _ _) (Nat.le_refl _) ?_
       intro w2 hg2 hb2)
    | (go_simp
       go_at_call 23
       refine (limbWords_c A 200 c b _ hr1 (by decide)).mono ?_
       rintro e w1 ⟨Ar, cr, lr, rfl, hcr, hr2, hv1, hb1⟩))
  have hlr : Lanes lr := ⟨hr2.len, hr2.lt⟩
  have hO2 : BlkW w2 (w.heap.size + 1) 31 lr := by
    refine ⟨?_, hr2.lt⟩
    have e : splice (cellsOf64 l0) 0 (cellsOf64 lr) = cellsOf64 lr := by
      have h1 : (cellsOf64 lr).length = 25 := st_len hlr
      have h2 : (cellsOf64 l0).length = 25 := rfl
      unfold splice
      rw [List.take_zero, List.nil_append, Nat.zero_add, List.drop_eq_nil_of_le (by omega), List.append_nil]
    have := hg2.out
    rw [e] at this
    exact this
  have hZ2 : BlkW w2 w.heap.size 31 l0 := (HZ.out.drew'.below hb1 HZ.out.size).below hb2 (by omega)
  have hl2 : Below w.heap.size w w2 := (HL.out.drew.trans (hb1.mono HL.out.size)).trans (hb2.mono (by omega))
  have HLR := hid hlr
  have HV := hid hv1
  have HSz := hid (st_size hlr)
  obtain ⟨hst, HR⟩ := st_stored hlr hZ2
  have hlenL := st_len hlr
  have HO2 := hid hO2.range
  clear hO2 hZ2 hg2 hb2 hb1 hr1 hr2 hv1 HO HZ HL hlr
  go_wp2_with (with_reducible refine wpList_load_mid rfl 31 (.tmp 4) rfl (w.heap.size + 1) 0 rfl (cellsOf64 lr) _ HO2.out Tryd.underlying31 rfl HSz.out ?_)
  refine bodyPost_ret (st_result2 HLR.out Tryd.results14 rfl HR rfl) rfl ?_
  exact ⟨lr, rfl, HLR.out, HV.out, below_cells (Nat.le_refl _) _ _ _ hl2⟩
end Go.Proofs.YteogjnendkbjcaaDoor
