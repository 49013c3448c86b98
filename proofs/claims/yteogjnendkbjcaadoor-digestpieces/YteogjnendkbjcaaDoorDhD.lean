/-
  digest.Hash.last: what the call does.
-/
import Derived.Test.YteogjnendkbjcaaDoorDhC
namespace Go.Proofs.YteogjnendkbjcaaDoor
open Go.RowKit
set_option linter.unusedVariables false

def z136 : List Nat := List.replicate 136 0
def o136 (t : TypeId) : Obj := .cells (cells8 z136).toArray t
theorem z136_len : z136.length = 136 := by unfold z136; rw [List.length_replicate]
theorem o136_new (w : World) (t : TypeId) : BlkB (w.alloc (o136 t)) w.heap.size t z136 := BlkB.new w t _ (zeros_lt8 _)
theorem zero136 (v : World) : (zeroValue 33).run Tryd.prog v = .ok (.agg (cells8 z136).toArray) v := by kernel_rfl
theorem BlkB.frozen {w : World} {b : Nat} {t : TypeId} {bs : List Nat} (h : BlkB w b t bs) (i : Nat) : w.frozen? ⟨b, i, none⟩ = false := by
  simp [World.frozen?, h.heap]
theorem BlkB.setB {w : World} {b : Nat} {t : TypeId} {bs : List Nat} (h : BlkB w b t bs) (i x : Nat) (hx : x < 256) : BlkB (w.setCell ⟨b, i, none⟩ (.int .u8 (x : Int))) b t (bs.set i x) := by
  have h1 : BlkV w b t (cells8 bs) := ⟨h.heap⟩
  refine ⟨?_, fun y hy => ?_⟩
  · have h2 := (h1.set i (.int .u8 (x : Int))).heap
    rw [show (cells8 bs).set i (.int .u8 (x : Int)) = cells8 (bs.set i x) by unfold cells8; rw [List.map_set]] at h2
    exact h2
  · rcases List.mem_or_eq_of_mem_set hy with h' | h'
    · exact h.lt y h'
    · subst h'; exact hx
theorem BlkB.otherB {w : World} {b c i : Nat} {t : TypeId} {v : Value} {bs : List Nat} (h : BlkB w b t bs) (hne : b ≠ c) : BlkB (w.setCell ⟨c, i, none⟩ v) b t bs := by
  have h1 : BlkV w b t (cells8 bs) := ⟨h.heap⟩
  exact ⟨(h1.other hne).heap, h.lt⟩
theorem BlkB.putB {w : World} {b c : Nat} {t : TypeId} {bs : List Nat} (h : BlkB w b t bs) (hne : b ≠ c) (us : List Value) (o : Nat) : BlkB (w.setCells c o us) b t bs :=
  ⟨(BlkV.put hne us o w (show BlkV w b t (cells8 bs) from ⟨h.heap⟩)).heap, h.lt⟩

set_option maxRecDepth 20000 in
set_option maxHeartbeats 2000000 in
theorem last_c (l m : List Nat) (b : Nat) (w : World) (hm : allLt8 m) (hB : HashB w b l (hwait m) (m.length % 136)) :
    Calls Tryd.prog 21 #[.pointer (some ⟨b, 0, none⟩)] w fun e w' => e = .returned (.agg (cells8 (hlast m)).toArray) ∧ Below w.heap.size w w' := by
  have hz := zero136
  obtain ⟨h, hh⟩ : ∃ h, h = m.length % 136 := ⟨_, rfl⟩
  have h136 : h < 136 := by rw [hh]; exact Nat.mod_lt _ (by decide)
  have HE := hid (hlast_eq m)
  have HS := hid (hlast_small m)
  have HLT := hid (hlast_lt hm)
  have HLN := hid (hlast_len m)
  rw [← hh] at hB HE HS
  generalize hlast m = zs at *
  have HW := hid (hwait_len m)
  have hlen8 : (cells8 (hwait m)).length = 136 := by rw [c8_len, hwait_len]
  generalize hwait m = ws at *
  have a0 := (hB.up ((Below.refl w.heap.size w).alloc (Nat.le_refl _) (o136 33)))
  have HO := hid a0.block
  have e1 : (w.alloc (o136 33)).heap.size = w.heap.size + 1 := by simp
  have n0 := (o136_new w 33).alloc (o136 33)
  have n1 := o136_new (w.alloc (o136 33)) 33
  rw [e1] at n1
  have hth := n1.there
  rw [z136_len] at hth
  have hst := store8 (w.heap.size + 1) ws _ (by rw [HW.out]; exact hth)
  have N1 := hid (n1.overB ws (by rw [HW.out, z136_len]) hB.lt)
  have N0 := hid (n0.putB (show w.heap.size ≠ w.heap.size + 1 by omega) (cells8 ws) 0)
  have NB := hid (below_cells (B := w.heap.size) (show w.heap.size ≤ w.heap.size + 1 by omega) (cells8 ws) 0 _ (((Below.refl w.heap.size w).alloc (Nat.le_refl _) (o136 33)).alloc (by simp) (o136 33)))
  have HB := hid hB
  have hlz : (cells8 z136).length = 136 := by rw [c8_len, z136_len]
  clear a0 n0 n1 hth e1 hB hh
  unfold o136 at HO hst N1 N0 NB
  have c161 := (HB.out.up NB.out).held
  have ch := N1.out.cell (i := h) (by rw [HW.out]; exact h136)
  have fh := N1.out.frozen h
  have n2 := N1.out.setB h 6 (by decide)
  rw [show ((6 : Nat) : Int) = 6 from rfl] at n2
  obtain ⟨x, hx⟩ : ∃ x, x = (ws.set h 6).getD 135 0 := ⟨_, rfl⟩
  rw [← hx] at HE HS
  have c135 := n2.cell (i := 135) (by rw [List.length_set, HW.out]; decide)
  rw [show at64 (ws.set h 6) 135 = (x : Int) by unfold at64; rw [hx]] at c135
  have f135 := n2.frozen 135
  have hx6 : (x : Int) ≤ 6 := by have := HS.out; omega
  have n3 := n2.setB 135 (x + 128) (by have := HS.out; omega)
  rw [HE.out] at n3
  have HO3 := hid n3.range
  have r0 := (N0.out.otherB (c := w.heap.size + 1) (i := h) (v := .int .u8 6) (by omega)).otherB (c := w.heap.size + 1) (i := 135) (v := .int .u8 ((x + 128 : Nat) : Int)) (by omega)
  have hth := r0.there
  rw [z136_len] at hth
  have hst3 := store8 w.heap.size zs _ (by rw [HLN.out]; exact hth)
  have hlz3 : (cells8 zs).length = 136 := by rw [c8_len, HLN.out]
  have HLZ := hid hlz3
  have HL8 := hid hlen8
  have HR := hid (World.rangeAt_setCells_same _ w.heap.size 0 (cells8 zs) (by rw [hlz3]; exact hth))
  have HF := hid (below_cells (B := w.heap.size) (Nat.le_refl w.heap.size) (cells8 zs) 0 _ ((NB.out.setCell (p := ⟨w.heap.size + 1, h, none⟩) (show w.heap.size ≤ w.heap.size + 1 by omega) (.int .u8 6)).setCell (p := ⟨w.heap.size + 1, 135, none⟩) (show w.heap.size ≤ w.heap.size + 1 by omega) (.int .u8 ((x + 128 : Nat) : Int))))
  rw [show ((x + 128 : Nat) : Int) = (x : Int) + 128 by omega] at HO3 hst3 HR HF
  have i0 : (h : Int) < 136 := by omega
  clear n2 n3 r0 hth hx
  go_enter Tryd.func21, Tryd.ntmps21
  go_wp2_with (first
    | with_reducible refine wpList_load_mid rfl 33 (.tmp 6) rfl b 25 rfl (cells8 ws) _ HO.out Tryd.underlying33 rfl (size136.trans (congrArg some HL8.out.symm)) ?_
    | with_reducible refine wpList_load_mid rfl 33 (.tmp 3) rfl (w.heap.size + 1) 0 rfl (cells8 zs) _ HO3.out Tryd.underlying33 rfl (size136.trans (congrArg some HLZ.out.symm)) ?_)
  refine bodyPost_ret (results_cell1 Tryd.results21 ⟨w.heap.size, 0, none⟩ _ rfl (run_loadVar_mid _ w.heap.size 0 33 (cells8 zs) _ HR.out Tryd.underlying33 rfl (size136.trans (congrArg some HLZ.out.symm)))) rfl ?_
  exact ⟨rfl, HF.out⟩
end Go.Proofs.YteogjnendkbjcaaDoor
