/-
  grain.Source.bytes, Element: what each call does.
-/
import Derived.Test.YtpjjobophplleaaDoorHrB
import Derived.Test.YtpjjobophplleaaDoorFldK
import Derived.Test.YtpjjobophplleaaDoorGnP
namespace Go.Proofs.YtpjjobophplleaaDoor
open Go.RowKit
set_option linter.unusedVariables false

theorem Only.setUp {b q : Nat} {w w' : World} (h : Only b w w') (hq : w.heap.size ≤ q) (i : Nat) (v : Value) : Only b w (w'.setCell ⟨q, i, none⟩ v) :=
  ⟨h.os, h.tape, h.output, by have := h.size; simp [World.setCell]; omega, fun k hk hb => by
    have e := h.block k hk hb
    rw [← e]
    simp only [World.setCell]
    rw [Array.getElem?_modify, if_neg (by show ¬ q = k; omega)]⟩
theorem Only.setsUp {b q : Nat} {w : World} (hq : w.heap.size ≤ q) : ∀ (vs : List Value) (o : Nat) (w' : World), Only b w w' → Only b w (w'.setCells q o vs)
  | [], _, _, h => h
  | v :: r, o, w', h => Only.setsUp hq r (o + 1) _ (h.setUp hq o v)
theorem Only.alloc {b : Nat} {w w' : World} (h : Only b w w') (o : Obj) : Only b w (w'.alloc o) :=
  h.trans (Only.of ((Below.refl _ _).alloc (Nat.le_refl _) o))
def z32 : List Nat := List.replicate 32 0
theorem zero32v (v : World) : (zeroValue 60).run Tryd.prog v = .ok (.agg (cells8 z32).toArray) v := by kernel_rfl
theorem size32v : (Tryd.prog.info? 60).map (·.size) = some 32 := by kernel_rfl
/-- The bytes when k + 1 of them are laid. -/
noncomputable def gbk (k s : Nat) : List Nat := List.replicate (31 - k) 0 ++ gbl k s
theorem gbk_len {k : Nat} (h : k ≤ 31) (s : Nat) : (gbk k s).length = 32 := by
  unfold gbk
  rw [List.length_append, List.length_replicate, gbl_len]
  omega
theorem gbk_succ {k : Nat} (h : k < 31) (s : Nat) : (gbk k s).set (30 - k) (gval 8 (gns (6 + 8 * k) s)) = gbk (k + 1) s := by
  unfold gbk
  rw [show 31 - k = (30 - k) + 1 by omega, List.replicate_succ', List.append_assoc, List.set_append_right _ _ (by rw [List.length_replicate]; exact Nat.le_refl _), List.length_replicate, Nat.sub_self, show 31 - (k + 1) = 30 - k by omega]
  rfl
theorem gbk_first (s : Nat) : z32.set 31 (gval 6 s) = gbk 0 s := rfl
theorem gbk_last (s : Nat) : gbk 31 s = gby s := by
  unfold gbk gby
  rfl
/-- What lies when k + 1 bytes are laid. -/
structure ByR (w : World) (b : Nat) (t : TypeId) (s q2 q3 k : Nat) (wr : World) : Prop where
  g : G8 wr b t (gns (6 + 8 * k) s)
  r : BlkV wr q2 60 (cells8 z32)
  l : BlkV wr q3 60 (cells8 (gbk k s))
  o : Only b w wr
theorem u8_small {x : Nat} (h : x < 256) : IntKind.u8.wrap (x : Int) = (x : Int) := by rw [IntKind.wrap_u8]; omega
set_option maxRecDepth 20000 in
set_option maxHeartbeats 2000000 in
theorem gbytes_c (s b : Nat) (t : TypeId) (w : World) (hs : GS s) (hB : G8 w b t s) :
    Calls Tryd.prog 26 #[.pointer (some ⟨b, 0, none⟩)] w fun e w' => e = .returned (.agg (cells8 (gby s)).toArray) ∧ G8 w' b t (gns 254 s) ∧ Only b w w' := by
  have hb := hB.size
  have e1 : (w.alloc (.cells (cells8 z32).toArray 60)).heap.size = w.heap.size + 1 := by simp
  have g2 := BlkV.new w 60 (cells8 z32)
  have g3 := BlkV.new (w.alloc (.cells (cells8 z32).toArray 60)) 60 (cells8 z32)
  rw [e1] at g3
  have g2' := g2.alloc (.cells (cells8 z32).toArray 60)
  have o0 := ((Only.refl b w).alloc (.cells (cells8 z32).toArray 60)).alloc (.cells (cells8 z32).toArray 60)
  have gb := (BlkV.alloc hB (.cells (cells8 z32).toArray 60)).alloc (.cells (cells8 z32).toArray 60)
  have H2 := hid g2'
  have H3 := hid g3
  have HO0 := hid o0
  have HGB := hid gb
  have hz := zero32v
  have hlz : (cells8 z32).length = 32 := rfl
  clear e1 g2 g2' g3 o0 gb hB
  go_enter Tryd.func26, Tryd.ntmps26
  go_wp2_with fail
  have N1 := gnumber_c s b 6 t _ hs HGB.out
  rw [show gmany 6 = 6 by decide] at N1
  refine N1.mono ?_
  clear N1
  rintro e w1 ⟨rfl, g1, o1⟩
  have n2 : w.heap.size ≠ b := by omega
  have n3 : w.heap.size + 1 ≠ b := by omega
  have r1 := o1.blk H2.out n2
  have l1 := o1.blk H3.out n3
  have O1 := HO0.out.trans o1
  have hST : ByR w b t s w.heap.size (w.heap.size + 1) 0 (w1.setCell ⟨w.heap.size + 1, 31, none⟩ (.int .u8 ((gval 6 s : Nat) : Int))) := by
    refine ⟨BlkV.other g1 (by omega), r1.other (by omega), ?_, O1.setUp (Nat.le_succ _) _ _⟩
    have h := l1.set 31 (.int .u8 ((gval 6 s : Nat) : Int))
    rw [cells8_set, gbk_first] at h
    exact h
  have hx256 : gval 6 s < 256 := by have := gval_lt 6 s; omega
  obtain ⟨x, hx⟩ : ∃ x, x = gval 6 s := ⟨_, rfl⟩
  rw [← hx] at hST hx256 ⊢
  have HST := hid hST
  have f31 := l1.frozen 31
  have c31 := BlkV.cell8 l1 (i := 31) (by decide)
  have hwx := u8_small hx256
  clear hx hST r1 l1 O1 g1 o1 H2 H3 HO0 HGB hz hlz
  go_wp2
  go_loopw [5] (fun i wr => ∃ (k : Nat) (i' : Int), k ≤ 31 ∧ Hid (i' = 30 - (k : Int)) ∧ i = .int .i64 i' ∧ ByR w b t s w.heap.size (w.heap.size + 1) k wr) (fun i _ => (intOf i + 1).toNat)
  case atStart => exact ⟨0, 30, Nat.zero_le _, rfl, rfl, HST.out⟩
  case round =>
    clear HST
    obtain ⟨k, i', hk, HI, rfl, hrel⟩ := hrel
    have HR := hid hrel
    clear hrel hwx c31 f31
    by_cases hlt : k < 31
    · obtain ⟨j, hj⟩ : ∃ j : Nat, j = 30 - k := ⟨_, rfl⟩
      obtain rfl : i' = (j : Int) := by have := HI.out; omega
      have j0 : (0 : Int) ≤ (j : Int) := by omega
      have j32 : (j : Int) < 32 := by omega
      have HJ := hid hj
      have j30 : j ≤ 30 := by omega
      clear HI hj
      go_wp2_with fail
      have N1 := gnumber_c (gns (6 + 8 * k) s) b 8 t wr (GS.ns _ hs) HR.out.g
      rw [show gmany 8 = 8 by decide] at N1
      refine N1.mono ?_
      clear N1
      rintro e w2 ⟨rfl, g2, o2⟩
      have r2 := o2.blk HR.out.r n2
      have l2 := o2.blk HR.out.l n3
      have O2 := HR.out.o.trans o2
      have hST : ByR w b t s w.heap.size (w.heap.size + 1) (k + 1) (w2.setCell ⟨w.heap.size + 1, j, none⟩ (.int .u8 ((gval 8 (gns (6 + 8 * k) s) : Nat) : Int))) := by
        refine ⟨?_, r2.other (by omega), ?_, O2.setUp (Nat.le_succ _) _ _⟩
        · have h := BlkV.other (v := .int .u8 ((gval 8 (gns (6 + 8 * k) s) : Nat) : Int)) (c := w.heap.size + 1) (i := j) g2 (by omega)
          rw [← gns_add] at h
          exact h
        · have h := l2.set j (.int .u8 ((gval 8 (gns (6 + 8 * k) s) : Nat) : Int))
          rw [cells8_set, HJ.out, gbk_succ hlt, ← HJ.out] at h
          exact h
      have hy256 : gval 8 (gns (6 + 8 * k) s) < 256 := by have := gval_lt 8 (gns (6 + 8 * k) s); omega
      obtain ⟨y, hy⟩ : ∃ y, y = gval 8 (gns (6 + 8 * k) s) := ⟨_, rfl⟩
      rw [← hy] at hST hy256 ⊢
      have HST := hid hST
      have fj := l2.frozen j
      have cj := BlkV.cell8 l2 (i := j) (by rw [gbk_len hk]; omega)
      have hwy := u8_small hy256
      generalize at64 (gbk k s) j = u at *
      clear hy hST r2 l2 O2 g2 o2
      go_wp2
      go_roundw
      case rel => exact ⟨k + 1, 30 - ((k + 1 : Nat) : Int), by omega, rfl, by have := HJ.out; first | go_num | (congr 1; omega), HST.out⟩
      case measure => simp [intOf] <;> omega
    · have e31 : k = 31 := by omega
      obtain rfl : i' = -1 := by have := HI.out; omega
      rw [e31] at HR
      have hg := HR.out.g
      have hl := HR.out.l
      rw [gbk_last] at hl
      rw [show 6 + 8 * 31 = 254 by decide] at hg
      have hlen : (cells8 (gby s)).length = 32 := by unfold cells8; rw [List.length_map, gby_len]
      have hone : ∀ v ∈ cells8 (gby s), v.oneCell' = true := by intro v hv; unfold cells8 at hv; obtain ⟨x, _, rfl⟩ := List.mem_map.1 hv; rfl
      obtain ⟨cs, hcs⟩ : ∃ cs, cs = cells8 (gby s) := ⟨_, rfl⟩
      have HCS := hid hcs
      rw [← hcs] at hl hlen hone
      have hst : (storeCells ⟨w.heap.size, 0, none⟩ cs).run Tryd.prog wr = .ok () (wr.setCells w.heap.size 0 cs) :=
        storeV cs 0 HR.out.r (by rw [hlen]; decide) hone
      have HRR := hid (BlkV.whole cs HR.out.r (by rw [hlen]; rfl)).range
      have HO := hid hl.range
      have HSz : Hid ((Tryd.prog.info? 60).map (·.size) = some cs.length) := size32v.trans (congrArg some hlen.symm)
      have HG := hid (BlkV.put (show b ≠ w.heap.size by omega) cs 0 wr hg)
      have HOO := hid (Only.setsUp (Nat.le_refl w.heap.size) cs 0 wr HR.out.o)
      clear hcs hg hl hone HR HI e31
      go_wp2_with (with_reducible refine wpList_load_mid rfl 60 (.tmp 3) rfl (w.heap.size + 1) 0 rfl cs _ (by with_reducible exact HO.out) Tryd.underlying60 rfl HSz.out ?_)
      refine bodyPost_ret (results_cell1 Tryd.results26 ⟨w.heap.size, 0, none⟩ _ rfl (run_loadVar_mid _ w.heap.size 0 60 cs _ HRR.out Tryd.underlying60 rfl HSz.out)) rfl ?_
      exact ⟨by rw [HCS.out], HG.out, HOO.out⟩
end Go.Proofs.YtpjjobophplleaaDoor
