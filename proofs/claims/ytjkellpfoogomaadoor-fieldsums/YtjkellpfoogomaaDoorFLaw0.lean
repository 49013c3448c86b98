/-
  avouchlaw02.speaks: the document's example holds.
-/
import Derived.Test.YtjkellpfoogomaaDoorFNum
import Derived.Test.YtjkellpfoogomaaDoorFldI
import Derived.Test.YtjkellpfoogomaaDoorBytesC
import Derived.Test.YtjkellpfoogomaaDoorLawLib
namespace Go.Proofs.YtjkellpfoogomaaDoor
open Go.RowKit
set_option linter.unusedVariables false

theorem rd8_range {w : World} {b B : Nat} {l : List Nat} (h : w.rangeAt b 0 (cells8 l)) (hl : allLt8 l) (hB : b < B) : Rd8 w B (some ⟨b, 0, none⟩) l.length l := by
  refine ⟨rfl, hl, fun _ => ⟨b, 0, rfl, hB, fun i hi => ?_⟩⟩
  refine h i _ ?_
  simp [cells8, at64, List.getElem?_eq_getElem hi, List.getD_eq_getElem?_getD]
/-- 32 bytes of a value that came back, laid into a new variable. -/
theorem new32 (w : World) (l : List Nat) (hl : l.length = 32) (hlt : allLt8 l) :
    ∃ wx, (storeCells ⟨w.heap.size, 0, none⟩ (cells8 l)).run Tryd.prog (w.alloc (.cells #[.int .u8 0, .int .u8 0, .int .u8 0, .int .u8 0, .int .u8 0, .int .u8 0, .int .u8 0, .int .u8 0, .int .u8 0, .int .u8 0, .int .u8 0, .int .u8 0, .int .u8 0, .int .u8 0, .int .u8 0, .int .u8 0, .int .u8 0, .int .u8 0, .int .u8 0, .int .u8 0, .int .u8 0, .int .u8 0, .int .u8 0, .int .u8 0, .int .u8 0, .int .u8 0, .int .u8 0, .int .u8 0, .int .u8 0, .int .u8 0, .int .u8 0, .int .u8 0] 34)) = .ok () wx ∧ Rd8 wx wx.heap.size (some ⟨w.heap.size, 0, none⟩) 32 l ∧ Below w.heap.size w wx := by
  have hB := o32_new w 34
  have hth := hB.there
  have hb : Below w.heap.size w ((w.alloc (o32 34)).setCells w.heap.size 0 (cells8 l)) := below_cells (Nat.le_refl _) _ _ _ ((Below.refl _ _).alloc (Nat.le_refl _) _)
  refine ⟨(w.alloc (o32 34)).setCells w.heap.size 0 (cells8 l), store8 w.heap.size l (w.alloc (o32 34)) (by rw [hl]; exact hth), ?_, hb⟩
  have hr := World.rangeAt_setCells_same (w.alloc (o32 34)) w.heap.size 0 (cells8 l) (by rw [show (cells8 l).length = 32 by simp [cells8, hl]]; exact hth)
  have hs : w.heap.size < ((w.alloc (o32 34)).setCells w.heap.size 0 (cells8 l)).heap.size := by
    have h1 := (below_cells (B := 0) (b := w.heap.size) (Nat.zero_le _) (cells8 l) 0 _ (Below.refl 0 (w.alloc (o32 34)))).size
    have h2 : (w.alloc (o32 34)).heap.size = w.heap.size + 1 := by simp
    omega
  have := rd8_range hr hlt hs
  rw [hl] at this
  exact this

set_option maxRecDepth 20000 in
set_option maxHeartbeats 4000000 in
theorem speaks2_c (w : World) (hG : Glob w) : Calls Tryd.prog 8 #[] w fun e w' => e = .returned (.bool true) ∧ Below w.heap.size w w' := by
  go_enter Tryd.func8, Tryd.ntmps8
  go_wp2_with fail
  refine (fromUint64_c 2 w (by decide) hG).mono ?_
  rintro e w1 ⟨r1, rfl, h1, b1⟩
  go_wp2_with fail
  refine (einverse_c r1 2 w1 h1 (hG.up b1)).mono ?_
  rintro e w2 ⟨r2, rfl, h2, b2⟩
  have b12 := b1.trans (b2.mono b1.size)
  go_wp2_with fail
  refine (ebytes_c r2 _ w2 h2 (hG.up b12)).mono ?_
  rintro e w3 ⟨r3, rfl, h3, b3⟩
  have b13 := b12.trans (b3.mono b12.size)
  rw [inv_two] at h3
  obtain ⟨l, rfl, hl, hlt, hv⟩ := h3
  have hlen : (cells8 l).length = 32 := by simp [cells8, hl]
  obtain ⟨wx, hst, rx, bx⟩ := new32 w3 l hl hlt
  have b1x := b13.trans (bx.mono b13.size)
  have HV := hid hv
  clear hl hlt hv b12 b1 b2 b3
  go_wp2_with fail
  refine (ofBytes_c _ 32 32 l wx rx (by decide)).mono ?_
  rintro e w4' ⟨A4, c4, l4', rfl, hc4, r4, d4, t4, v4, b4⟩
  rw [HV.out] at v4
  have b14 := b1x.trans (b4.mono b1x.size)
  go_wp2_with fail
  refine (words_c A4 l4'.length c4 l4' 1 1 rfl w4' r4 d4 (by decide)).mono ?_
  rintro e w5 ⟨A5, c5, l5, rfl, hc5, r5, v5, b5⟩
  rw [v4, show (10944121435919637611123202872628637544274182200208017171849102093287904247809 : Nat) % 18446744073709551616 ^ 1 = 11669102379873075201 by decide] at v5
  have b15 := b14.trans (b5.mono b14.size)
  obtain ⟨bb, off, rfl, hbb, hcell⟩ := r5.at_ (k := 0) (by decide)
  have hval : at64 l5 0 = 11669102379873075201 := by
    have h5 := r5.len
    unfold val at v5
    rw [h5] at v5
    simp only [pv, Nat.zero_add, Nat.pow_zero, Nat.mul_one] at v5
    unfold at64
    rw [v5]; rfl
  rw [hval, Nat.add_zero] at hcell
  clear v5 v4 d4 t4 r4 r5 hval
  go_wp2
  go_ret
  exact ⟨rfl, b15⟩
end Go.Proofs.YtjkellpfoogomaaDoor
