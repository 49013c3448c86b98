import Derived.Test.YtpjjobophplleaaDoorFldH
import Derived.Test.YtpjjobophplleaaDoorFldI
import Derived.Test.YtpjjobophplleaaDoorFNum
import Derived.Test.YtpjjobophplleaaDoorLawLib
import Derived.Deep.RegionWith
import Derived.Laws.BytesArg
import Derived.Test.YtpjjobophplleaaDoorRefG
/-
  avouchlaw02.speaks: the document's example holds.
-/
namespace Go.Proofs.YtpjjobophplleaaDoor
open Go.RowKit
set_option linter.unusedVariables false

/-- 32 bytes of a value that came back, laid into a new variable. -/
theorem new32 (w : World) (l : List Nat) (hl : l.length = 32) (hlt : allLt8 l) :
    ∃ wx, (storeCells ⟨w.heap.size, 0, none⟩ (cells8 l)).run Tryd.prog (w.alloc (.cells #[.int .u8 0, .int .u8 0, .int .u8 0, .int .u8 0, .int .u8 0, .int .u8 0, .int .u8 0, .int .u8 0, .int .u8 0, .int .u8 0, .int .u8 0, .int .u8 0, .int .u8 0, .int .u8 0, .int .u8 0, .int .u8 0, .int .u8 0, .int .u8 0, .int .u8 0, .int .u8 0, .int .u8 0, .int .u8 0, .int .u8 0, .int .u8 0, .int .u8 0, .int .u8 0, .int .u8 0, .int .u8 0, .int .u8 0, .int .u8 0, .int .u8 0, .int .u8 0] 60)) = .ok () wx ∧ Rd8 wx wx.heap.size (some ⟨w.heap.size, 0, none⟩) 32 l ∧ Below w.heap.size w wx := by
  have hB := o32_new w 60
  have hth := hB.there
  have hb : Below w.heap.size w ((w.alloc (o32 60)).setCells w.heap.size 0 (cells8 l)) := below_cells (Nat.le_refl _) _ _ _ ((Below.refl _ _).alloc (Nat.le_refl _) _)
  refine ⟨(w.alloc (o32 60)).setCells w.heap.size 0 (cells8 l), store8 w.heap.size l (w.alloc (o32 60)) (by rw [hl]; exact hth), ?_, hb⟩
  have hr := World.rangeAt_setCells_same (w.alloc (o32 60)) w.heap.size 0 (cells8 l) (by rw [show (cells8 l).length = 32 by simp [cells8, hl]]; exact hth)
  have hs : w.heap.size < ((w.alloc (o32 60)).setCells w.heap.size 0 (cells8 l)).heap.size := by
    have h1 := (below_cells (B := 0) (b := w.heap.size) (Nat.zero_le _) (cells8 l) 0 _ (Below.refl 0 (w.alloc (o32 60)))).size
    have h2 : (w.alloc (o32 60)).heap.size = w.heap.size + 1 := by simp
    omega
  have := rd8_range hr hlt hs
  rw [hl] at this
  exact this

end Go.Proofs.YtpjjobophplleaaDoor
/-
  avouchref02.Bytes, avouchlaw02.Is: what each call does.
-/
namespace Go.Proofs.YtpjjobophplleaaDoor
open Go.RowKit
set_option linter.unusedVariables false

theorem ref2Bytes_c (v : Value) (X : Nat) (w : World) (hv : Dg w v X) :
    Calls Tryd.prog 25 #[v] w fun e w' => Bts w e w' 32 (X % 115792089237316195423570985008687907853269984665640564039457584007913129639936) := by
  obtain ⟨A, c, l, rfl, h1, h2, h3, h4, h5, h6⟩ := hv
  go_enter Tryd.func25, Tryd.ntmps25
  go_wp2_with fail
  refine (words_c A l.length c l 4 4 rfl w h3 h4 (by decide)).mono ?_
  rintro e w1 ⟨A1, c1, l1, rfl, hc1, r1, v1, b1⟩
  go_wp2_with fail
  refine (refBytes_c A1 4 c1 l1 w1 r1 (by decide)).mono ?_
  rintro e w2 ⟨A2, c2, l2, rfl, hc2, r2, v2, b2⟩
  rw [v1, h6, show (18446744073709551616 : Nat) ^ 4 = 115792089237316195423570985008687907853269984665640564039457584007913129639936 by decide] at v2
  have R : Hid (Bts w (.returned (.slice A2 (8 * 4) c2)) w2 (8 * 4) (X % 115792089237316195423570985008687907853269984665640564039457584007913129639936)) := hid ⟨A2, c2, l2, rfl, hc2, r2, v2, bchain b1 b2⟩
  clear v1 v2 h6 h4 h5 r1 r2 hc2
  go_wp2
  go_ret
  exact R.out

set_option maxRecDepth 20000 in
set_option maxHeartbeats 4000000 in
theorem is_c (u v : Value) (x X : Nat) (w : World) (hu : El u x) (hv : Dg w v X) (hX : X < 115792089237316195423570985008687907853269984665640564039457584007913129639936) (hG : Glob w) :
    Calls Tryd.prog 9 #[u, v] w fun e w' => e = .returned (.bool (decide (x = X))) ∧ Below w.heap.size w w' := by
  have HU := hid hu
  obtain ⟨a0, a1, a2, a3, rfl, -, -, -⟩ := hu
  have hl0 := (Below.refl w.heap.size w).alloc (Nat.le_refl _) (o4 39 a0 a1 a2 a3)
  have hG0 := hG.up hl0
  have HL := hid hl0
  have HV := hid hv
  have HX := hid hX
  obtain ⟨q, hq⟩ : ∃ q, q = decide (x = X) := ⟨_, rfl⟩
  rw [← hq]
  have HQ := hid hq
  clear hl0 hv hX hq
  unfold w4
  go_enter Tryd.func9, Tryd.ntmps9
  go_wp2_with fail
  refine (ebytes_c _ x _ HU.out hG0).mono ?_
  rintro e w1 ⟨r, rfl, hr, b1⟩
  obtain ⟨l, rfl, hl, hlt, hval⟩ := hr
  have b01 := HL.out.trans (Below.mono (B' := w.heap.size) b1 HL.out.size)
  obtain ⟨wx, hst, rx, bx⟩ := new32 w1 l hl hlt
  have b0x := b01.trans (bx.mono b01.size)
  have hlen : (cells8 l).length = 32 := by simp [cells8, hl]
  have HVL := hid hval
  have hvx := HV.out.up b0x
  clear hval b1 HL hG0 bx b01
  go_wp2_with fail
  have rxd : Rd8 wx.drew wx.drew.heap.size (some ⟨w1.heap.size, 0, none⟩) 32 l := ⟨rx.len, rx.lt, rx.cells⟩
  have cv1 := conv8l rxd (by decide) 32
  have hvd : Dg wx.drew v X := hvx.up (Below.refl _ _).drew
  clear hst hlen hvx
  go_region_with (
    (go_at_call 25
     refine (ref2Bytes_c v X _ hvd).mono ?_
     rintro e w2 ⟨A2, c2, l2, rfl, hc2, r2, v2, b2⟩
     have cv2 := conv8l r2 (by decide) c2
     have cv3 := conv8l (rxd.up b2 (Nat.le_refl _)) (by decide) 32
     have hse := str_val (hl.trans r2.len.symm) hlt r2.lt
     rw [HVL.out, v2, Nat.mod_eq_of_lt HX.out, ← HQ.out] at hse
     clear v2))
  all_goals
    have R := hid (bchain b0x (Below.trans ((Below.refl _ wx).drew) b2))
    go_wp2
    go_ret
    exact ⟨rfl, R.out⟩
end Go.Proofs.YtpjjobophplleaaDoor
/-
  avouchref01's and avouchref02's small functions, by the numbers that their digits are (Dg).
-/
namespace Go.Proofs.YtpjjobophplleaaDoor
open Go.RowKit
set_option linter.unusedVariables false

theorem lt_big {X : Nat} (h : X < 4294967296 ^ 20) : X < 4294967296 ^ bigE := Nat.lt_of_lt_of_le h (Nat.pow_le_pow_right (by decide) (by decide))
theorem p_big {X : Nat} (h : X < pN) : X < 4294967296 ^ 20 := Nat.lt_of_lt_of_le h (Nat.le_of_lt (by decide))
def pL : List Nat := [4026531841, 1138881939, 2042196113, 674490440, 2172737629, 3092268470, 3778125865, 811880050]
theorem p2_c (w : World) : Calls Tryd.prog 22 #[] w fun e w' => ∃ r, e = .returned r ∧ Dg w' r pN ∧ Below w.heap.size w w' := by
  have R : Hid (Dg (w.alloc (.cells #[.int .u64 4026531841, .int .u64 1138881939, .int .u64 2042196113, .int .u64 674490440, .int .u64 2172737629, .int .u64 3092268470, .int .u64 3778125865, .int .u64 811880050] 36)) (.slice (some ⟨w.heap.size, 0, none⟩) 8 8) pN) := by
    refine ⟨some ⟨w.heap.size, 0, none⟩, 8, pL, rfl, by decide, by decide, ?_, ?_, Or.inr (by decide), by decide⟩
    · have hB : BlkW (w.alloc (.cells #[.int .u64 4026531841, .int .u64 1138881939, .int .u64 2042196113, .int .u64 674490440, .int .u64 2172737629, .int .u64 3092268470, .int .u64 3778125865, .int .u64 811880050] 36)) w.heap.size 36 pL :=
        ⟨heap_alloc_new w _, by intro x hx; simp only [pL, List.mem_cons, List.not_mem_nil, or_false] at hx; omega⟩
      have rd := hB.rd (off := 0) (n := pL.length) (by omega) hB.size
      rw [List.drop_zero, List.take_length] at rd
      exact rd
    · intro x hx; simp only [pL, List.mem_cons, List.not_mem_nil, or_false] at hx; omega
  go_enter Tryd.func22, Tryd.ntmps22
  go_wp2
  go_ret
  exact ⟨_, rfl, R.out, by go_grown⟩

theorem dCmp_c (u v : Value) (X Y : Nat) (w : World) (hu : Dg w u X) (hv : Dg w v Y) :
    Calls Tryd.prog 21 #[u, v] w fun e w' => e = .returned (.int .i64 (cmpN X Y)) ∧ w = w' := by
  obtain ⟨A, c, l, rfl, h1, h2, h3, h4, h5, h6⟩ := hu
  obtain ⟨A', c', l', rfl, k1, k2, k3, k4, k5, k6⟩ := hv
  refine (refCmp_c A A' l.length l'.length c c' l l' w _ h3 k3 h4 k4 (by omega) (by omega)).mono ?_
  rintro e w' ⟨rfl, rfl⟩
  rw [h6, k6]
  exact ⟨rfl, rfl⟩
end Go.Proofs.YtpjjobophplleaaDoor
