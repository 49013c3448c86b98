import Derived.Test.YtdepkfdceidikaaGreatDoorFldH
import Derived.Test.YtdepkfdceidikaaGreatDoorFldJ
import Derived.Test.YtdepkfdceidikaaGreatDoorFNum
import Derived.Test.YtdepkfdceidikaaGreatDoorAgg
import Derived.Deep.RegionWith
import Derived.Laws.BytesArg
import Derived.Test.YtdepkfdceidikaaGreatDoorLOpsC
/-
  avouchlaw02.speaks: the document's example holds.
-/
namespace Go.Proofs.YtdepkfdceidikaaGreatDoor
open Go.RowKit
set_option linter.unusedVariables false

/-- 32 bytes of a value that came back, laid into a new variable. -/
theorem new32 (w : World) (l : List Nat) (hl : l.length = 32) (hlt : allLt8 l) :
    ∃ wx, (storeCells ⟨w.heap.size, 0, none⟩ (cells8 l)).run Tryz.prog (w.alloc (.cells #[.int .u8 0, .int .u8 0, .int .u8 0, .int .u8 0, .int .u8 0, .int .u8 0, .int .u8 0, .int .u8 0, .int .u8 0, .int .u8 0, .int .u8 0, .int .u8 0, .int .u8 0, .int .u8 0, .int .u8 0, .int .u8 0, .int .u8 0, .int .u8 0, .int .u8 0, .int .u8 0, .int .u8 0, .int .u8 0, .int .u8 0, .int .u8 0, .int .u8 0, .int .u8 0, .int .u8 0, .int .u8 0, .int .u8 0, .int .u8 0, .int .u8 0, .int .u8 0] 90)) = .ok () wx ∧ Rd8 wx wx.heap.size (some ⟨w.heap.size, 0, none⟩) 32 l ∧ Below w.heap.size w wx := by
  have hB := o32_new w 90
  have hth := hB.there
  have hb : Below w.heap.size w ((w.alloc (o32 90)).setCells w.heap.size 0 (cells8 l)) := below_cells (Nat.le_refl _) _ _ _ ((Below.refl _ _).alloc (Nat.le_refl _) _)
  refine ⟨(w.alloc (o32 90)).setCells w.heap.size 0 (cells8 l), store8 w.heap.size l (w.alloc (o32 90)) (by rw [hl]; exact hth), ?_, hb⟩
  have hr := World.rangeAt_setCells_same (w.alloc (o32 90)) w.heap.size 0 (cells8 l) (by rw [show (cells8 l).length = 32 by simp [cells8, hl]]; exact hth)
  have hs : w.heap.size < ((w.alloc (o32 90)).setCells w.heap.size 0 (cells8 l)).heap.size := by
    have h1 := (below_cells (B := 0) (b := w.heap.size) (Nat.zero_le _) (cells8 l) 0 _ (Below.refl 0 (w.alloc (o32 90)))).size
    have h2 : (w.alloc (o32 90)).heap.size = w.heap.size + 1 := by simp
    omega
  have := rd8_range hr hlt hs
  rw [hl] at this
  exact this

end Go.Proofs.YtdepkfdceidikaaGreatDoor
/-
  avouchref02.Bytes, avouchlaw02.Is: what each call does.
-/
namespace Go.Proofs.YtdepkfdceidikaaGreatDoor
open Go.RowKit
set_option linter.unusedVariables false

theorem ref2Bytes_c (v : Value) (X : Nat) (w : World) (hv : Dg w v X) :
    Calls Tryz.prog 42 #[v] w fun e w' => Bts w e w' 32 (X % 115792089237316195423570985008687907853269984665640564039457584007913129639936) := by
  obtain ⟨A, c, l, rfl, h1, h2, h3, h4, h5, h6⟩ := hv
  go_enter Tryz.func42, Tryz.ntmps42
  go_wp2_with fail
  refine (words_c A l.length c l 4 4 rfl w h3 h4 (by decide)).mono ?_
  rintro e w1 ⟨A1, c1, l1, rfl, hc1, r1, v1, b1⟩
  go_wp2_with fail
  refine (refBytes_c A1 4 c1 l1 w1 r1 (by decide)).mono ?_
  rintro e w2 ⟨A2, c2, l2, rfl, hc2, r2, v2, b2⟩
  rw [v1, h6, show (18446744073709551616 : Nat) ^ 4 = 115792089237316195423570985008687907853269984665640564039457584007913129639936 by decide] at v2
  have R : Hid (Bts w (.returned (.slice A2 (8 * 4) c2)) w2 (8 * 4) (X % 115792089237316195423570985008687907853269984665640564039457584007913129639936)) := hid ⟨A2, c2, l2, rfl, hc2, r2, v2, bchain b1 b2⟩
  clear v1 v2 h6 h4 h5 r1 r2 hc2
  go_wp2
  go_ret
  exact R.out

set_option maxRecDepth 20000 in
set_option maxHeartbeats 4000000 in
theorem is_c (u v : Value) (x X : Nat) (w : World) (hu : El u x) (hv : Dg w v X) (hX : X < 115792089237316195423570985008687907853269984665640564039457584007913129639936) (hG : Glob w) :
    Calls Tryz.prog 18 #[u, v] w fun e w' => e = .returned (.bool (decide (x = X))) ∧ Below w.heap.size w w' := by
  have HU := hid hu
  obtain ⟨a0, a1, a2, a3, rfl, -, -, -⟩ := hu
  have hl0 := (Below.refl w.heap.size w).alloc (Nat.le_refl _) (o4 37 a0 a1 a2 a3)
  have hG0 := hG.up hl0
  have HL := hid hl0
  have HV := hid hv
  have HX := hid hX
  obtain ⟨q, hq⟩ : ∃ q, q = decide (x = X) := ⟨_, rfl⟩
  rw [← hq]
  have HQ := hid hq
  clear hl0 hv hX hq
  unfold w4
  go_enter Tryz.func18, Tryz.ntmps18
  go_wp2_with fail
  refine (ebytes_c _ x _ HU.out hG0).mono ?_
  rintro e w1 ⟨r, rfl, hr, b1⟩
  obtain ⟨l, rfl, hl, hlt, hval⟩ := hr
  have b01 := HL.out.trans (Below.mono (B' := w.heap.size) b1 HL.out.size)
  obtain ⟨wx, hst, rx, bx⟩ := new32 w1 l hl hlt
  have b0x := b01.trans (bx.mono b01.size)
  have hlen : (cells8 l).length = 32 := by simp [cells8, hl]
  have HVL := hid hval
  have hvx := HV.out.up b0x
  clear hval b1 HL hG0 bx b01
  go_wp2_with fail
  have rxd : Rd8 wx.drew wx.drew.heap.size (some ⟨w1.heap.size, 0, none⟩) 32 l := ⟨rx.len, rx.lt, rx.cells⟩
  have cv1 := conv8l rxd (by decide) 32
  have hvd : Dg wx.drew v X := hvx.up (Below.refl _ _).drew
  clear hst hlen hvx
  go_region_with (
    (go_at_call 42
     refine (ref2Bytes_c v X _ hvd).mono ?_
     rintro e w2 ⟨A2, c2, l2, rfl, hc2, r2, v2, b2⟩
     have cv2 := conv8l r2 (by decide) c2
     have cv3 := conv8l (rxd.up b2 (Nat.le_refl _)) (by decide) 32
     have hse := str_val (hl.trans r2.len.symm) hlt r2.lt
     rw [HVL.out, v2, Nat.mod_eq_of_lt HX.out, ← HQ.out] at hse
     clear v2))
  all_goals
    have R := hid (bchain b0x (Below.trans ((Below.refl _ wx).drew) b2))
    go_wp2
    go_ret
    exact ⟨rfl, R.out⟩
end Go.Proofs.YtdepkfdceidikaaGreatDoor
/-
  avouchref01's and avouchref02's small functions, by the numbers that their digits are (Dg).
-/
namespace Go.Proofs.YtdepkfdceidikaaGreatDoor
open Go.RowKit
set_option linter.unusedVariables false

theorem lt_big {X : Nat} (h : X < 4294967296 ^ 20) : X < 4294967296 ^ bigE := Nat.lt_of_lt_of_le h (Nat.pow_le_pow_right (by decide) (by decide))
theorem p_big {X : Nat} (h : X < pN) : X < 4294967296 ^ 20 := Nat.lt_of_lt_of_le h (Nat.le_of_lt (by decide))
def pL : List Nat := [4026531841, 1138881939, 2042196113, 674490440, 2172737629, 3092268470, 3778125865, 811880050]
theorem p2_c (w : World) : Calls Tryz.prog 57 #[] w fun e w' => ∃ r, e = .returned r ∧ Dg w' r pN ∧ Below w.heap.size w w' := by
  have R : Hid (Dg (w.alloc (.cells #[.int .u64 4026531841, .int .u64 1138881939, .int .u64 2042196113, .int .u64 674490440, .int .u64 2172737629, .int .u64 3092268470, .int .u64 3778125865, .int .u64 811880050] 34)) (.slice (some ⟨w.heap.size, 0, none⟩) 8 8) pN) := by
    refine ⟨some ⟨w.heap.size, 0, none⟩, 8, pL, rfl, by decide, by decide, ?_, ?_, Or.inr (by decide), by decide⟩
    · have hB : BlkW (w.alloc (.cells #[.int .u64 4026531841, .int .u64 1138881939, .int .u64 2042196113, .int .u64 674490440, .int .u64 2172737629, .int .u64 3092268470, .int .u64 3778125865, .int .u64 811880050] 34)) w.heap.size 34 pL :=
        ⟨heap_alloc_new w _, by intro x hx; simp only [pL, List.mem_cons, List.not_mem_nil, or_false] at hx; omega⟩
      have rd := hB.rd (off := 0) (n := pL.length) (by omega) hB.size
      rw [List.drop_zero, List.take_length] at rd
      exact rd
    · intro x hx; simp only [pL, List.mem_cons, List.not_mem_nil, or_false] at hx; omega
  go_enter Tryz.func57, Tryz.ntmps57
  go_wp2
  go_ret
  exact ⟨_, rfl, R.out, by go_grown⟩

theorem dAdd_c (u v : Value) (X Y : Nat) (w : World) (hu : Dg w u X) (hv : Dg w v Y) (hR : X + Y < 4294967296 ^ 20) :
    Calls Tryz.prog 67 #[u, v] w fun e w' => ∃ r, e = .returned r ∧ Dg w' r (X + Y) ∧ Below w.heap.size w w' := by
  obtain ⟨A, c, l, rfl, h1, h2, h3, h4, h5, h6⟩ := hu
  obtain ⟨A', c', l', rfl, k1, k2, k3, k4, k5, k6⟩ := hv
  refine (refAdd_c A A' l.length l'.length c c' l l' w h3 k3 h4 k4 (by omega) (by omega)).mono ?_
  intro e w' h
  rw [h6, k6] at h
  exact Dg.of h (lt_big hR)
theorem dSub_c (u v : Value) (X Y : Nat) (w : World) (hu : Dg w u X) (hv : Dg w v Y) (hle : Y ≤ X) (hR : X < 4294967296 ^ 20) :
    Calls Tryz.prog 68 #[u, v] w fun e w' => ∃ r, e = .returned r ∧ Dg w' r (X - Y) ∧ Below w.heap.size w w' := by
  obtain ⟨A, c, l, rfl, h1, h2, h3, h4, h5, h6⟩ := hu
  obtain ⟨A', c', l', rfl, k1, k2, k3, k4, k5, k6⟩ := hv
  refine (refSub_c A A' l.length l'.length c c' l l' w h3 k3 h4 k4 (by omega) (by rw [h6, k6]; exact hle)).mono ?_
  intro e w' h
  rw [h6, k6] at h
  exact Dg.of h (lt_big (Nat.lt_of_le_of_lt (Nat.sub_le _ _) hR))
theorem dCmp_c (u v : Value) (X Y : Nat) (w : World) (hu : Dg w u X) (hv : Dg w v Y) :
    Calls Tryz.prog 56 #[u, v] w fun e w' => e = .returned (.int .i64 (cmpN X Y)) ∧ w = w' := by
  obtain ⟨A, c, l, rfl, h1, h2, h3, h4, h5, h6⟩ := hu
  obtain ⟨A', c', l', rfl, k1, k2, k3, k4, k5, k6⟩ := hv
  refine (refCmp_c A A' l.length l'.length c c' l l' w _ h3 k3 h4 k4 (by omega) (by omega)).mono ?_
  rintro e w' ⟨rfl, rfl⟩
  rw [h6, k6]
  exact ⟨rfl, rfl⟩
theorem dMod_c (u : Value) (X : Nat) (w : World) (hu : Dg w u X) (hX : X < 4294967296 ^ 30) :
    Calls Tryz.prog 31 #[u] w fun e w' => ∃ r, e = .returned r ∧ Dg w' r (X % pN) ∧ Below w.heap.size w w' := by
  obtain ⟨A, c, l, rfl, h1, h2, h3, h4, h5, h6⟩ := hu
  have hl : l.length ≤ 1000 := Nat.le_trans (len_of_lt (n := 30) h4 h5 (by rw [h6]; exact hX)) (by decide)
  have HX := hid h6
  clear h6 hX
  go_enter Tryz.func31, Tryz.ntmps31
  go_wp2_with fail
  refine (p2_c w).mono ?_
  rintro e w1 ⟨r, rfl, hr, b1⟩
  obtain ⟨A', c', l', rfl, k1, k2, k3, k4, k5, k6⟩ := hr
  have hl' : l'.length ≤ 1000 := Nat.le_trans (len_of_lt (n := 20) k4 k5 (by rw [k6]; decide)) (by decide)
  have K6 := hid k6
  clear k6
  go_wp2_with fail
  refine (mod_c A A' l.length l'.length c c' l l' w1 (h3.up b1 (Nat.le_refl _)) k3 h4 k4 hl hl' (by rw [K6.out]; decide)).mono ?_
  intro e w2 h
  rw [HX.out, K6.out] at h
  obtain ⟨v, rfl, hv, b2⟩ := Dg.of h (lt_big (p_big (Nat.mod_lt _ pN_pos)))
  have R := hid hv
  clear hv h
  go_wp2
  go_ret
  exact ⟨_, rfl, R.out, bchain b1 b2⟩
theorem dOfBytes_c (A : Option Addr) (n c : Nat) (b : List Nat) (w : World) (ha : Rd8 w w.heap.size A n b) (hn : n ≤ 1000) :
    Calls Tryz.prog 32 #[.slice A n c] w fun e w' => ∃ r, e = .returned r ∧ Dg w' r (val 256 b) ∧ Below w.heap.size w w' := by
  refine (ofBytes_c A n c b w ha hn).mono ?_
  intro e w' h
  refine Dg.of h ?_
  have h1 := val_lt 256 (by decide) b ha.lt
  rw [ha.len] at h1
  refine Nat.lt_of_lt_of_le h1 ?_
  rw [show (4294967296 : Nat) = 256 ^ 4 by decide, ← Nat.pow_mul]
  exact Nat.pow_le_pow_right (by decide) (by unfold bigE; omega)
end Go.Proofs.YtdepkfdceidikaaGreatDoor
/-
  avouchref02's rows of nine digits: rowOf, reaches, minus, more: what each call does.
-/
namespace Go.Proofs.YtdepkfdceidikaaGreatDoor
open Go.RowKit
set_option linter.unusedVariables false

theorem size9 : (Tryz.prog.info? 141).map (·.size) = some 9 := by kernel_rfl
/-- Two rows in memory, and a place for the result. -/
theorem three9 (w : World) (la lb : List Nat) (ha : allLt la) (hb : allLt lb) :
    BlkW (((w.alloc (.cells (cellsOf64 la).toArray 141)).alloc (.cells (cellsOf64 lb).toArray 141)).alloc (.cells #[.int .u64 0, .int .u64 0, .int .u64 0, .int .u64 0, .int .u64 0, .int .u64 0, .int .u64 0, .int .u64 0, .int .u64 0] 141)) w.heap.size 141 la ∧
    BlkW (((w.alloc (.cells (cellsOf64 la).toArray 141)).alloc (.cells (cellsOf64 lb).toArray 141)).alloc (.cells #[.int .u64 0, .int .u64 0, .int .u64 0, .int .u64 0, .int .u64 0, .int .u64 0, .int .u64 0, .int .u64 0, .int .u64 0] 141)) (w.heap.size + 1) 141 lb ∧
    BlkW (((w.alloc (.cells (cellsOf64 la).toArray 141)).alloc (.cells (cellsOf64 lb).toArray 141)).alloc (.cells #[.int .u64 0, .int .u64 0, .int .u64 0, .int .u64 0, .int .u64 0, .int .u64 0, .int .u64 0, .int .u64 0, .int .u64 0] 141)) (w.heap.size + 1 + 1) 141 (List.replicate 9 0) := by
  have e1 : (w.alloc (.cells (cellsOf64 la).toArray 141)).heap.size = w.heap.size + 1 := by simp
  have e2 : ((w.alloc (.cells (cellsOf64 la).toArray 141)).alloc (.cells (cellsOf64 lb).toArray 141)).heap.size = w.heap.size + 1 + 1 := by simp
  have h2 := (BlkW.new64 (w.alloc (.cells (cellsOf64 la).toArray 141)) 141 lb hb).alloc (.cells #[.int .u64 0, .int .u64 0, .int .u64 0, .int .u64 0, .int .u64 0, .int .u64 0, .int .u64 0, .int .u64 0, .int .u64 0] 141)
  have h3 := BlkW.new64 ((w.alloc (.cells (cellsOf64 la).toArray 141)).alloc (.cells (cellsOf64 lb).toArray 141)) 141 (List.replicate 9 0) (zeros_all 9)
  rw [e1] at h2
  rw [e2] at h3
  exact ⟨((BlkW.new64 w 141 la ha).alloc _).alloc _, h2, h3⟩

/-- The relation of minus' loop. -/
def MiRel (w : World) (la lb : List Nat) (wr : World) (k q : Nat) : Prop :=
  ∃ ws : List Nat, ws.length = 9 ∧ D32 ws ∧ BlkW wr w.heap.size 141 ws ∧ BlkW wr (w.heap.size + 1) 141 lb ∧ BlkW wr (w.heap.size + 1 + 1) 141 (List.replicate 9 0) ∧ Below w.heap.size w wr ∧ q ≤ 1 ∧
    (∀ j, k ≤ j → ws.getD j 0 = la.getD j 0) ∧ pv 4294967296 ws k + pv 4294967296 lb k = pv 4294967296 la k + q * 4294967296 ^ k
theorem minus_end {la lb ws : List Nat} {q : Nat} (ha : la.length = 9) (hb : lb.length = 9) (hw : ws.length = 9) (da : D32 la) (dw : D32 ws) (hle : val 4294967296 lb ≤ val 4294967296 la) (hq : q ≤ 1)
    (h : pv 4294967296 ws 9 + pv 4294967296 lb 9 = pv 4294967296 la 9 + q * 4294967296 ^ 9) : val 4294967296 ws = val 4294967296 la - val 4294967296 lb := by
  rw [pv_out _ ws 9 (by omega), pv_out _ lb 9 (by omega), pv_out _ la 9 (by omega)] at h
  have b := val_lt _ (by decide) ws dw
  rw [hw] at b
  have : q = 0 ∨ q = 1 := by omega
  rcases this with rfl | rfl
  · omega
  · omega

set_option maxRecDepth 20000 in
set_option maxHeartbeats 4000000 in
theorem minus_c (la lb : List Nat) (w : World) (ha : la.length = 9) (hb : lb.length = 9) (da : D32 la) (db : D32 lb) (hle : Hid (val 4294967296 lb ≤ val 4294967296 la)) :
    Calls Tryz.prog 100 #[.agg (cellsOf64 la).toArray, .agg (cellsOf64 lb).toArray] w fun e w' => ∃ l, e = .returned (.agg (cellsOf64 l).toArray) ∧ l.length = 9 ∧ D32 l ∧ val 4294967296 l = val 4294967296 la - val 4294967296 lb ∧ Below w.heap.size w w' := by
  have hla : (cellsOf64 la).length = 9 := by simp [cellsOf64, ha]
  have hlb : (cellsOf64 lb).length = 9 := by simp [cellsOf64, hb]
  have T := hid (three9 w la lb (d32_all da) (d32_all db))
  have HA := hid ha
  have HB := hid hb
  clear ha hb
  go_enter Tryz.func100, Tryz.ntmps100
  go_wp2
  clear hla hlb
  go_loopw [5, 6] (fun c i wr => ∃ k q : Nat, k ≤ 9 ∧ i = .int .i64 k ∧ c = .int .u64 q ∧ MiRel w la lb wr k q) (fun _ i _ => 9 - (intOf i).toNat)
  case atStart =>
    obtain ⟨t1, t2, t3⟩ := T.out
    exact ⟨0, 0, by omega, rfl, rfl, la, HA.out, da, t1, t2, t3, by go_grown, by omega, fun _ _ => rfl, by simp [pv]⟩
  case round =>
    obtain ⟨k, q, hk, rfl, rfl, ws, hl, dw, hA, hB, hR, hbl, hq, hj, he⟩ := hrel
    clear T
    by_cases hlt : k < 9
    · have ca := hA.cell (i := k) (by omega)
      have hgd : at64 ws k = at64 la k := by unfold at64; rw [hj k (Nat.le_refl _)]
      rw [hgd] at ca
      have cb := hB.cell (i := k) (by rw [HB.out]; omega)
      have fz := hA.frozen k
      have h1 := at64_nonneg la k
      have h1' := at64_d32 da k
      have h2 := at64_nonneg lb k
      have h2' := at64_d32 db k
      obtain ⟨g1, g2⟩ := rsub_word (la.getD k 0) (lb.getD k 0) q (by unfold at64 at h1'; omega) (by unfold at64 at h2'; omega) hq
      have HG := hid g1
      have HG2 := hid g2
      have e1 : IntKind.u64.wrap (4294967296 + at64 la k) = 4294967296 + at64 la k := by rw [IntKind.wrap_u64]; omega
      have e2 : IntKind.u64.wrap (4294967296 + at64 la k - at64 lb k) = 4294967296 + at64 la k - at64 lb k := by rw [IntKind.wrap_u64]; omega
      have e3 : IntKind.u64.wrap (4294967296 + at64 la k - at64 lb k - q) = 4294967296 + at64 la k - at64 lb k - q := by rw [IntKind.wrap_u64]; omega
      have hs0 : 0 ≤ 4294967296 + at64 la k - at64 lb k - q := by omega
      have k0 : (0 : Int) ≤ (k : Int) := by omega
      have k1 : (k : Int) < 9 := by omega
      have HL := hid hl
      have HJ := hid hj
      have HE := hid he
      clear g1 g2 hgd hl hj he
      go_wp2
      go_quiet (fail)
      clear e1 e2 e3
      have hA2 := hA.drewN nq
      have hB2 := hB.drewN nq
      have hR2 := hR.drewN nq
      have hbl2 := below_drewN hbl nq
      have ca2 := hA2.cell (i := k) (by rw [HL.out]; omega)
      have fz2 := hA2.frozen k
      generalize wr.drewN nq = w2 at hA2 hB2 hR2 hbl2 ca2 fz2 ⊢
      have HS : Hid (4294967296 + at64 la k - at64 lb k - q = ((4294967296 + la.getD k 0 - lb.getD k 0 - q : Nat) : Int)) := by show _ = _; unfold at64 at h1 h1' h2 h2' ⊢; omega
      have hs1 : 4294967296 + at64 la k - at64 lb k - q < 8589934592 := by omega
      generalize 4294967296 + at64 la k - at64 lb k - (q : Int) = S at hs0 HS hs1 ⊢
      clear hA hB hR hbl ca cb fz
      have hs2 : S / 4294967296 ≤ 1 := by omega
      have hs3 : 0 ≤ S / 4294967296 := by omega
      go_wp2
      go_roundw
      case rel =>
        refine ⟨k + 1, 1 - (4294967296 + la.getD k 0 - lb.getD k 0 - q) / 4294967296, by omega, by go_num, ?_, ws.set k ((4294967296 + la.getD k 0 - lb.getD k 0 - q) % 4294967296), by rw [List.length_set]; exact HL.out, d32_set dw _ _ (by omega), ?_, hB2.otherC (by omega), hR2.otherC (by omega), hbl2.setCell (by show w.heap.size ≤ w.heap.size; omega) _, HG2.out, ?_, ?_⟩
        · have hN : 4294967296 + la.getD k 0 - lb.getD k 0 - q < 8589934592 := by unfold at64 at h1'; omega
          rw [HS.out]; go_num
        · exact hA2.setI k _ _ (by omega) (by rw [HS.out]; omega)
        · intro j hj
          rw [getD_set_ne _ _ _ _ (by omega)]
          exact HJ.out j (by omega)
        · rw [pv_set_succ _ _ _ _ (by rw [HL.out]; omega), pv_succ, pv_succ, Nat.pow_succ]
          exact sub_step _ _ _ _ q _ _ _ _ _ HE.out HG.out
      case measure => simp [intOf]; omega
    · have : k = 9 := by omega
      subst this
      have HV := hid (minus_end HA.out HB.out hl da dw hle.out hq he)
      have hlen : (cellsOf64 ws).length = 9 := by simp [cellsOf64, hl]
      have hst := store64 (w.heap.size + 1 + 1) ws wr (by rw [hl]; exact hR.there)
      have hran := hid (World.rangeAt_setCells_same wr (w.heap.size + 1 + 1) 0 (cellsOf64 ws) (by rw [hlen]; exact hR.there))
      have HO := hid hA.range
      have HLE := hid hlen
      have HL := hid hl
      clear hl hA hB hR he hj
      go_wp2_with (with_reducible refine wpList_load_mid rfl 141 (.tmp 2) rfl (w.heap.size) 0 rfl (cellsOf64 ws) _ HO.out Tryz.underlying141 rfl (size9.trans (congrArg some HLE.out.symm)) ?_)
      refine bodyPost_ret (results_cell1 Tryz.results100 ⟨w.heap.size + 1 + 1, 0, none⟩ _ rfl (run_loadVar_mid _ (w.heap.size + 1 + 1) 0 141 (cellsOf64 ws) _ hran.out Tryz.underlying141 rfl (size9.trans (congrArg some HLE.out.symm)))) rfl ?_
      exact ⟨ws, rfl, HL.out, dw, HV.out, below_cells (by omega) _ _ _ hbl⟩

/-- The relation of more's loop. -/
def MoRel (w : World) (la lb : List Nat) (t : Nat) (wr : World) (k q : Nat) : Prop :=
  ∃ ws : List Nat, ws.length = 9 ∧ D32 ws ∧ BlkW wr w.heap.size 141 ws ∧ BlkW wr (w.heap.size + 1) 141 lb ∧ BlkW wr (w.heap.size + 1 + 1) 141 (List.replicate 9 0) ∧ Below w.heap.size w wr ∧ q < 512 ∧
    (∀ j, k ≤ j → ws.getD j 0 = la.getD j 0) ∧ pv 4294967296 ws k + q * 4294967296 ^ k = 256 * pv 4294967296 la k + t * pv 4294967296 lb k
theorem more_step (W p q r c s c' x y t P : Nat) (h : r + c * P = 256 * p + t * q) (e : s + c' * W = x * 256 + y * t + c) : (r + s * P) + c' * (P * W) = 256 * (p + x * P) + t * (q + y * P) := by
  have : (s + c' * W) * P = (x * 256 + y * t + c) * P := by rw [e]
  grind
theorem carry_a (S : Int) (N : Nat) (h : S = (N : Int)) (hN : N < 2199023255552) : S / 4294967296 = ((N / 4294967296 : Nat) : Int) := by subst h; omega
theorem carry_b (S : Int) (N : Nat) (h : S = (N : Int)) (hN : N < 2199023255552) : IntKind.u64.wrap (S / 4294967296) = ((N / 4294967296 : Nat) : Int) := by subst h; rw [IntKind.wrap_u64]; omega
theorem carry_c (S : Int) (N : Nat) (h : S = (N : Int)) (hN : N < 2199023255552) : IntKind.u64.wrap (S.tdiv 4294967296) = ((N / 4294967296 : Nat) : Int) := by
  subst h; rw [IntKind.wrap_u64, Int.tdiv_eq_ediv_of_nonneg (by omega)]; omega
theorem more_end {la lb ws : List Nat} {q t : Nat} (ha : la.length = 9) (hb : lb.length = 9) (hw : ws.length = 9) (dw : D32 ws) (hlt : 256 * val 4294967296 la + t * val 4294967296 lb < 4294967296 ^ 9)
    (h : pv 4294967296 ws 9 + q * 4294967296 ^ 9 = 256 * pv 4294967296 la 9 + t * pv 4294967296 lb 9) : val 4294967296 ws = 256 * val 4294967296 la + t * val 4294967296 lb := by
  rw [pv_out _ ws 9 (by omega), pv_out _ lb 9 (by omega), pv_out _ la 9 (by omega)] at h
  generalize 256 * val 4294967296 la + t * val 4294967296 lb = S at *
  have : q = 0 := by omega
  subst this
  omega

set_option maxRecDepth 20000 in
set_option maxHeartbeats 4000000 in
theorem more_c (la lb : List Nat) (t : Nat) (w : World) (ha : la.length = 9) (hb : lb.length = 9) (da : D32 la) (db : D32 lb) (ht : t < 256) (hlt : Hid (256 * val 4294967296 la + t * val 4294967296 lb < 4294967296 ^ 9)) :
    Calls Tryz.prog 98 #[.agg (cellsOf64 la).toArray, .agg (cellsOf64 lb).toArray, .int .u64 (t : Int)] w fun e w' => ∃ l, e = .returned (.agg (cellsOf64 l).toArray) ∧ l.length = 9 ∧ D32 l ∧ val 4294967296 l = 256 * val 4294967296 la + t * val 4294967296 lb ∧ Below w.heap.size w w' := by
  have hla : (cellsOf64 la).length = 9 := by simp [cellsOf64, ha]
  have hlb : (cellsOf64 lb).length = 9 := by simp [cellsOf64, hb]
  have T := hid (three9 w la lb (d32_all da) (d32_all db))
  have HA := hid ha
  have HB := hid hb
  clear ha hb
  go_enter Tryz.func98, Tryz.ntmps98
  go_wp2
  clear hla hlb
  go_loopw [7, 8] (fun c i wr => ∃ k q : Nat, k ≤ 9 ∧ i = .int .i64 k ∧ c = .int .u64 q ∧ MoRel w la lb t wr k q) (fun _ i _ => 9 - (intOf i).toNat)
  case atStart =>
    obtain ⟨t1, t2, t3⟩ := T.out
    exact ⟨0, 0, by omega, rfl, rfl, la, HA.out, da, t1, t2, t3, by go_grown, by omega, fun _ _ => rfl, by simp [pv]⟩
  case round =>
    obtain ⟨k, q, hk, rfl, rfl, ws, hl, dw, hA, hB, hR, hbl, hq, hj, he⟩ := hrel
    clear T
    by_cases hlt9 : k < 9
    · have ca := hA.cell (i := k) (by omega)
      have hgd : at64 ws k = at64 la k := by unfold at64; rw [hj k (Nat.le_refl _)]
      rw [hgd] at ca
      have cb := hB.cell (i := k) (by rw [HB.out]; omega)
      have h1 := at64_nonneg la k
      have h1' := at64_d32 da k
      have h2 := at64_nonneg lb k
      have h2' := at64_d32 db k
      have hbt : lb.getD k 0 * t ≤ 4294967295 * 255 := Nat.mul_le_mul (by unfold at64 at h2'; omega) (by omega)
      have HS : Hid (at64 la k * 256 + at64 lb k * (t : Int) + (q : Int) = ((la.getD k 0 * 256 + lb.getD k 0 * t + q : Nat) : Int)) := by show _ = _; unfold at64; simp
      have HN : Hid (la.getD k 0 * 256 + lb.getD k 0 * t + q < 2199023255552) := by show _ < _; unfold at64 at h1'; omega
      have hbI : at64 lb k * (t : Int) = ((lb.getD k 0 * t : Nat) : Int) := by unfold at64; simp
      have e1 : IntKind.u64.wrap (at64 la k * 256) = at64 la k * 256 := by rw [IntKind.wrap_u64]; omega
      have e2 : IntKind.u64.wrap (at64 lb k * (t : Int)) = at64 lb k * (t : Int) := by rw [IntKind.wrap_u64, hbI]; omega
      have e3 : IntKind.u64.wrap (at64 la k * 256 + at64 lb k * (t : Int)) = at64 la k * 256 + at64 lb k * (t : Int) := by rw [IntKind.wrap_u64, hbI]; omega
      have e4 : IntKind.u64.wrap (at64 la k * 256 + at64 lb k * (t : Int) + (q : Int)) = at64 la k * 256 + at64 lb k * (t : Int) + (q : Int) := by rw [IntKind.wrap_u64, hbI]; omega
      have k0 : (0 : Int) ≤ (k : Int) := by omega
      have k1 : (k : Int) < 9 := by omega
      have HL := hid hl
      have HJ := hid hj
      have HE := hid he
      clear hgd hl hj he hbI hbt
      go_wp2
      go_quiet (fail)
      clear e1 e2 e3 e4
      have hA2 := hA.drewN nq
      have hB2 := hB.drewN nq
      have hR2 := hR.drewN nq
      have hbl2 := below_drewN hbl nq
      have ca2 := hA2.cell (i := k) (by rw [HL.out]; omega)
      have fz2 := hA2.frozen k
      generalize wr.drewN nq = w2 at hA2 hB2 hR2 hbl2 ca2 fz2 ⊢
      have hs0 : 0 ≤ at64 la k * 256 + at64 lb k * (t : Int) + (q : Int) := by rw [HS.out]; omega
      generalize at64 la k * 256 + at64 lb k * (t : Int) + (q : Int) = S at hs0 HS ⊢
      clear hA hB hR hbl ca cb
      go_wp2
      go_roundw
      case rel =>
        have hN := HN.out
        refine ⟨k + 1, (la.getD k 0 * 256 + lb.getD k 0 * t + q) / 4294967296, by omega, by go_num, ?_, ws.set k ((la.getD k 0 * 256 + lb.getD k 0 * t + q) % 4294967296), by rw [List.length_set]; exact HL.out, d32_set dw _ _ (by omega), ?_, hB2.otherC (by omega), hR2.otherC (by omega), hbl2.setCell (by show w.heap.size ≤ w.heap.size; omega) _, by omega, ?_, ?_⟩
        · first
          | exact congrArg (Value.int .u64) (carry_a S _ HS.out hN)
          | exact congrArg (Value.int .u64) (carry_b S _ HS.out hN)
          | exact congrArg (Value.int .u64) (carry_c S _ HS.out hN)
        · exact hA2.setI k _ _ (by omega) (by rw [HS.out]; omega)
        · intro j hj
          rw [getD_set_ne _ _ _ _ (by omega)]
          exact HJ.out j (by omega)
        · rw [pv_set_succ _ _ _ _ (by rw [HL.out]; omega), pv_succ, pv_succ, Nat.pow_succ]
          exact more_step _ _ _ _ q _ _ _ _ _ _ HE.out (by rw [Nat.mul_comm _ 4294967296]; exact Nat.mod_add_div _ _)
      case measure => simp [intOf]; omega
    · have : k = 9 := by omega
      subst this
      have HV := hid (more_end HA.out HB.out hl dw hlt.out he)
      have hlen : (cellsOf64 ws).length = 9 := by simp [cellsOf64, hl]
      have hst := store64 (w.heap.size + 1 + 1) ws wr (by rw [hl]; exact hR.there)
      have hran := hid (World.rangeAt_setCells_same wr (w.heap.size + 1 + 1) 0 (cellsOf64 ws) (by rw [hlen]; exact hR.there))
      have HO := hid hA.range
      have HLE := hid hlen
      have HL := hid hl
      clear hl hA hB hR he hj
      go_wp2_with (with_reducible refine wpList_load_mid rfl 141 (.tmp 3) rfl (w.heap.size) 0 rfl (cellsOf64 ws) _ HO.out Tryz.underlying141 rfl (size9.trans (congrArg some HLE.out.symm)) ?_)
      refine bodyPost_ret (results_cell1 Tryz.results98 ⟨w.heap.size + 1 + 1, 0, none⟩ _ rfl (run_loadVar_mid _ (w.heap.size + 1 + 1) 0 141 (cellsOf64 ws) _ hran.out Tryz.underlying141 rfl (size9.trans (congrArg some HLE.out.symm)))) rfl ?_
      exact ⟨ws, rfl, HL.out, dw, HV.out, below_cells (by omega) _ _ _ hbl⟩
end Go.Proofs.YtdepkfdceidikaaGreatDoor
