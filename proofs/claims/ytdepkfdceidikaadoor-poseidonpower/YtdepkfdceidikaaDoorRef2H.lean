import Derived.Test.YtdepkfdceidikaaDoorFldH
import Derived.Test.YtdepkfdceidikaaDoorFldJ
import Derived.Test.YtdepkfdceidikaaDoorFNum
import Derived.Test.YtdepkfdceidikaaDoorBlkV
import Derived.Deep.RegionWith
import Derived.Laws.BytesArg
import Derived.Test.YtdepkfdceidikaaDoorRefG
import Derived.StillTailTactics
import Derived.Deep.RegionHeld3
import Derived.Test.YtdepkfdceidikaaDoorLOpsC
/-
  avouchlaw02.speaks: the document's example holds.
-/
namespace Go.Proofs.YtdepkfdceidikaaDoor
open Go.RowKit
set_option linter.unusedVariables false

/-- 32 bytes of a value that came back, laid into a new variable. -/
theorem new32 (w : World) (l : List Nat) (hl : l.length = 32) (hlt : allLt8 l) :
    ∃ wx, (storeCells ⟨w.heap.size, 0, none⟩ (cells8 l)).run Tryd.prog (w.alloc (.cells #[.int .u8 0, .int .u8 0, .int .u8 0, .int .u8 0, .int .u8 0, .int .u8 0, .int .u8 0, .int .u8 0, .int .u8 0, .int .u8 0, .int .u8 0, .int .u8 0, .int .u8 0, .int .u8 0, .int .u8 0, .int .u8 0, .int .u8 0, .int .u8 0, .int .u8 0, .int .u8 0, .int .u8 0, .int .u8 0, .int .u8 0, .int .u8 0, .int .u8 0, .int .u8 0, .int .u8 0, .int .u8 0, .int .u8 0, .int .u8 0, .int .u8 0, .int .u8 0] 132)) = .ok () wx ∧ Rd8 wx wx.heap.size (some ⟨w.heap.size, 0, none⟩) 32 l ∧ Below w.heap.size w wx := by
  have hB := o32_new w 132
  have hth := hB.there
  have hb : Below w.heap.size w ((w.alloc (o32 132)).setCells w.heap.size 0 (cells8 l)) := below_cells (Nat.le_refl _) _ _ _ ((Below.refl _ _).alloc (Nat.le_refl _) _)
  refine ⟨(w.alloc (o32 132)).setCells w.heap.size 0 (cells8 l), store8 w.heap.size l (w.alloc (o32 132)) (by rw [hl]; exact hth), ?_, hb⟩
  have hr := World.rangeAt_setCells_same (w.alloc (o32 132)) w.heap.size 0 (cells8 l) (by rw [show (cells8 l).length = 32 by simp [cells8, hl]]; exact hth)
  have hs : w.heap.size < ((w.alloc (o32 132)).setCells w.heap.size 0 (cells8 l)).heap.size := by
    have h1 := (below_cells (B := 0) (b := w.heap.size) (Nat.zero_le _) (cells8 l) 0 _ (Below.refl 0 (w.alloc (o32 132)))).size
    have h2 : (w.alloc (o32 132)).heap.size = w.heap.size + 1 := by simp
    omega
  have := rd8_range hr hlt hs
  rw [hl] at this
  exact this

end Go.Proofs.YtdepkfdceidikaaDoor
/-
  avouchref02.Bytes, avouchlaw02.Is: what each call does.
-/
namespace Go.Proofs.YtdepkfdceidikaaDoor
open Go.RowKit
set_option linter.unusedVariables false

end Go.Proofs.YtdepkfdceidikaaDoor
/-
  avouchref01's and avouchref02's small functions, by the numbers that their digits are (Dg).
-/
namespace Go.Proofs.YtdepkfdceidikaaDoor
open Go.RowKit
set_option linter.unusedVariables false

theorem lt_big {X : Nat} (h : X < 4294967296 ^ 20) : X < 4294967296 ^ bigE := Nat.lt_of_lt_of_le h (Nat.pow_le_pow_right (by decide) (by decide))
theorem p_big {X : Nat} (h : X < pN) : X < 4294967296 ^ 20 := Nat.lt_of_lt_of_le h (Nat.le_of_lt (by decide))
def pL : List Nat := [4026531841, 1138881939, 2042196113, 674490440, 2172737629, 3092268470, 3778125865, 811880050]
theorem p2_c (w : World) : Calls Tryd.prog 54 #[] w fun e w' => ∃ r, e = .returned r ∧ Dg w' r pN ∧ Below w.heap.size w w' := by
  have R : Hid (Dg (w.alloc (.cells #[.int .u64 4026531841, .int .u64 1138881939, .int .u64 2042196113, .int .u64 674490440, .int .u64 2172737629, .int .u64 3092268470, .int .u64 3778125865, .int .u64 811880050] 24)) (.slice (some ⟨w.heap.size, 0, none⟩) 8 8) pN) := by
    refine ⟨some ⟨w.heap.size, 0, none⟩, 8, pL, rfl, by decide, by decide, ?_, ?_, Or.inr (by decide), by decide⟩
    · have hB : BlkW (w.alloc (.cells #[.int .u64 4026531841, .int .u64 1138881939, .int .u64 2042196113, .int .u64 674490440, .int .u64 2172737629, .int .u64 3092268470, .int .u64 3778125865, .int .u64 811880050] 24)) w.heap.size 24 pL :=
        ⟨heap_alloc_new w _, by intro x hx; simp only [pL, List.mem_cons, List.not_mem_nil, or_false] at hx; omega⟩
      have rd := hB.rd (off := 0) (n := pL.length) (by omega) hB.size
      rw [List.drop_zero, List.take_length] at rd
      exact rd
    · intro x hx; simp only [pL, List.mem_cons, List.not_mem_nil, or_false] at hx; omega
  go_enter Tryd.func54, Tryd.ntmps54
  go_wp2
  go_ret
  exact ⟨_, rfl, R.out, by go_grown⟩

theorem dAdd_c (u v : Value) (X Y : Nat) (w : World) (hu : Dg w u X) (hv : Dg w v Y) (hR : X + Y < 4294967296 ^ 20) :
    Calls Tryd.prog 74 #[u, v] w fun e w' => ∃ r, e = .returned r ∧ Dg w' r (X + Y) ∧ Below w.heap.size w w' := by
  obtain ⟨A, c, l, rfl, h1, h2, h3, h4, h5, h6⟩ := hu
  obtain ⟨A', c', l', rfl, k1, k2, k3, k4, k5, k6⟩ := hv
  refine (refAdd_c A A' l.length l'.length c c' l l' w h3 k3 h4 k4 (by omega) (by omega)).mono ?_
  intro e w' h
  rw [h6, k6] at h
  exact Dg.of h (lt_big hR)
theorem dSub_c (u v : Value) (X Y : Nat) (w : World) (hu : Dg w u X) (hv : Dg w v Y) (hle : Y ≤ X) (hR : X < 4294967296 ^ 20) :
    Calls Tryd.prog 77 #[u, v] w fun e w' => ∃ r, e = .returned r ∧ Dg w' r (X - Y) ∧ Below w.heap.size w w' := by
  obtain ⟨A, c, l, rfl, h1, h2, h3, h4, h5, h6⟩ := hu
  obtain ⟨A', c', l', rfl, k1, k2, k3, k4, k5, k6⟩ := hv
  refine (refSub_c A A' l.length l'.length c c' l l' w h3 k3 h4 k4 (by omega) (by rw [h6, k6]; exact hle)).mono ?_
  intro e w' h
  rw [h6, k6] at h
  exact Dg.of h (lt_big (Nat.lt_of_le_of_lt (Nat.sub_le _ _) hR))
theorem dCmp_c (u v : Value) (X Y : Nat) (w : World) (hu : Dg w u X) (hv : Dg w v Y) :
    Calls Tryd.prog 76 #[u, v] w fun e w' => e = .returned (.int .i64 (cmpN X Y)) ∧ w = w' := by
  obtain ⟨A, c, l, rfl, h1, h2, h3, h4, h5, h6⟩ := hu
  obtain ⟨A', c', l', rfl, k1, k2, k3, k4, k5, k6⟩ := hv
  refine (refCmp_c A A' l.length l'.length c c' l l' w _ h3 k3 h4 k4 (by omega) (by omega)).mono ?_
  rintro e w' ⟨rfl, rfl⟩
  rw [h6, k6]
  exact ⟨rfl, rfl⟩
theorem dMod_c (u : Value) (X : Nat) (w : World) (hu : Dg w u X) (hX : X < 4294967296 ^ 30) :
    Calls Tryd.prog 30 #[u] w fun e w' => ∃ r, e = .returned r ∧ Dg w' r (X % pN) ∧ Below w.heap.size w w' := by
  obtain ⟨A, c, l, rfl, h1, h2, h3, h4, h5, h6⟩ := hu
  have hl : l.length ≤ 1000 := Nat.le_trans (len_of_lt (n := 30) h4 h5 (by rw [h6]; exact hX)) (by decide)
  have HX := hid h6
  clear h6 hX
  go_enter Tryd.func30, Tryd.ntmps30
  go_wp2_with fail
  refine (p2_c w).mono ?_
  rintro e w1 ⟨r, rfl, hr, b1⟩
  obtain ⟨A', c', l', rfl, k1, k2, k3, k4, k5, k6⟩ := hr
  have hl' : l'.length ≤ 1000 := Nat.le_trans (len_of_lt (n := 20) k4 k5 (by rw [k6]; decide)) (by decide)
  have K6 := hid k6
  clear k6
  go_wp2_with fail
  refine (mod_c A A' l.length l'.length c c' l l' w1 (h3.up b1 (Nat.le_refl _)) k3 h4 k4 hl hl' (by rw [K6.out]; decide)).mono ?_
  intro e w2 h
  rw [HX.out, K6.out] at h
  obtain ⟨v, rfl, hv, b2⟩ := Dg.of h (lt_big (p_big (Nat.mod_lt _ pN_pos)))
  have R := hid hv
  clear hv h
  go_wp2
  go_ret
  exact ⟨_, rfl, R.out, bchain b1 b2⟩
theorem dOfBytes_c (A : Option Addr) (n c : Nat) (b : List Nat) (w : World) (ha : Rd8 w w.heap.size A n b) (hn : n ≤ 1000) :
    Calls Tryd.prog 31 #[.slice A n c] w fun e w' => ∃ r, e = .returned r ∧ Dg w' r (val 256 b) ∧ Below w.heap.size w w' := by
  refine (ofBytes_c A n c b w ha hn).mono ?_
  intro e w' h
  refine Dg.of h ?_
  have h1 := val_lt 256 (by decide) b ha.lt
  rw [ha.len] at h1
  refine Nat.lt_of_lt_of_le h1 ?_
  rw [show (4294967296 : Nat) = 256 ^ 4 by decide, ← Nat.pow_mul]
  exact Nat.pow_le_pow_right (by decide) (by unfold bigE; omega)
end Go.Proofs.YtdepkfdceidikaaDoor
/-
  avouchref02's rows of nine digits: rowOf, reaches, minus, more: what each call does.
-/
namespace Go.Proofs.YtdepkfdceidikaaDoor
open Go.RowKit
set_option linter.unusedVariables false

theorem minus_end {la lb ws : List Nat} {q : Nat} (ha : la.length = 9) (hb : lb.length = 9) (hw : ws.length = 9) (da : D32 la) (dw : D32 ws) (hle : val 4294967296 lb ≤ val 4294967296 la) (hq : q ≤ 1)
    (h : pv 4294967296 ws 9 + pv 4294967296 lb 9 = pv 4294967296 la 9 + q * 4294967296 ^ 9) : val 4294967296 ws = val 4294967296 la - val 4294967296 lb := by
  rw [pv_out _ ws 9 (by omega), pv_out _ lb 9 (by omega), pv_out _ la 9 (by omega)] at h
  have b := val_lt _ (by decide) ws dw
  rw [hw] at b
  have : q = 0 ∨ q = 1 := by omega
  rcases this with rfl | rfl
  · omega
  · omega

theorem more_step (W p q r c s c' x y t P : Nat) (h : r + c * P = 256 * p + t * q) (e : s + c' * W = x * 256 + y * t + c) : (r + s * P) + c' * (P * W) = 256 * (p + x * P) + t * (q + y * P) := by
  have : (s + c' * W) * P = (x * 256 + y * t + c) * P := by rw [e]
  grind
theorem carry_a (S : Int) (N : Nat) (h : S = (N : Int)) (hN : N < 2199023255552) : S / 4294967296 = ((N / 4294967296 : Nat) : Int) := by subst h; omega
theorem carry_b (S : Int) (N : Nat) (h : S = (N : Int)) (hN : N < 2199023255552) : IntKind.u64.wrap (S / 4294967296) = ((N / 4294967296 : Nat) : Int) := by subst h; rw [IntKind.wrap_u64]; omega
theorem carry_c (S : Int) (N : Nat) (h : S = (N : Int)) (hN : N < 2199023255552) : IntKind.u64.wrap (S.tdiv 4294967296) = ((N / 4294967296 : Nat) : Int) := by
  subst h; rw [IntKind.wrap_u64, Int.tdiv_eq_ediv_of_nonneg (by omega)]; omega
theorem more_end {la lb ws : List Nat} {q t : Nat} (ha : la.length = 9) (hb : lb.length = 9) (hw : ws.length = 9) (dw : D32 ws) (hlt : 256 * val 4294967296 la + t * val 4294967296 lb < 4294967296 ^ 9)
    (h : pv 4294967296 ws 9 + q * 4294967296 ^ 9 = 256 * pv 4294967296 la 9 + t * pv 4294967296 lb 9) : val 4294967296 ws = 256 * val 4294967296 la + t * val 4294967296 lb := by
  rw [pv_out _ ws 9 (by omega), pv_out _ lb 9 (by omega), pv_out _ la 9 (by omega)] at h
  generalize 256 * val 4294967296 la + t * val 4294967296 lb = S at *
  have : q = 0 := by omega
  subst this
  omega

end Go.Proofs.YtdepkfdceidikaaDoor
/-
  avouchref02.reaches, rowOf: what each call does.
-/
namespace Go.Proofs.YtdepkfdceidikaaDoor
open Go.RowKit
set_option linter.unusedVariables false

theorem reach_ne {la lb : List Nat} (ha : la.length = 9) (hb : lb.length = 9) (da : D32 la) (db : D32 lb) (k : Nat) (hk : k < 9) (h : ∀ j, k + 1 ≤ j → la.getD j 0 = lb.getD j 0) (hne : la.getD k 0 ≠ lb.getD k 0) :
    decide (lb.getD k 0 < la.getD k 0) = decide (val 4294967296 lb ≤ val 4294967296 la) := by
  rw [← pv_out _ la 9 (by omega), ← pv_out _ lb 9 (by omega)]
  rcases Nat.lt_or_ge (la.getD k 0) (lb.getD k 0) with h' | h'
  · have := pv_less 4294967296 (by decide) la lb da k 9 (fun j hj => h j hj) h' hk
    rw [decide_eq_false (by omega), decide_eq_false (by omega)]
  · have := pv_less 4294967296 (by decide) lb la db k 9 (fun j hj => (h j hj).symm) (by omega) hk
    rw [decide_eq_true (by omega), decide_eq_true (by omega)]
theorem reach_eq {la lb : List Nat} (ha : la.length = 9) (hb : lb.length = 9) (h : ∀ j, 0 ≤ j → la.getD j 0 = lb.getD j 0) : decide (val 4294967296 lb ≤ val 4294967296 la) = true := by
  rw [← pv_out _ la 9 (by omega), ← pv_out _ lb 9 (by omega), pv_congr _ la lb 9 (fun i _ => h i (Nat.zero_le _))]
  exact decide_eq_true (Nat.le_refl _)

theorem row_val {l ws : List Nat} {n : Nat} (hl : l.length = n) (hn : n ≤ 9) (hw : ws.length = 9) (h : ∀ j, ws.getD j 0 = if j < n then l.getD j 0 else 0) : val 4294967296 ws = val 4294967296 l := by
  rw [← pv_out _ l 9 (by omega)]
  unfold val
  rw [hw]
  refine pv_congr _ _ _ 9 fun i _ => ?_
  rw [h i]
  split
  · rfl
  · rw [getD_out l i (by omega)]

end Go.Proofs.YtdepkfdceidikaaDoor
/-
  Rows in a row of rows: nine rows of nine digits in one block; what avouchref02.Mul's loops keep.
-/
namespace Go.Proofs.YtdepkfdceidikaaDoor
open Go.RowKit
set_option linter.unusedVariables false

/-- The list ws with r stored from o on. -/
def sets (ws : List Nat) (o : Nat) : List Nat → List Nat
  | [] => ws
  | x :: r => sets (ws.set o x) (o + 1) r
theorem sets_length : ∀ (r ws : List Nat) (o : Nat), (sets ws o r).length = ws.length
  | [], _, _ => rfl
  | x :: r, ws, o => by unfold sets; rw [sets_length r, List.length_set]
theorem sets_out : ∀ (r ws : List Nat) (o j : Nat), (j < o ∨ o + r.length ≤ j) → (sets ws o r).getD j 0 = ws.getD j 0
  | [], _, _, _, _ => rfl
  | x :: r, ws, o, j, h => by
    unfold sets
    rw [sets_out r (ws.set o x) (o + 1) j (by simp only [List.length_cons] at h; omega), getD_set_ne _ _ _ _ (by simp only [List.length_cons] at h; omega)]
theorem sets_in : ∀ (r ws : List Nat) (o j : Nat), j < r.length → o + r.length ≤ ws.length → (sets ws o r).getD (o + j) 0 = r.getD j 0
  | [], _, _, _, h, _ => by simp at h
  | x :: r, ws, o, j, h, hl => by
    simp only [List.length_cons] at h hl
    unfold sets
    rcases j with _ | j
    · rw [sets_out r (ws.set o x) (o + 1) (o + 0) (by omega), Nat.add_zero, getD_set_eq _ _ _ (by omega)]; rfl
    · rw [show o + (j + 1) = (o + 1) + j by omega, sets_in r (ws.set o x) (o + 1) j (by omega) (by rw [List.length_set]; omega)]; rfl
theorem sets_d32 : ∀ (r ws : List Nat) (o : Nat), D32 r → D32 ws → D32 (sets ws o r)
  | [], _, _, _, h => h
  | x :: r, ws, o, hr, h => by
    unfold sets
    exact sets_d32 r _ _ (fun y hy => hr y (by simp [hy])) (d32_set h _ _ (hr x (by simp)))
theorem BlkW.sets {w : World} {b : Nat} {t : TypeId} : ∀ (r : List Nat) {ws : List Nat} (o : Nat) {w : World}, BlkW w b t ws → D32 r → BlkW (w.setCells b o (cellsOf64 r)) b t (Go.Proofs.YtdepkfdceidikaaDoor.sets ws o r)
  | [], _, _, _, h, _ => h
  | x :: r, ws, o, w, h, hr => BlkW.sets (w := w) r (o + 1) (h.set o x (Nat.lt_trans (hr x (by simp)) (by decide))) (fun y hy => hr y (by simp [hy]))
theorem BlkW.setsO {b c : Nat} {t : TypeId} {ws : List Nat} (hne : b ≠ c) : ∀ (vs : List Value) (o : Nat) {w : World}, BlkW w b t ws → BlkW (w.setCells c o vs) b t ws
  | [], _, _, h => h
  | v :: vs, o, w, h => BlkW.setsO hne vs (o + 1) (h.otherC hne)
/-- The k-th row. -/
def rowAt (L : List Nat) (k : Nat) : List Nat := (L.drop (k * 9)).take 9
theorem rowAt_length {L : List Nat} (h : L.length = 81) {k : Nat} (hk : k < 9) : (rowAt L k).length = 9 := by unfold rowAt; simp [h]; omega
theorem rowAt_d32 {L : List Nat} (h : D32 L) (k : Nat) : D32 (rowAt L k) := fun x hx => h x (List.mem_of_mem_drop (List.mem_of_mem_take hx))
theorem rowAt_getD {L : List Nat} {k j : Nat} (hj : j < 9) : (rowAt L k).getD j 0 = L.getD (k * 9 + j) 0 := by
  unfold rowAt
  simp [List.getD_eq_getElem?_getD, hj]
theorem rowAt_val {L : List Nat} (h : L.length = 81) {k : Nat} (hk : k < 9) : val 4294967296 (rowAt L k) = pv 4294967296 (L.drop (k * 9)) 9 := by
  unfold val
  rw [rowAt_length h hk]
  unfold rowAt
  exact pv_take _ _ _ _ (Nat.le_refl _)
theorem rowAt_sets_same {L r : List Nat} (h : L.length = 81) (hr : r.length = 9) {k : Nat} (hk : k < 9) : val 4294967296 (rowAt (sets L (k * 9) r) k) = val 4294967296 r := by
  rw [rowAt_val (by rw [sets_length]; exact h) hk]
  unfold val
  rw [hr]
  refine pv_congr _ _ _ 9 fun i hi => ?_
  rw [getD_drop, sets_in r L (k * 9) i (by omega) (by omega)]
theorem rowAt_sets_other {L r : List Nat} (h : L.length = 81) (hr : r.length = 9) {k j : Nat} (hk : k < 9) (hj : j < 9) (hne : j ≠ k) : val 4294967296 (rowAt (sets L (k * 9) r) j) = val 4294967296 (rowAt L j) := by
  rw [rowAt_val (by rw [sets_length]; exact h) hj, rowAt_val h hj]
  refine pv_congr _ _ _ 9 fun i hi => ?_
  rw [getD_drop, getD_drop, sets_out r L (k * 9) (j * 9 + i) (by omega)]
theorem BlkW.rowRange {w : World} {b : Nat} {t : TypeId} {L : List Nat} (h : BlkW w b t L) (hl : L.length = 81) {k : Nat} (hk : k < 9) : w.rangeAt b (k * 9) (cellsOf64 (rowAt L k)) := fun j v hv => by
  have hj : j < (rowAt L k).length := by
    have := (List.getElem?_eq_some_iff.1 hv).1
    simpa [cellsOf64] using this
  rw [rowAt_length hl hk] at hj
  rw [h.cell (i := k * 9 + j) (by omega), ← hv]
  have hj' : j < (rowAt L k).length := by rw [rowAt_length hl hk]; exact hj
  have e := rowAt_getD (L := L) (k := k) hj
  unfold at64
  rw [← e]
  simp [cellsOf64, List.getElem?_eq_getElem hj', List.getD_eq_getElem?_getD]
theorem BlkW.rowThere {w : World} {b : Nat} {t : TypeId} {L : List Nat} (h : BlkW w b t L) (hl : L.length = 81) {k : Nat} (hk : k < 9) : w.there b (k * 9) 9 := fun j hj => by
  rw [h.cell (i := k * 9 + j) (by omega)]
  exact ⟨rfl, h.frozen _⟩
theorem store9 (b o : Nat) (l : List Nat) (w : World) (h : w.there b o l.length) : (storeCells ⟨b, o, none⟩ (cellsOf64 l)).run Tryd.prog w = .ok () (w.setCells b o (cellsOf64 l)) := by
  have hl : (cellsOf64 l).length = l.length := by simp [cellsOf64]
  exact run_storeCells_cells (P := Tryd.prog) b o (cellsOf64 l) 0 w (fun j hj => by simpa using (h j (by omega)).1) (fun j hj => by simpa using (h j (by omega)).2) (one64 l)

/-- The prime's row, and all nine. -/
def p9 : List Nat := [4026531841, 1138881939, 2042196113, 674490440, 2172737629, 3092268470, 3778125865, 811880050, 0]
theorem p9_of {l : List Nat} (hl : l.length = 9) (hd : D32 l) (hv : val 4294967296 l = pN) : l = p9 :=
  val_inj 4294967296 (by decide) l p9 hd (by intro x hx; simp only [p9, List.mem_cons, List.not_mem_nil, or_false] at hx; omega) hl (hv.trans (by decide))
end Go.Proofs.YtdepkfdceidikaaDoor
/-
  What the double loop of avouchref02.Mul keeps; its numbers.
-/
namespace Go.Proofs.YtdepkfdceidikaaDoor
open Go.RowKit
set_option linter.unusedVariables false

theorem sets_all {ws r : List Nat} (h : r.length = ws.length) : sets ws 0 r = r := by
  apply List.ext_getElem (by rw [sets_length]; exact h.symm)
  intro i h1 h2
  have e := sets_in r ws 0 i h2 (by omega)
  rw [Nat.zero_add] at e
  simpa [List.getD_eq_getElem?_getD, List.getElem?_eq_getElem h1, List.getElem?_eq_getElem h2] using e

theorem Rd8.cellAt {w : World} {B n b off : Nat} {l : List Nat} (h : Rd8 w B (some ⟨b, off, none⟩) n l) {i : Nat} (hi : i < n) : w.cell? ⟨b, off + i, none⟩ = some (.int .u8 (at64 l i)) := by
  obtain ⟨b', off', e, _, hc⟩ := h.cells (by omega)
  simp only [Option.some.injEq, Addr.mk.injEq, and_true] at e
  obtain ⟨rfl, rfl⟩ := e
  exact hc i hi
/-- A byte of a number. -/
theorem byte_of (l : List Nat) (h : allLt8 l) (k : Nat) : l.getD k 0 = val 256 l / 256 ^ k % 256 := by
  have e1 := pv_mod 256 (by decide) l h (k + 1)
  rw [pv_succ, pv_mod 256 (by decide) l h k, Nat.pow_succ, Nat.mod_mul] at e1
  have e2 : l.getD k 0 * 256 ^ k = 256 ^ k * (val 256 l / 256 ^ k % 256) := by omega
  rw [Nat.mul_comm] at e2
  exact Nat.eq_of_mul_eq_mul_left (Nat.pow_pos (by decide)) e2
/-- One byte more. -/
theorem mul_byte (X Y m t : Nat) (ht : t = X / 256 ^ m % 256) : (256 * (X / 256 ^ (m + 1) * Y % pN) + t * Y) % pN = X / 256 ^ m * Y % pN := by
  have e : X / 256 ^ m = 256 * (X / 256 ^ (m + 1)) + t := by
    rw [Nat.pow_succ, ← Nat.div_div_eq_div_mul, ht]; omega
  rw [e, Nat.add_mul, Nat.add_mod, Nat.mul_mod_mod, ← Nat.add_mod, Nat.mul_assoc]
theorem byte_fits {R Y t : Nat} (hR : R < pN) (hY : Y < pN) (ht : t < 256) : 256 * R + t * Y < 2 ^ 9 * pN ∧ 256 * R + t * Y < 4294967296 ^ 9 := by
  have h1 : t * Y ≤ 255 * Y := Nat.mul_le_mul_right _ (by omega)
  have h2 : 2 ^ 9 * pN < 4294967296 ^ 9 := by decide
  have h3 : 256 * R + t * Y < 2 ^ 9 * pN := by omega
  exact ⟨h3, Nat.lt_trans h3 h2⟩
/-- One multiple taken away, or not. -/
theorem cut_one {V k : Nat} (h : V < 2 ^ (k + 1) * pN) (hge : 2 ^ k * pN ≤ V) : V - 2 ^ k * pN < 2 ^ k * pN ∧ (V - 2 ^ k * pN) % pN = V % pN := by
  rw [Nat.pow_succ] at h
  refine ⟨?_, ?_⟩
  · have : 2 ^ k * 2 * pN = 2 ^ k * pN + 2 ^ k * pN := by rw [Nat.mul_comm (2 ^ k) 2, Nat.mul_assoc, Nat.two_mul]
    omega
  · obtain ⟨d, hd⟩ : ∃ d, V = d + 2 ^ k * pN := ⟨V - 2 ^ k * pN, by omega⟩
    rw [hd, Nat.add_sub_cancel, Nat.add_mul_mod_self_right]
end Go.Proofs.YtdepkfdceidikaaDoor
/-
  avouchref02.Mul: what the call does.
-/
namespace Go.Proofs.YtdepkfdceidikaaDoor
open Go.RowKit
set_option linter.unusedVariables false

theorem zero9 : val 4294967296 (List.replicate 9 0) = 0 := by unfold val; rw [pv_replicate]
theorem zero9_d : D32 (List.replicate 9 0) := by intro x hx; have := List.eq_of_mem_replicate hx; omega

theorem two_fits (k : Nat) (hk : k < 8) : 256 * 0 + 2 * (2 ^ k * pN) < 4294967296 ^ 9 := by
  have h1 : 2 ^ k ≤ 2 ^ 8 := Nat.pow_le_pow_right (by decide) (by omega)
  have h2 : 2 ^ k * pN ≤ 2 ^ 8 * pN := Nat.mul_le_mul_right _ h1
  have h3 : 2 * (2 ^ 8 * pN) < 4294967296 ^ 9 := by decide
  omega
theorem own_zero (w : World) : OwnW (w.alloc (.cells #[] 24)) w.heap.size (.slice (some ⟨w.heap.size, 0, none⟩) 0 0) [] := by
  have h := own_made w 0 (by omega)
  have e : zeros 0 = #[] := by rw [zeros_eq]; rfl
  rw [e] at h
  exact h
end Go.Proofs.YtdepkfdceidikaaDoor
/-
  avouchref02.Add, Sub, Exp, Inverse: what each call does.
-/
namespace Go.Proofs.YtdepkfdceidikaaDoor
open Go.RowKit
set_option linter.unusedVariables false

theorem add_mod_p {X Y : Nat} (hX : X < pN) (hY : Y < pN) (h : pN ≤ X + Y) : X + Y - pN = (X + Y) % pN := by
  rw [Nat.mod_eq_sub_mod h, Nat.mod_eq_of_lt (by omega)]
theorem sub_mod_p {X Y : Nat} (hX : X < pN) (hY : Y < pN) (h : Y ≤ X) : X - Y = (X + (pN - Y)) % pN := by
  rw [show X + (pN - Y) = (X - Y) + pN by omega, Nat.add_mod_right, Nat.mod_eq_of_lt (by omega)]
theorem sub_mod_p' {X Y : Nat} (hX : X < pN) (hY : Y < pN) (h : ¬ Y ≤ X) : X + pN - Y = (X + (pN - Y)) % pN := by
  rw [Nat.mod_eq_of_lt (by omega)]; omega
def bits1000 : Nat := 1000
theorem p_1000 : pN < 2 ^ bits1000 := Nat.lt_of_lt_of_le (show pN < 2 ^ 254 by decide) (Nat.pow_le_pow_right (by decide) (by decide))
theorem two_p : pN + pN < 4294967296 ^ 20 := by decide

theorem dOne (w : World) (v : Nat) (hv : v < 4294967296) (h0 : v ≠ 0) : Dg (w.alloc (.cells #[.int .u64 (v : Int)] 24)) (.slice (some ⟨w.heap.size, 0, none⟩) 1 1) v := by
  have h := rdw_one w v (Nat.lt_trans hv (by decide))
  have hs : (w.alloc (.cells #[.int .u64 (v : Int)] 24)).heap.size = w.heap.size + 1 := by simp
  rw [← hs] at h
  exact ⟨_, 1, [v], rfl, Nat.le_refl _, by simp, h, by intro x hx; simp at hx; omega, Or.inr (by simpa using h0), by simp [val, pv]⟩

end Go.Proofs.YtdepkfdceidikaaDoor
