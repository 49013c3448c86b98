/-
  limb.Words, avouchref01.OfBytes: what each call does.
-/
import Derived.Test.YtpjjobophplleaaDoorBytesA
import Derived.Test.YtpjjobophplleaaDoorLOps
namespace Go.Proofs.YtpjjobophplleaaDoor
open Go.RowKit
set_option linter.unusedVariables false

theorem pv_empty (W k : Nat) : pv W [] k = 0 := by
  induction k with
  | zero => rfl
  | succ k ih => rw [pv_succ, ih]; simp
theorem pv_drop_out (W : Nat) (l : List Nat) (i k k' : Nat) (h : l.length ≤ i + k) (h' : l.length ≤ i + k') : pv W (l.drop i) k = pv W (l.drop i) k' := by
  rw [pv_out W _ k (by simp; omega), pv_out W _ k' (by simp; omega)]
theorem pv_chunks (c : Nat) (ws b : List Nat) (m : Nat) (h : ∀ j, j < m → ws.getD j 0 = pv 256 (b.drop (c * j)) c) : pv (256 ^ c) ws m = pv 256 b (c * m) := by
  induction m with
  | zero => rfl
  | succ m ih => rw [pv_succ, ih fun j hj => h j (by omega), h m (by omega), Nat.mul_succ, pv_drop, ← Nat.pow_mul, Nat.mul_comm (pv 256 (List.drop (c * m) b) c)]
theorem lt8_drop {b : List Nat} (h : allLt8 b) (i : Nat) : allLt8 (b.drop i) := fun x hx => h x (List.mem_of_mem_drop hx)

/-- Word j of the words of b, when k bytes are laid. -/
def wb (b : List Nat) (k j : Nat) : Nat := pv 256 (b.drop (8 * j)) (min (k - 8 * j) 8)
theorem wb_lt (b : List Nat) (h : allLt8 b) (k j : Nat) : wb b k j < 18446744073709551616 := by
  have h1 := pv_lt 256 (by decide) _ (lt8_drop h (8 * j)) (min (k - 8 * j) 8)
  have h2 : 256 ^ min (k - 8 * j) 8 ≤ 256 ^ 8 := Nat.pow_le_pow_right (by decide) (Nat.min_le_right _ _)
  unfold wb; omega
theorem wb_at (b : List Nat) (k q r : Nat) (hk : k = 8 * q + r) (hr : r < 8) : wb b (k + 1) q = wb b k q + b.getD k 0 * 256 ^ r := by
  unfold wb
  rw [show min (k + 1 - 8 * q) 8 = r + 1 by omega, show min (k - 8 * q) 8 = r by omega, pv_succ, getD_drop, ← hk]
theorem wb_small (b : List Nat) (h : allLt8 b) (k q r : Nat) (hk : k = 8 * q + r) (hr : r < 8) : wb b k q < 256 ^ r := by
  have h1 := pv_lt 256 (by decide) _ (lt8_drop h (8 * q)) r
  unfold wb
  rw [show min (k - 8 * q) 8 = r by omega]; exact h1
theorem wb_ne (b : List Nat) (k q r j : Nat) (hk : k = 8 * q + r) (hr : r < 8) (hj : j ≠ q) : wb b (k + 1) j = wb b k j := by
  unfold wb
  rw [show min (k + 1 - 8 * j) 8 = min (k - 8 * j) 8 by omega]

/-- The relation of the loop of Words: k bytes are laid. -/
def WoRel (w : World) (m : Nat) (b : List Nat) (wr : World) (k : Nat) : Prop :=
  ∃ ws : List Nat, ws.length = m ∧ BlkW wr w.heap.size 36 ws ∧ Below w.heap.size w wr ∧ ∀ j, j < m → ws.getD j 0 = wb b k j
theorem WoRel.drew {w wr : World} {m k : Nat} {b : List Nat} (h : WoRel w m b wr k) : WoRel w m b wr.drew k := by
  obtain ⟨ws, hl, hB, hb, hj⟩ := h
  exact ⟨ws, hl, ⟨hB.heap, hB.lt⟩, hb.drew, hj⟩
theorem WoRel.step {w wr : World} {m k q r : Nat} {b : List Nat} (h8 : allLt8 b) (h : WoRel w m b wr k) (hk : k = 8 * q + r) (hr : r < 8) (hq : q < m) (v : Int) (hv : v = (wb b (k + 1) q : Nat)) :
    WoRel w m b (wr.setCell ⟨w.heap.size, q, none⟩ (.int .u64 v)) (k + 1) := by
  obtain ⟨ws, hl, hB, hb, hj⟩ := h
  refine ⟨ws.set q (wb b (k + 1) q), by simp [hl], hB.setI _ _ _ (wb_lt _ h8 _ _) hv, hb.setCell (Nat.le_refl _) _, fun j hjm => ?_⟩
  by_cases hjq : j = q
  · subst hjq
    rw [getD_set_eq _ _ _ (by omega)]
  · rw [getD_set_ne _ _ _ _ (by omega), hj j hjm, wb_ne b k q r j hk hr hjq]
theorem WoRel.end_ {w wr : World} {m n : Nat} {b : List Nat} (h : WoRel w m b wr n) (hn : b.length = n) (hm : n ≤ 8 * m) :
    ∃ ws, ws.length = m ∧ BlkW wr w.heap.size 36 ws ∧ Below w.heap.size w wr ∧ val 18446744073709551616 ws = val 256 b := by
  obtain ⟨ws, hl, hB, hb, hj⟩ := h
  refine ⟨ws, hl, hB, hb, ?_⟩
  have e := pv_chunks 8 ws b m fun j hjm => by
    rw [hj j hjm]; unfold wb
    by_cases hc : n - 8 * j < 8
    · exact pv_drop_out _ _ _ _ _ (by omega) (by omega)
    · rw [show min (n - 8 * j) 8 = 8 by omega]
  rw [pv_out 256 b _ (by omega)] at e
  rw [← e]
  unfold val
  rw [hl]
theorem or_byte (x y r s : Nat) (hx : x < 256 ^ r) (hs : s = 8 * r) : x ||| y * 2 ^ s = x + y * 256 ^ r := by
  have e : 256 ^ r = 2 ^ s := by rw [hs, Nat.pow_mul]
  rw [e] at hx ⊢
  rw [Nat.or_comm, ← Nat.shiftLeft_eq, ← Nat.shiftLeft_add_eq_or_of_lt hx, Nat.add_comm]
theorem byte_up (y r : Nat) (hy : y < 256) (hr : r < 8) : y * 256 ^ r < 18446744073709551616 := by
  have h2 : 256 ^ r ≤ 256 ^ 7 := Nat.pow_le_pow_right (by decide) (by omega)
  have h1 := Nat.mul_le_mul (show y ≤ 255 by omega) h2
  omega

set_option maxRecDepth 100000 in
set_option maxHeartbeats 1000000 in
theorem limbWords_n (A : Option Addr) (n c : Nat) (b : List Nat) (w : World) (ha : Rd8 w w.heap.size A n b) (hn : n ≤ 1000) :
    Calls Tryd.prog 35 #[.slice A n c] w fun e w' => ∃ l, e = .returned (.slice (some ⟨w.heap.size, 0, none⟩) ((n + 7) / 8) ((n + 7) / 8)) ∧ l.length = (n + 7) / 8 ∧ BlkW w' w.heap.size 36 l ∧ val 18446744073709551616 l = val 256 b ∧ Below w.heap.size w w' := by
  obtain ⟨m, hm⟩ : ∃ m, m = (n + 7) / 8 := ⟨_, rfl⟩
  rw [← hm]
  have hmk := make64I m m (Nat.le_refl _) (by omega) (((n : Int) + 8 - 1) / 8) (((n : Int) + 8 - 1) / 8) (by omega) (by omega)
  have hm1 : n ≤ 8 * m := by omega
  have hm2 : 8 * m ≤ n + 7 := by omega
  clear hm
  go_enter Tryd.func35, Tryd.ntmps35
  go_wp2
  clear hmk
  go_loopw [14] (fun i wr => ∃ k : Nat, k ≤ n ∧ i = .int .i64 k ∧ WoRel w m b wr k) (fun i _ => n - (intOf i).toNat)
  case atStart =>
    refine ⟨0, Nat.zero_le _, rfl, List.replicate m 0, by simp, blk_zeros w _, (Below.refl _ _).alloc (Nat.le_refl _) _, fun j hj => ?_⟩
    unfold wb
    rw [Nat.zero_sub, Nat.zero_min, pv_zero, List.getD_eq_getElem?_getD, List.getElem?_replicate, if_pos hj]; rfl
  case round =>
    obtain ⟨k, hk, rfl, hrel⟩ := hrel
    by_cases hlt : k < n
    · obtain ⟨ws, hl, hB, hb, hj⟩ := id hrel
      obtain ⟨ba, oa, rfl, hba, hca⟩ := (ha.below hb (Nat.le_refl _)).at_ hlt
      obtain ⟨q, hq⟩ : ∃ q, q = k / 8 := ⟨_, rfl⟩
      obtain ⟨r, hr⟩ : ∃ r, r = k % 8 := ⟨_, rfl⟩
      obtain ⟨s, hs⟩ : ∃ s, s = 8 * r := ⟨_, rfl⟩
      obtain ⟨y, hy⟩ : ∃ y, y = b.getD k 0 * 256 ^ r := ⟨_, rfl⟩
      have hkq : k = 8 * q + r := by omega
      have hr8 : r < 8 := by omega
      have hqm : q < m := by omega
      have hcell := hB.cell (i := q) (by omega)
      have hfz := hB.frozen q
      have d1 : IntKind.i64.wrap ((k : Int) / 8) = (q : Int) := by rw [IntKind.wrap_i64]; omega
      have d2 : (k : Int).tmod 8 = (r : Int) := by rw [Int.tmod_eq_emod_of_nonneg (by omega)]; omega
      have d3 : IntKind.i64.wrap (8 * (r : Int)) = (s : Int) := by rw [IntKind.wrap_i64]; omega
      have b8 := getD_lt _ (by decide) b ha.lt k
      have d4 : IntKind.u64.wrap (at64 b k) = at64 b k := by rw [IntKind.wrap_u64]; unfold at64; omega
      have yl : y < 18446744073709551616 := by rw [hy]; exact byte_up _ _ b8 hr8
      have d5 : IntKind.u64.wrap (at64 b k * 2 ^ s) = (y : Int) := by
        rw [at64, up_word0, hs, Nat.pow_mul, hy]
        rw [hy] at yl
        exact congrArg Int.ofNat (Nat.mod_eq_of_lt yl)
      have HST := hid (WoRel.step ha.lt hrel hkq hr8 hqm (bits .or .u64 (at64 ws q) (y : Int)) (by
        have h1 := wb_small b ha.lt k q r hkq hr8
        have e := hj q hqm
        rw [at64, bits_or_u64_nat _ _ (getD_lt _ (by decide) ws hB.lt _) yl, e, wb_at b k q r hkq hr8, hy]
        have := or_byte (wb b k q) (b.getD k 0) r s h1 hs
        rw [hs, Nat.pow_mul] at this
        exact congrArg Int.ofNat this))
      have i0 : (0 : Int) ≤ (q : Int) := by omega
      have i1 : (q : Int) < (m : Int) := by omega
      have i2 : (0 : Int) ≤ (s : Int) := by omega
      have i3 : (s : Int) ≤ 63 := by omega
      have i4 : s ≤ 63 := by omega
      have x0 := at64_nonneg b k
      have x1 := at64_nonneg ws q
      have HL := hid hl
      clear hl hj hy hq hr hs b8 yl hkq
      go_wp2
      go_still_tail 13, (by kernel_rfl)
      change wpList _ _ _ _ _ wr.drew
      clear d1 d2 d3 d4 d5
      go_wp2
      go_roundw
      case rel => exact ⟨k + 1, by omega, by go_num, HST.out.drew⟩
      case measure => simp [intOf]; omega
    · obtain rfl : k = n := by omega
      obtain ⟨ws, hl, hB, hb, hV⟩ := hrel.end_ ha.len (by omega)
      have HV := hid hV
      have HL := hid hl
      clear hl hV
      go_wp2
      go_ret
      exact ⟨ws, rfl, HL.out, hB, HV.out, hb⟩
theorem limbWords_c (A : Option Addr) (n c : Nat) (b : List Nat) (w : World) (ha : Rd8 w w.heap.size A n b) (hn : n ≤ 1000) :
    Calls Tryd.prog 35 #[.slice A n c] w fun e w' => Wds w e w' ((n + 7) / 8) (val 256 b) := by
  refine (limbWords_n A n c b w ha hn).mono ?_
  rintro e w' ⟨l, rfl, hl, hB, hv, hb⟩
  have rd := hB.rd (off := 0) (n := l.length) (B := w'.heap.size) (by omega) hB.size
  rw [List.drop_zero, List.take_length, hl] at rd
  exact ⟨_, _, l, rfl, Nat.le_refl _, rd, hv, hb⟩
end Go.Proofs.YtpjjobophplleaaDoor
