import Derived.Test.YtdepkfdceidikaaDoorBytesB
import Derived.Test.YtdepkfdceidikaaDoorLOpsC
import Derived.Test.YtdepkfdceidikaaDoorPrims
import Derived.Deep.MidRow
/-
  avouchref01.OfBytes: what the call does.
-/
namespace Go.Proofs.YtdepkfdceidikaaDoor
open Go.RowKit
set_option linter.unusedVariables false

/-- Digit j of the digits of b, when the bytes from k on are laid. -/
def ob (b : List Nat) (k j : Nat) : Nat := pv 256 (b.drop (max k (4 * j))) (4 * j + 4 - max k (4 * j))
theorem ob_lt (b : List Nat) (h : allLt8 b) (k j : Nat) : ob b k j < 4294967296 := by
  have h1 := pv_lt 256 (by decide) _ (lt8_drop h (max k (4 * j))) (4 * j + 4 - max k (4 * j))
  have h2 : 256 ^ (4 * j + 4 - max k (4 * j)) ≤ 256 ^ 4 := Nat.pow_le_pow_right (by decide) (by omega)
  unfold ob; omega
theorem ob_small (b : List Nat) (h : allLt8 b) (k q r : Nat) (hk : k = 4 * q + r) (hr : r < 4) : ob b (k + 1) q < 16777216 := by
  have h1 := pv_lt 256 (by decide) _ (lt8_drop h (max (k + 1) (4 * q))) (4 * q + 4 - max (k + 1) (4 * q))
  have h2 : 256 ^ (4 * q + 4 - max (k + 1) (4 * q)) ≤ 256 ^ 3 := Nat.pow_le_pow_right (by decide) (by omega)
  unfold ob; omega
theorem pv_cons (W : Nat) (l : List Nat) (m : Nat) : pv W l (m + 1) = pv W (l.drop 1) m * W + l.getD 0 0 := by
  rw [Nat.add_comm m 1, pv_drop, pv_succ, pv_zero, Nat.pow_one, Nat.pow_zero, Nat.mul_one, Nat.zero_add, Nat.mul_comm, Nat.add_comm]
theorem ob_at (b : List Nat) (k q r : Nat) (hk : k = 4 * q + r) (hr : r < 4) : ob b k q = ob b (k + 1) q * 256 + b.getD k 0 := by
  unfold ob
  rw [show max k (4 * q) = k by omega, show max (k + 1) (4 * q) = k + 1 by omega, show 4 * q + 4 - k = (4 * q + 4 - (k + 1)) + 1 by omega, pv_cons, List.drop_drop, getD_drop, Nat.add_zero k]
theorem ob_ne (b : List Nat) (k q r j : Nat) (hk : k = 4 * q + r) (hr : r < 4) (hj : j ≠ q) : ob b k j = ob b (k + 1) j := by
  unfold ob
  by_cases hc : j < q
  · rw [show 4 * j + 4 - max k (4 * j) = 0 by omega, show 4 * j + 4 - max (k + 1) (4 * j) = 0 by omega]; rfl
  · rw [show max k (4 * j) = max (k + 1) (4 * j) by omega]
theorem ob_start (b : List Nat) (n j : Nat) (h : b.length = n) : ob b n j = 0 := by
  unfold ob
  rw [List.drop_eq_nil_of_le (by omega), pv_empty]

/-- The relation of the loop of OfBytes: the bytes from k on are laid. -/
def ObRel (w : World) (m : Nat) (b : List Nat) (wr : World) (k : Nat) : Prop :=
  ∃ ws : List Nat, ws.length = m ∧ BlkW wr w.heap.size 24 ws ∧ Below w.heap.size w wr ∧ ∀ j, j < m → ws.getD j 0 = ob b k j
theorem ObRel.drew {w wr : World} {m k : Nat} {b : List Nat} (h : ObRel w m b wr k) : ObRel w m b wr.drew k := by
  obtain ⟨ws, hl, hB, hb, hj⟩ := h
  exact ⟨ws, hl, ⟨hB.heap, hB.lt⟩, hb.drew, hj⟩
theorem ObRel.step {w wr : World} {m k q r : Nat} {b : List Nat} (h8 : allLt8 b) (h : ObRel w m b wr (k + 1)) (hk : k = 4 * q + r) (hr : r < 4) (hq : q < m) (v : Int) (hv : v = (ob b k q : Nat)) :
    ObRel w m b (wr.setCell ⟨w.heap.size, q, none⟩ (.int .u64 v)) k := by
  obtain ⟨ws, hl, hB, hb, hj⟩ := h
  refine ⟨ws.set q (ob b k q), by simp [hl], hB.setI _ _ _ (Nat.lt_trans (ob_lt _ h8 _ _) (by decide)) hv, hb.setCell (Nat.le_refl _) _, fun j hjm => ?_⟩
  by_cases hjq : j = q
  · subst hjq
    rw [getD_set_eq _ _ _ (by omega)]
  · rw [getD_set_ne _ _ _ _ (by omega), hj j hjm, ob_ne b k q r j hk hr hjq]
theorem ObRel.end_ {w wr : World} {m n : Nat} {b : List Nat} (h8 : allLt8 b) (h : ObRel w m b wr 0) (hn : b.length = n) (hm : n ≤ 4 * m) :
    ∃ ws, ws.length = m ∧ BlkW wr w.heap.size 24 ws ∧ D32 ws ∧ Below w.heap.size w wr ∧ val 4294967296 ws = val 256 b := by
  obtain ⟨ws, hl, hB, hb, hj⟩ := h
  refine ⟨ws, hl, hB, fun x hx => ?_, hb, ?_⟩
  · obtain ⟨i, hi, rfl⟩ := List.mem_iff_getElem.1 hx
    have := hj i (by omega)
    rw [List.getD_eq_getElem?_getD, List.getElem?_eq_getElem hi] at this
    have e : ws[i] = ob b 0 i := this
    rw [e]; exact ob_lt b h8 0 i
  · have e := pv_chunks 4 ws b m fun j hjm => by
      rw [hj j hjm]; unfold ob
      rw [show max 0 (4 * j) = 4 * j by omega, show 4 * j + 4 - 4 * j = 4 by omega]
    rw [pv_out 256 b _ (by omega)] at e
    rw [← e]
    unfold val
    rw [hl]

set_option maxRecDepth 100000 in
set_option maxHeartbeats 1000000 in
theorem ofBytes_c (A : Option Addr) (n c : Nat) (b : List Nat) (w : World) (ha : Rd8 w w.heap.size A n b) (hn : n ≤ 1000) :
    Calls Tryd.prog 31 #[.slice A n c] w fun e w' => Dig w e w' (val 256 b) := by
  obtain ⟨m, hm⟩ : ∃ m, m = n / 4 + 1 := ⟨_, rfl⟩
  have hmk := make64I m m (Nat.le_refl _) (by omega) ((n : Int) / 4 + 1) ((n : Int) / 4 + 1) (by omega) (by omega)
  have hm1 : n < 4 * m := by omega
  have hm2 : m ≤ n + 1 := by omega
  clear hm
  go_enter Tryd.func31, Tryd.ntmps31
  go_wp2
  clear hmk
  go_loopw [4] (fun i wr => ∃ k : Nat, k ≤ n ∧ i = .int .i64 ((k : Int) - 1) ∧ ObRel w m b wr k) (fun i _ => (intOf i + 1).toNat)
  case atStart =>
    refine ⟨n, Nat.le_refl _, by go_num, List.replicate m 0, by simp, blk_zeros w _, (Below.refl _ _).alloc (Nat.le_refl _) _, fun j hj => ?_⟩
    rw [ob_start b n j ha.len, List.getD_eq_getElem?_getD, List.getElem?_replicate, if_pos hj]; rfl
  case round =>
    obtain ⟨k, hk, rfl, hrel⟩ := hrel
    rcases k with _ | k
    · obtain ⟨ws, hl, hB, hd, hb, hV⟩ := hrel.end_ ha.lt ha.len (by omega)
      have rd := hB.rd (off := 0) (n := m) (B := wr.heap.size) (by omega) hB.size
      have ee : (ws.drop 0).take m = ws := by rw [List.drop_zero, List.take_of_length_le (by omega)]
      rw [ee] at rd
      have HV := hid hV
      clear hl hV ee
      go_wp2_with fail
      refine (trim_c _ _ _ _ ws _ rd (by omega) (Nat.le_refl _)).mono ?_
      rintro e w' ⟨mm, hmm, he, hw, ht, hzz⟩
      have hD := dig_of_trim rd hd hb hmm (Nat.le_refl _) he hw ht hzz
      rw [HV.out] at hD
      clear hmm he hw ht hzz
      obtain ⟨A', c', l', rfl, r'⟩ := hD
      have R := hid r'
      clear r'
      go_wp2
      go_ret
      exact ⟨A', c', l', rfl, R.out⟩
    · have e1 : (((k + 1 : Nat) : Int) - 1) = (k : Int) := by omega
      rw [e1]
      clear e1
      have hlt : k < n := by omega
      obtain ⟨ws, hl, hB, hb, hj⟩ := id hrel
      obtain ⟨ba, oa, rfl, hba, hca⟩ := (ha.below hb (Nat.le_refl _)).at_ hlt
      obtain ⟨q, hq⟩ : ∃ q, q = k / 4 := ⟨_, rfl⟩
      obtain ⟨r, hr⟩ : ∃ r, r = k % 4 := ⟨_, rfl⟩
      have hkq : k = 4 * q + r := by omega
      have hr4 : r < 4 := by omega
      have hqm : q < m := by omega
      have hcell := hB.cell (i := q) (by omega)
      have hfz := hB.frozen q
      have hsm := ob_small b ha.lt k q r hkq hr4
      have e := hj q hqm
      have b8 := getD_lt _ (by decide) b ha.lt k
      obtain ⟨p, hp⟩ : ∃ p, p = ws.getD q 0 * 256 := ⟨_, rfl⟩
      obtain ⟨z, hz⟩ : ∃ z, z = ob b k q := ⟨_, rfl⟩
      have hoa := ob_at b k q r hkq hr4
      have d1 : IntKind.i64.wrap ((k : Int) / 4) = (q : Int) := by rw [IntKind.wrap_i64]; omega
      have d4 : IntKind.u64.wrap (at64 b k) = at64 b k := by rw [IntKind.wrap_u64]; unfold at64; omega
      have d5 : IntKind.u64.wrap (at64 ws q * 256) = (p : Int) := by rw [IntKind.wrap_u64, hp]; unfold at64; omega
      have d6 : IntKind.u64.wrap ((p : Int) + at64 b k) = (z : Int) := by rw [IntKind.wrap_u64]; unfold at64; omega
      have HST := hid (ObRel.step ha.lt hrel hkq hr4 hqm (z : Int) (by rw [hz]))
      have i0 : (0 : Int) ≤ (q : Int) := by omega
      have i1 : (q : Int) < (m : Int) := by omega
      have i2 : (0 : Int) ≤ (k : Int) := by omega
      have i3 : (k : Int) < (n : Int) := by omega
      have x0 := at64_nonneg b k
      have x1 := at64_nonneg ws q
      clear hl hj e hq hr hp hz hoa b8 hsm hkq
      go_wp2
      go_still_tail 16, (by kernel_rfl)
      change wpList _ _ _ _ _ wr.drew
      clear d1 d4 d5 d6
      go_wp2
      go_roundw
      case rel => exact ⟨k, by omega, by go_num, HST.out.drew⟩
      case measure => simp [intOf]
end Go.Proofs.YtdepkfdceidikaaDoor
/-
  avouchlaw01.speaks: the document's example holds.
-/
namespace Go.Proofs.YtdepkfdceidikaaDoor
open Go.RowKit
set_option linter.unusedVariables false

/-- A slice of one word that is built: it is read; nothing old has turned. -/
theorem built1 (w : World) (X : Int) (n : Nat) (hX : X = (n : Int)) (hn : n < 18446744073709551616) : Rd (w.alloc (.cells #[.int .u64 X] 24)) (w.alloc (.cells #[.int .u64 X] 24)).heap.size (some ⟨w.heap.size, 0, none⟩) 1 [n] ∧ Below w.heap.size w (w.alloc (.cells #[.int .u64 X] 24)) := by
  have h := rd_one w X n hX hn
  refine ⟨?_, (Below.refl _ _).alloc (Nat.le_refl _) _⟩
  have hz : (w.alloc (.cells #[.int .u64 X] 24)).heap.size = w.heap.size + 1 := by simp
  rw [hz]; exact h

theorem rt7 : Rt [7] := by unfold Rt; decide

theorem one_word {r : List Nat} {X : Nat} (h : r.length = 1) (hr : allLt r) (hv : val 18446744073709551616 r = X) : r = [X] := by
  match r, h with
  | [x], _ => rw [val_one] at hv; rw [hv]

theorem built2 (w : World) (X Y : Int) (m n : Nat) (hX : X = (m : Int)) (hY : Y = (n : Int)) (hm : m < 18446744073709551616) (hn : n < 18446744073709551616) (W : World) (hW : W = (w.alloc (.cells #[.int .u64 X] 24)).alloc (.cells #[.int .u64 Y] 24)) :
    Rd W W.heap.size (some ⟨w.heap.size, 0, none⟩) 1 [m] ∧ Rd W W.heap.size (some ⟨w.heap.size + 1, 0, none⟩) 1 [n] ∧ Below w.heap.size w W := by
  obtain ⟨r1, b1⟩ := built1 w X m hX hm
  obtain ⟨r2, b2⟩ := built1 (w.alloc (.cells #[.int .u64 X] 24)) Y n hY hn
  have hz : (w.alloc (.cells #[.int .u64 X] 24)).heap.size = w.heap.size + 1 := by simp
  rw [← hW] at r2 b2
  have r1' := r1.up b2 (Nat.le_refl _)
  rw [hz] at r2
  exact ⟨r1', r2, b1.trans (b2.mono b1.size)⟩

end Go.Proofs.YtdepkfdceidikaaDoor
/-
  Small facts for the laws' walks.
-/
namespace Go.Proofs.YtdepkfdceidikaaDoor
open Go.RowKit
set_option linter.unusedVariables false

theorem bchain {a b c : World} (h : Below a.heap.size a b) (k : Below b.heap.size b c) : Below a.heap.size a c := h.trans (k.mono h.size)
theorem rt_pos {l : List Nat} (hl : allLt l) (h : Rt l) : 0 < val 18446744073709551616 l := by
  have h1 := h.1
  have h4 := h.2.2.2.1
  have e : val 18446744073709551616 l = pv 18446744073709551616 l (l.length - 1 + 1) := by unfold val; rw [show l.length - 1 + 1 = l.length by omega]
  rw [e, pv_succ]
  have : 0 < l.getD (l.length - 1) 0 * 18446744073709551616 ^ (l.length - 1) := Nat.mul_pos (Nat.pos_of_ne_zero h4) (Nat.pow_pos (by decide))
  omega
theorem eq_of_val {w w' : World} {B B' n : Nat} {A A' : Option Addr} {l l' : List Nat} (h : Rd w B A n l) (h' : Rd w' B' A' n l') (e : val 18446744073709551616 l = val 18446744073709551616 l') : l = l' :=
  val_inj _ (by decide) l l' h.lt h'.lt (h.len.trans h'.len.symm) e
theorem sub_add_mod (x y m : Nat) (hm : 0 < m) : ((x % m + m - y % m) % m + y) % m = x % m := by
  have h1 := Nat.mod_lt x hm
  have h2 := Nat.mod_lt y hm
  rw [Nat.mod_add_mod, ← Nat.add_mod_mod, show x % m + m - y % m + y % m = x % m + m by omega, Nat.add_mod_right, Nat.mod_mod]
theorem pow_three (x : Nat) : x ^ 3 = x * (x * x) := by rw [Nat.pow_succ, Nat.pow_two, Nat.mul_comm]

theorem BlkW.rdAll {w : World} {b : Nat} {ws : List Nat} (h : BlkW w b 24 ws) : Rd w w.heap.size (some ⟨b, 0, none⟩) ws.length ws := by
  have rd := h.rd (off := 0) (n := ws.length) (B := w.heap.size) (by omega) h.size
  rw [List.drop_zero, List.take_length] at rd
  exact rd
theorem lsub_w (A B : Option Addr) (na nb ca cb : Nat) (la lb : List Nat) (w : World) (ha : Rd w w.heap.size A na la) (hb : Rd w w.heap.size B nb lb) (hna : na ≤ 10000) (hnb : nb ≤ 10000) :
    Calls Tryd.prog 69 #[.slice A na ca, .slice B nb cb] w fun e w' => ∃ r q : _, e = .returned (.tuple #[.slice (some ⟨w.heap.size, 0, none⟩) (r : List Nat).length r.length, .int .u64 ((q : Nat) : Int)]) ∧ BlkW w' w.heap.size 24 r ∧ r.length = max na nb ∧
      val 18446744073709551616 r + val 18446744073709551616 lb = val 18446744073709551616 la + q * 18446744073709551616 ^ r.length ∧ q ≤ 1 ∧ Below w.heap.size w w' := by
  refine (sub_c A B na nb ca cb la lb w ha hb (by omega) (by omega)).mono ?_
  rintro e w' ⟨q, rfl, ws, hl, hB, hbl, hc, he⟩
  refine ⟨ws, q, by rw [hl], hB, hl, ?_, hc, hbl⟩
  rw [hl]
  rw [pv_out _ la _ (by rw [ha.len]; omega), pv_out _ lb _ (by rw [hb.len]; omega)] at he
  have e1 : val 18446744073709551616 ws = pv 18446744073709551616 ws (max na nb) := by unfold val; rw [hl]
  rw [e1]
  exact he
theorem builtTwo (w : World) (X Y : Int) (m n : Nat) (hX : X = (m : Int)) (hY : Y = (n : Int)) (hm : m < 18446744073709551616) (hn : n < 18446744073709551616) :
    Rd (w.alloc (.cells #[.int .u64 X, .int .u64 Y] 24)) (w.alloc (.cells #[.int .u64 X, .int .u64 Y] 24)).heap.size (some ⟨w.heap.size, 0, none⟩) 2 [m, n] ∧ Below w.heap.size w (w.alloc (.cells #[.int .u64 X, .int .u64 Y] 24)) := by
  subst hX hY
  refine ⟨⟨rfl, fun x hx => by simp at hx; omega, fun _ => ⟨w.heap.size, 0, rfl, by simp, fun i hi => ?_⟩⟩, (Below.refl _ _).alloc (Nat.le_refl _) _⟩
  have : i = 0 ∨ i = 1 := by omega
  rcases this with rfl | rfl <;> simp [at64]
theorem val_shift (x : Nat) : x * val 18446744073709551616 [0, 1] = x * 18446744073709551616 := by
  have : val 18446744073709551616 [0, 1] = 18446744073709551616 := by decide
  rw [this]
theorem blen_shift (x : Nat) : (blen (x * 18446744073709551616) = 0 ∧ blen x = 0) ∨ (blen (x * 18446744073709551616) = blen x + 64 ∧ 1 ≤ blen x) := by
  rcases Nat.eq_zero_or_pos x with h | h
  · subst h; exact .inl ⟨rfl, rfl⟩
  · right
    have h0 : x ≠ 0 := by omega
    have e : blen x = x.log2 + 1 := by unfold blen; rw [if_neg h0]
    have h1 := Nat.log2_self_le h0
    have h2 : x < 2 ^ (x.log2 + 1) := Nat.lt_log2_self
    have hb : blen (x * 18446744073709551616) = (x.log2 + 64) + 1 := by
      apply blen_eq
      · rw [Nat.pow_add]; exact Nat.mul_le_mul_right _ h1
      · rw [show x.log2 + 64 + 1 = (x.log2 + 1) + 64 by omega, Nat.pow_add]
        exact Nat.mul_lt_mul_of_pos_right h2 (by decide)
    omega

theorem val_bd {w : World} {B n N : Nat} {A : Option Addr} {l : List Nat} (h : Rd w B A n l) (hn : 2 * n ≤ N) : val 18446744073709551616 l < 4294967296 ^ N := by
  have h1 := val_lt _ (by decide) l h.lt
  rw [h.len, pow64] at h1
  exact Nat.lt_of_lt_of_le h1 (Nat.pow_le_pow_right (by decide) hn)
theorem add_bd {x y a b N : Nat} (h1 : x < 4294967296 ^ a) (h2 : y < 4294967296 ^ b) (ha : a + 1 ≤ N) (hb : b + 1 ≤ N) : x + y < 4294967296 ^ N := by
  have e1 : 4294967296 ^ a * 4294967296 ≤ 4294967296 ^ N := by rw [← Nat.pow_succ]; exact Nat.pow_le_pow_right (by decide) ha
  have e2 : 4294967296 ^ b * 4294967296 ≤ 4294967296 ^ N := by rw [← Nat.pow_succ]; exact Nat.pow_le_pow_right (by decide) hb
  generalize 4294967296 ^ a = P at *
  generalize 4294967296 ^ b = Q at *
  generalize 4294967296 ^ N = R at *
  omega
theorem mul_bd {x y a b : Nat} (h1 : x < 4294967296 ^ a) (h2 : y < 4294967296 ^ b) : x * y < 4294967296 ^ (a + b) := by
  rw [Nat.pow_add]; exact Nat.mul_lt_mul'' h1 h2
end Go.Proofs.YtdepkfdceidikaaDoor
/-
  Blocks of any cells, known whole: read, written, stored and loaded whole. Helpers for the walks; nothing of the program.
-/
namespace Go.Proofs.YtdepkfdceidikaaDoor
open Go.RowKit
set_option linter.unusedVariables false

/-- Block b is just the cells vs (of type t), none frozen. -/
structure BlkV (w : World) (b : Nat) (t : TypeId) (vs : List Value) : Prop where
  heap : w.heap[b]? = some (.cells vs.toArray t (0, 0))
theorem BlkV.size {w : World} {b : Nat} {t : TypeId} {vs : List Value} (h : BlkV w b t vs) : b < w.heap.size := by
  rcases Nat.lt_or_ge b w.heap.size with hlt | hge
  · exact hlt
  · have := h.heap; rw [Array.getElem?_eq_none hge] at this; cases this
theorem BlkV.cell {w : World} {b : Nat} {t : TypeId} {vs : List Value} (h : BlkV w b t vs) {i : Nat} (hi : i < vs.length) : w.cell? ⟨b, i, none⟩ = some vs[i] := by
  rw [cell_of_row w b i _ t (0, 0) h.heap]
  simp [List.getElem?_eq_getElem hi]
theorem BlkV.frozen {w : World} {b : Nat} {t : TypeId} {vs : List Value} (h : BlkV w b t vs) (i : Nat) : w.frozen? ⟨b, i, none⟩ = false := by
  simp [World.frozen?, h.heap]
theorem BlkV.below {w w' : World} {b B : Nat} {t : TypeId} {vs : List Value} (h : BlkV w b t vs) (hb : Below B w w') (hB : b < B) : BlkV w' b t vs := ⟨(hb.block b hB).trans h.heap⟩
theorem BlkV.up {w w' : World} {b : Nat} {t : TypeId} {vs : List Value} (h : BlkV w b t vs) (hb : Below w.heap.size w w') : BlkV w' b t vs := h.below hb h.size
theorem BlkV.alloc {w : World} {b : Nat} {t : TypeId} {vs : List Value} (h : BlkV w b t vs) (o : Obj) : BlkV (w.alloc o) b t vs := h.below ((Below.refl _ _).alloc (Nat.le_refl _) o) h.size
theorem BlkV.drewN {w : World} {b : Nat} {t : TypeId} {vs : List Value} (h : BlkV w b t vs) (n : Nat) : BlkV (w.drewN n) b t vs := ⟨h.heap⟩
theorem BlkV.drew {w : World} {b : Nat} {t : TypeId} {vs : List Value} (h : BlkV w b t vs) : BlkV w.drew b t vs := ⟨h.heap⟩
theorem BlkV.new (w : World) (t : TypeId) (vs : List Value) : BlkV (w.alloc (.cells vs.toArray t)) w.heap.size t vs := ⟨heap_alloc_new w _⟩
theorem BlkV.set {w : World} {b : Nat} {t : TypeId} {vs : List Value} (h : BlkV w b t vs) (i : Nat) (v : Value) : BlkV (w.setCell ⟨b, i, none⟩ v) b t (vs.set i v) := by
  refine ⟨?_⟩
  simp [World.setCell, Array.getElem?_modify, h.heap]
theorem BlkV.other {w : World} {b c i : Nat} {t : TypeId} {v : Value} {vs : List Value} (h : BlkV w b t vs) (hne : b ≠ c) : BlkV (w.setCell ⟨c, i, none⟩ v) b t vs := by
  refine ⟨?_⟩
  simp only [World.setCell]
  rw [Array.getElem?_modify, if_neg (by omega)]
  exact h.heap
theorem BlkV.put {b c : Nat} {t : TypeId} {vs : List Value} (hne : b ≠ c) : ∀ (us : List Value) (o : Nat) (w : World), BlkV w b t vs → BlkV (w.setCells c o us) b t vs
  | [], _, _, h => h
  | u :: us, o, w, h => BlkV.put hne us (o + 1) _ (h.other hne)
theorem BlkV.range {w : World} {b : Nat} {t : TypeId} {vs : List Value} (h : BlkV w b t vs) : w.rangeAt b 0 vs := fun j v hv => by
  have hj := (List.getElem?_eq_some_iff.1 hv).1
  rw [show 0 + j = j by omega, h.cell hj, ← hv, List.getElem?_eq_getElem hj]
/-- A piece of it. -/
theorem BlkV.rangeAt {w : World} {b : Nat} {t : TypeId} {vs : List Value} (h : BlkV w b t vs) (o n : Nat) (hn : o + n ≤ vs.length) : w.rangeAt b o ((vs.drop o).take n) := fun j v hv => by
  have hj := (List.getElem?_eq_some_iff.1 hv).1
  have hj2 : j < n ∧ o + j < vs.length := by simp at hj; omega
  rw [h.cell (i := o + j) hj2.2, ← hv, List.getElem?_take_of_lt hj2.1, List.getElem?_drop, List.getElem?_eq_getElem hj2.2]
theorem BlkV.there {w : World} {b : Nat} {t : TypeId} {vs : List Value} (h : BlkV w b t vs) (o n : Nat) (hn : o + n ≤ vs.length) : w.there b o n := fun j hj => by
  rw [h.cell (i := o + j) (by omega)]
  exact ⟨rfl, h.frozen _⟩
/-- Cells stored over a block. -/
theorem BlkV.over {b : Nat} {t : TypeId} : ∀ (us : List Value) (o : Nat) (w : World) (vs : List Value), BlkV w b t vs → o + us.length ≤ vs.length → BlkV (w.setCells b o us) b t (vs.take o ++ us ++ vs.drop (o + us.length))
  | [], o, w, vs, h, hl => by
    have e : vs.take o ++ [] ++ vs.drop (o + ([] : List Value).length) = vs := by simp
    rw [e]; exact h
  | u :: us, o, w, vs, h, hl => by
    have h1 := BlkV.over us (o + 1) _ _ (h.set o u) (by simp at hl ⊢; omega)
    have hl' : o < vs.length := by simp at hl; omega
    have e : (vs.set o u).take (o + 1) ++ us ++ (vs.set o u).drop (o + 1 + us.length) = vs.take o ++ (u :: us) ++ vs.drop (o + (u :: us).length) := by
      rw [List.drop_set_of_lt (by omega), List.take_succ_eq_append_getElem (by simpa using hl')]
      simp [List.take_set_of_le (Nat.le_refl o), show o + 1 + us.length = o + (us.length + 1) by omega]
    rw [e] at h1
    exact h1
theorem BlkV.whole {b : Nat} {t : TypeId} {w : World} {vs : List Value} (us : List Value) (h : BlkV w b t vs) (hl : us.length = vs.length) : BlkV (w.setCells b 0 us) b t us := by
  have h1 := BlkV.over us 0 w vs h (by omega)
  have e : vs.take 0 ++ us ++ vs.drop (0 + us.length) = us := by simp [hl]
  rw [e] at h1
  exact h1
theorem storeV {P : Program} {w : World} {b : Nat} {t : TypeId} {vs : List Value} (us : List Value) (o : Nat) (h : BlkV w b t vs) (hl : o + us.length ≤ vs.length) (h1 : ∀ v ∈ us, v.oneCell' = true) :
    (storeCells ⟨b, o, none⟩ us).run P w = .ok () (w.setCells b o us) :=
  run_storeCells_cells (P := P) b o us 0 w (fun j hj => by have := h.there o us.length hl j hj; simpa using this.1) (fun j hj => by have := h.there o us.length hl j hj; simpa using this.2) h1
theorem loadV {P : Program} {w : World} {b : Nat} {t : TypeId} {vs : List Value} (h : BlkV w b t vs) (n : Nat) (hn : n = vs.length) : (loadCellsFrom ⟨b, 0, none⟩ 0 n #[]).run P w = .ok vs.toArray w := by
  subst hn
  exact run_loadCells_list (P := P) w ⟨b, 0, none⟩ vs (fun j u hu => by rw [Addr.add_mid]; exact h.range j u hu)
theorem results_cell1 {fn : Func} {p : Tmp} {ty : TypeId} {P : Program} {w : World} {tmps : Array Value} (h : fn.results = #[.cell p ty]) (a : Addr) (v : Value) (hp : tmps.getD p undef = .pointer (some a)) (hl : (loadVar ty a).run P w = .ok v w) :
    (results fn tmps).run P w = .ok v w := by
  have e : (results fn tmps).run P w = ((asAddr (tmps.getD p undef)).run P w).andThen fun a w₁ => (loadVar ty a).run P w₁ := by
    simp only [results, h]
    simp [Sem.run_bind, Result.andThen]
  rw [e, hp]
  simp [asAddr, Result.andThen, hl]
theorem below_cells {B b : Nat} {a : World} (hb : B ≤ b) : ∀ (vs : List Value) (o : Nat) (w : World), Below B a w → Below B a (w.setCells b o vs)
  | [], _, _, h => h
  | v :: r, o, w, h => below_cells hb r (o + 1) _ (h.setCell (p := ⟨b, o, none⟩) hb v)
theorem results_none7 {fn : Func} {P : Program} {w : World} {tmps : Array Value} (h : fn.results = #[]) : (results fn tmps).run P w = .ok (.tuple #[]) w := by
  simp [results, h]
theorem results_cell_tmp0 {fn : Func} {p q : Tmp} {ty : TypeId} {P : Program} {w : World} {tmps : Array Value} (h : fn.results = #[.cell p ty, .tmp q]) (a : Addr) (v u : Value) (hp : tmps.getD p undef = .pointer (some a)) (hl : (loadVar ty a).run P w = .ok v w) (hq : tmps.getD q undef = u) :
    (results fn tmps).run P w = .ok (.tuple #[v, u]) w := by
  have hp' : tmps[p]?.getD undef = .pointer (some a) := by simpa using hp
  have hq' : tmps[q]?.getD undef = u := by simpa using hq
  simp only [results, h]
  simp [hp', asAddr, hl, hq', Result.andThen]
end Go.Proofs.YtdepkfdceidikaaDoor
