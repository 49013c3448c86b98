import Derived.Test.YtdepkfdceidikaaGreatDoorBytesB
import Derived.Test.YtdepkfdceidikaaGreatDoorLOpsC
import Derived.Test.YtdepkfdceidikaaGreatDoorRefC
import Derived.Test.YtdepkfdceidikaaGreatDoorLMul
import Derived.Deep.MidRow
import Derived.Laws.CopyOwn
import Derived.Laws.BytesArg
import Derived.Deep.RegionLaw
import Derived.Deep.RegionWith
import Derived.StillTailTactics
/-
  avouchref01.OfBytes: what the call does.
-/
namespace Go.Proofs.YtdepkfdceidikaaGreatDoor
open Go.RowKit
set_option linter.unusedVariables false

/-- Digit j of the digits of b, when the bytes from k on are laid. -/
def ob (b : List Nat) (k j : Nat) : Nat := pv 256 (b.drop (max k (4 * j))) (4 * j + 4 - max k (4 * j))
theorem ob_lt (b : List Nat) (h : allLt8 b) (k j : Nat) : ob b k j < 4294967296 := by
  have h1 := pv_lt 256 (by decide) _ (lt8_drop h (max k (4 * j))) (4 * j + 4 - max k (4 * j))
  have h2 : 256 ^ (4 * j + 4 - max k (4 * j)) ≤ 256 ^ 4 := Nat.pow_le_pow_right (by decide) (by omega)
  unfold ob; omega
theorem ob_small (b : List Nat) (h : allLt8 b) (k q r : Nat) (hk : k = 4 * q + r) (hr : r < 4) : ob b (k + 1) q < 16777216 := by
  have h1 := pv_lt 256 (by decide) _ (lt8_drop h (max (k + 1) (4 * q))) (4 * q + 4 - max (k + 1) (4 * q))
  have h2 : 256 ^ (4 * q + 4 - max (k + 1) (4 * q)) ≤ 256 ^ 3 := Nat.pow_le_pow_right (by decide) (by omega)
  unfold ob; omega
theorem pv_cons (W : Nat) (l : List Nat) (m : Nat) : pv W l (m + 1) = pv W (l.drop 1) m * W + l.getD 0 0 := by
  rw [Nat.add_comm m 1, pv_drop, pv_succ, pv_zero, Nat.pow_one, Nat.pow_zero, Nat.mul_one, Nat.zero_add, Nat.mul_comm, Nat.add_comm]
theorem ob_at (b : List Nat) (k q r : Nat) (hk : k = 4 * q + r) (hr : r < 4) : ob b k q = ob b (k + 1) q * 256 + b.getD k 0 := by
  unfold ob
  rw [show max k (4 * q) = k by omega, show max (k + 1) (4 * q) = k + 1 by omega, show 4 * q + 4 - k = (4 * q + 4 - (k + 1)) + 1 by omega, pv_cons, List.drop_drop, getD_drop, Nat.add_zero k]
theorem ob_ne (b : List Nat) (k q r j : Nat) (hk : k = 4 * q + r) (hr : r < 4) (hj : j ≠ q) : ob b k j = ob b (k + 1) j := by
  unfold ob
  by_cases hc : j < q
  · rw [show 4 * j + 4 - max k (4 * j) = 0 by omega, show 4 * j + 4 - max (k + 1) (4 * j) = 0 by omega]; rfl
  · rw [show max k (4 * j) = max (k + 1) (4 * j) by omega]
theorem ob_start (b : List Nat) (n j : Nat) (h : b.length = n) : ob b n j = 0 := by
  unfold ob
  rw [List.drop_eq_nil_of_le (by omega), pv_empty]

/-- The relation of the loop of OfBytes: the bytes from k on are laid. -/
def ObRel (w : World) (m : Nat) (b : List Nat) (wr : World) (k : Nat) : Prop :=
  ∃ ws : List Nat, ws.length = m ∧ BlkW wr w.heap.size 34 ws ∧ Below w.heap.size w wr ∧ ∀ j, j < m → ws.getD j 0 = ob b k j
theorem ObRel.drew {w wr : World} {m k : Nat} {b : List Nat} (h : ObRel w m b wr k) : ObRel w m b wr.drew k := by
  obtain ⟨ws, hl, hB, hb, hj⟩ := h
  exact ⟨ws, hl, ⟨hB.heap, hB.lt⟩, hb.drew, hj⟩
theorem ObRel.step {w wr : World} {m k q r : Nat} {b : List Nat} (h8 : allLt8 b) (h : ObRel w m b wr (k + 1)) (hk : k = 4 * q + r) (hr : r < 4) (hq : q < m) (v : Int) (hv : v = (ob b k q : Nat)) :
    ObRel w m b (wr.setCell ⟨w.heap.size, q, none⟩ (.int .u64 v)) k := by
  obtain ⟨ws, hl, hB, hb, hj⟩ := h
  refine ⟨ws.set q (ob b k q), by simp [hl], hB.setI _ _ _ (Nat.lt_trans (ob_lt _ h8 _ _) (by decide)) hv, hb.setCell (Nat.le_refl _) _, fun j hjm => ?_⟩
  by_cases hjq : j = q
  · subst hjq
    rw [getD_set_eq _ _ _ (by omega)]
  · rw [getD_set_ne _ _ _ _ (by omega), hj j hjm, ob_ne b k q r j hk hr hjq]
theorem ObRel.end_ {w wr : World} {m n : Nat} {b : List Nat} (h8 : allLt8 b) (h : ObRel w m b wr 0) (hn : b.length = n) (hm : n ≤ 4 * m) :
    ∃ ws, ws.length = m ∧ BlkW wr w.heap.size 34 ws ∧ D32 ws ∧ Below w.heap.size w wr ∧ val 4294967296 ws = val 256 b := by
  obtain ⟨ws, hl, hB, hb, hj⟩ := h
  refine ⟨ws, hl, hB, fun x hx => ?_, hb, ?_⟩
  · obtain ⟨i, hi, rfl⟩ := List.mem_iff_getElem.1 hx
    have := hj i (by omega)
    rw [List.getD_eq_getElem?_getD, List.getElem?_eq_getElem hi] at this
    have e : ws[i] = ob b 0 i := this
    rw [e]; exact ob_lt b h8 0 i
  · have e := pv_chunks 4 ws b m fun j hjm => by
      rw [hj j hjm]; unfold ob
      rw [show max 0 (4 * j) = 4 * j by omega, show 4 * j + 4 - 4 * j = 4 by omega]
    rw [pv_out 256 b _ (by omega)] at e
    rw [← e]
    unfold val
    rw [hl]

set_option maxRecDepth 100000 in
set_option maxHeartbeats 1000000 in
theorem ofBytes_c (A : Option Addr) (n c : Nat) (b : List Nat) (w : World) (ha : Rd8 w w.heap.size A n b) (hn : n ≤ 1000) :
    Calls Tryz.prog 32 #[.slice A n c] w fun e w' => Dig w e w' (val 256 b) := by
  obtain ⟨m, hm⟩ : ∃ m, m = n / 4 + 1 := ⟨_, rfl⟩
  have hmk := make64I m m (Nat.le_refl _) (by omega) ((n : Int) / 4 + 1) ((n : Int) / 4 + 1) (by omega) (by omega)
  have hm1 : n < 4 * m := by omega
  have hm2 : m ≤ n + 1 := by omega
  clear hm
  go_enter Tryz.func32, Tryz.ntmps32
  go_wp2
  clear hmk
  go_loopw [4] (fun i wr => ∃ k : Nat, k ≤ n ∧ i = .int .i64 ((k : Int) - 1) ∧ ObRel w m b wr k) (fun i _ => (intOf i + 1).toNat)
  case atStart =>
    refine ⟨n, Nat.le_refl _, by go_num, List.replicate m 0, by simp, blk_zeros w _, (Below.refl _ _).alloc (Nat.le_refl _) _, fun j hj => ?_⟩
    rw [ob_start b n j ha.len, List.getD_eq_getElem?_getD, List.getElem?_replicate, if_pos hj]; rfl
  case round =>
    obtain ⟨k, hk, rfl, hrel⟩ := hrel
    rcases k with _ | k
    · obtain ⟨ws, hl, hB, hd, hb, hV⟩ := hrel.end_ ha.lt ha.len (by omega)
      have rd := hB.rd (off := 0) (n := m) (B := wr.heap.size) (by omega) hB.size
      have ee : (ws.drop 0).take m = ws := by rw [List.drop_zero, List.take_of_length_le (by omega)]
      rw [ee] at rd
      have HV := hid hV
      clear hl hV ee
      go_wp2_with fail
      refine (trim_c _ _ _ _ ws _ rd (by omega) (Nat.le_refl _)).mono ?_
      rintro e w' ⟨mm, hmm, he, hw, ht, hzz⟩
      have hD := dig_of_trim rd hd hb hmm (Nat.le_refl _) he hw ht hzz
      rw [HV.out] at hD
      clear hmm he hw ht hzz
      obtain ⟨A', c', l', rfl, r'⟩ := hD
      have R := hid r'
      clear r'
      go_wp2
      go_ret
      exact ⟨A', c', l', rfl, R.out⟩
    · have e1 : (((k + 1 : Nat) : Int) - 1) = (k : Int) := by omega
      rw [e1]
      clear e1
      have hlt : k < n := by omega
      obtain ⟨ws, hl, hB, hb, hj⟩ := id hrel
      obtain ⟨ba, oa, rfl, hba, hca⟩ := (ha.below hb (Nat.le_refl _)).at_ hlt
      obtain ⟨q, hq⟩ : ∃ q, q = k / 4 := ⟨_, rfl⟩
      obtain ⟨r, hr⟩ : ∃ r, r = k % 4 := ⟨_, rfl⟩
      have hkq : k = 4 * q + r := by omega
      have hr4 : r < 4 := by omega
      have hqm : q < m := by omega
      have hcell := hB.cell (i := q) (by omega)
      have hfz := hB.frozen q
      have hsm := ob_small b ha.lt k q r hkq hr4
      have e := hj q hqm
      have b8 := getD_lt _ (by decide) b ha.lt k
      obtain ⟨p, hp⟩ : ∃ p, p = ws.getD q 0 * 256 := ⟨_, rfl⟩
      obtain ⟨z, hz⟩ : ∃ z, z = ob b k q := ⟨_, rfl⟩
      have hoa := ob_at b k q r hkq hr4
      have d1 : IntKind.i64.wrap ((k : Int) / 4) = (q : Int) := by rw [IntKind.wrap_i64]; omega
      have d4 : IntKind.u64.wrap (at64 b k) = at64 b k := by rw [IntKind.wrap_u64]; unfold at64; omega
      have d5 : IntKind.u64.wrap (at64 ws q * 256) = (p : Int) := by rw [IntKind.wrap_u64, hp]; unfold at64; omega
      have d6 : IntKind.u64.wrap ((p : Int) + at64 b k) = (z : Int) := by rw [IntKind.wrap_u64]; unfold at64; omega
      have HST := hid (ObRel.step ha.lt hrel hkq hr4 hqm (z : Int) (by rw [hz]))
      have i0 : (0 : Int) ≤ (q : Int) := by omega
      have i1 : (q : Int) < (m : Int) := by omega
      have i2 : (0 : Int) ≤ (k : Int) := by omega
      have i3 : (k : Int) < (n : Int) := by omega
      have x0 := at64_nonneg b k
      have x1 := at64_nonneg ws q
      clear hl hj e hq hr hp hz hoa b8 hsm hkq
      go_wp2
      go_still_tail 16, (by kernel_rfl)
      change wpList _ _ _ _ _ wr.drew
      clear d1 d4 d5 d6
      go_wp2
      go_roundw
      case rel => exact ⟨k, by omega, by go_num, HST.out.drew⟩
      case measure => simp [intOf]
end Go.Proofs.YtdepkfdceidikaaGreatDoor
/-
  avouchlaw01.speaks: the document's example holds.
-/
namespace Go.Proofs.YtdepkfdceidikaaGreatDoor
open Go.RowKit
set_option linter.unusedVariables false

/-- A slice of one word that is built: it is read; nothing old has turned. -/
theorem built1 (w : World) (X : Int) (n : Nat) (hX : X = (n : Int)) (hn : n < 18446744073709551616) : Rd (w.alloc (.cells #[.int .u64 X] 34)) (w.alloc (.cells #[.int .u64 X] 34)).heap.size (some ⟨w.heap.size, 0, none⟩) 1 [n] ∧ Below w.heap.size w (w.alloc (.cells #[.int .u64 X] 34)) := by
  have h := rd_one w X n hX hn
  refine ⟨?_, (Below.refl _ _).alloc (Nat.le_refl _) _⟩
  have hz : (w.alloc (.cells #[.int .u64 X] 34)).heap.size = w.heap.size + 1 := by simp
  rw [hz]; exact h

theorem rt7 : Rt [7] := by unfold Rt; decide

theorem one_word {r : List Nat} {X : Nat} (h : r.length = 1) (hr : allLt r) (hv : val 18446744073709551616 r = X) : r = [X] := by
  match r, h with
  | [x], _ => rw [val_one] at hv; rw [hv]

theorem built2 (w : World) (X Y : Int) (m n : Nat) (hX : X = (m : Int)) (hY : Y = (n : Int)) (hm : m < 18446744073709551616) (hn : n < 18446744073709551616) (W : World) (hW : W = (w.alloc (.cells #[.int .u64 X] 34)).alloc (.cells #[.int .u64 Y] 34)) :
    Rd W W.heap.size (some ⟨w.heap.size, 0, none⟩) 1 [m] ∧ Rd W W.heap.size (some ⟨w.heap.size + 1, 0, none⟩) 1 [n] ∧ Below w.heap.size w W := by
  obtain ⟨r1, b1⟩ := built1 w X m hX hm
  obtain ⟨r2, b2⟩ := built1 (w.alloc (.cells #[.int .u64 X] 34)) Y n hY hn
  have hz : (w.alloc (.cells #[.int .u64 X] 34)).heap.size = w.heap.size + 1 := by simp
  rw [← hW] at r2 b2
  have r1' := r1.up b2 (Nat.le_refl _)
  rw [hz] at r2
  exact ⟨r1', r2, b1.trans (b2.mono b1.size)⟩

end Go.Proofs.YtdepkfdceidikaaGreatDoor
/-
  Small facts for the laws' walks.
-/
namespace Go.Proofs.YtdepkfdceidikaaGreatDoor
open Go.RowKit
set_option linter.unusedVariables false

theorem bchain {a b c : World} (h : Below a.heap.size a b) (k : Below b.heap.size b c) : Below a.heap.size a c := h.trans (k.mono h.size)
theorem rt_pos {l : List Nat} (hl : allLt l) (h : Rt l) : 0 < val 18446744073709551616 l := by
  have h1 := h.1
  have h4 := h.2.2.2.1
  have e : val 18446744073709551616 l = pv 18446744073709551616 l (l.length - 1 + 1) := by unfold val; rw [show l.length - 1 + 1 = l.length by omega]
  rw [e, pv_succ]
  have : 0 < l.getD (l.length - 1) 0 * 18446744073709551616 ^ (l.length - 1) := Nat.mul_pos (Nat.pos_of_ne_zero h4) (Nat.pow_pos (by decide))
  omega
theorem eq_of_val {w w' : World} {B B' n : Nat} {A A' : Option Addr} {l l' : List Nat} (h : Rd w B A n l) (h' : Rd w' B' A' n l') (e : val 18446744073709551616 l = val 18446744073709551616 l') : l = l' :=
  val_inj _ (by decide) l l' h.lt h'.lt (h.len.trans h'.len.symm) e
theorem sub_add_mod (x y m : Nat) (hm : 0 < m) : ((x % m + m - y % m) % m + y) % m = x % m := by
  have h1 := Nat.mod_lt x hm
  have h2 := Nat.mod_lt y hm
  rw [Nat.mod_add_mod, ← Nat.add_mod_mod, show x % m + m - y % m + y % m = x % m + m by omega, Nat.add_mod_right, Nat.mod_mod]
theorem pow_three (x : Nat) : x ^ 3 = x * (x * x) := by rw [Nat.pow_succ, Nat.pow_two, Nat.mul_comm]

theorem BlkW.rdAll {w : World} {b : Nat} {ws : List Nat} (h : BlkW w b 34 ws) : Rd w w.heap.size (some ⟨b, 0, none⟩) ws.length ws := by
  have rd := h.rd (off := 0) (n := ws.length) (B := w.heap.size) (by omega) h.size
  rw [List.drop_zero, List.take_length] at rd
  exact rd
theorem lsub_w (A B : Option Addr) (na nb ca cb : Nat) (la lb : List Nat) (w : World) (ha : Rd w w.heap.size A na la) (hb : Rd w w.heap.size B nb lb) (hna : na ≤ 10000) (hnb : nb ≤ 10000) :
    Calls Tryz.prog 76 #[.slice A na ca, .slice B nb cb] w fun e w' => ∃ r q : _, e = .returned (.tuple #[.slice (some ⟨w.heap.size, 0, none⟩) (r : List Nat).length r.length, .int .u64 ((q : Nat) : Int)]) ∧ BlkW w' w.heap.size 34 r ∧ r.length = max na nb ∧
      val 18446744073709551616 r + val 18446744073709551616 lb = val 18446744073709551616 la + q * 18446744073709551616 ^ r.length ∧ q ≤ 1 ∧ Below w.heap.size w w' := by
  refine (sub_c A B na nb ca cb la lb w ha hb (by omega) (by omega)).mono ?_
  rintro e w' ⟨q, rfl, ws, hl, hB, hbl, hc, he⟩
  refine ⟨ws, q, by rw [hl], hB, hl, ?_, hc, hbl⟩
  rw [hl]
  rw [pv_out _ la _ (by rw [ha.len]; omega), pv_out _ lb _ (by rw [hb.len]; omega)] at he
  have e1 : val 18446744073709551616 ws = pv 18446744073709551616 ws (max na nb) := by unfold val; rw [hl]
  rw [e1]
  exact he
theorem builtTwo (w : World) (X Y : Int) (m n : Nat) (hX : X = (m : Int)) (hY : Y = (n : Int)) (hm : m < 18446744073709551616) (hn : n < 18446744073709551616) :
    Rd (w.alloc (.cells #[.int .u64 X, .int .u64 Y] 34)) (w.alloc (.cells #[.int .u64 X, .int .u64 Y] 34)).heap.size (some ⟨w.heap.size, 0, none⟩) 2 [m, n] ∧ Below w.heap.size w (w.alloc (.cells #[.int .u64 X, .int .u64 Y] 34)) := by
  subst hX hY
  refine ⟨⟨rfl, fun x hx => by simp at hx; omega, fun _ => ⟨w.heap.size, 0, rfl, by simp, fun i hi => ?_⟩⟩, (Below.refl _ _).alloc (Nat.le_refl _) _⟩
  have : i = 0 ∨ i = 1 := by omega
  rcases this with rfl | rfl <;> simp [at64]
theorem val_shift (x : Nat) : x * val 18446744073709551616 [0, 1] = x * 18446744073709551616 := by
  have : val 18446744073709551616 [0, 1] = 18446744073709551616 := by decide
  rw [this]
theorem blen_shift (x : Nat) : (blen (x * 18446744073709551616) = 0 ∧ blen x = 0) ∨ (blen (x * 18446744073709551616) = blen x + 64 ∧ 1 ≤ blen x) := by
  rcases Nat.eq_zero_or_pos x with h | h
  · subst h; exact .inl ⟨rfl, rfl⟩
  · right
    have h0 : x ≠ 0 := by omega
    have e : blen x = x.log2 + 1 := by unfold blen; rw [if_neg h0]
    have h1 := Nat.log2_self_le h0
    have h2 : x < 2 ^ (x.log2 + 1) := Nat.lt_log2_self
    have hb : blen (x * 18446744073709551616) = (x.log2 + 64) + 1 := by
      apply blen_eq
      · rw [Nat.pow_add]; exact Nat.mul_le_mul_right _ h1
      · rw [show x.log2 + 64 + 1 = (x.log2 + 1) + 64 by omega, Nat.pow_add]
        exact Nat.mul_lt_mul_of_pos_right h2 (by decide)
    omega

theorem val_bd {w : World} {B n N : Nat} {A : Option Addr} {l : List Nat} (h : Rd w B A n l) (hn : 2 * n ≤ N) : val 18446744073709551616 l < 4294967296 ^ N := by
  have h1 := val_lt _ (by decide) l h.lt
  rw [h.len, pow64] at h1
  exact Nat.lt_of_lt_of_le h1 (Nat.pow_le_pow_right (by decide) hn)
theorem add_bd {x y a b N : Nat} (h1 : x < 4294967296 ^ a) (h2 : y < 4294967296 ^ b) (ha : a + 1 ≤ N) (hb : b + 1 ≤ N) : x + y < 4294967296 ^ N := by
  have e1 : 4294967296 ^ a * 4294967296 ≤ 4294967296 ^ N := by rw [← Nat.pow_succ]; exact Nat.pow_le_pow_right (by decide) ha
  have e2 : 4294967296 ^ b * 4294967296 ≤ 4294967296 ^ N := by rw [← Nat.pow_succ]; exact Nat.pow_le_pow_right (by decide) hb
  generalize 4294967296 ^ a = P at *
  generalize 4294967296 ^ b = Q at *
  generalize 4294967296 ^ N = R at *
  omega
theorem mul_bd {x y a b : Nat} (h1 : x < 4294967296 ^ a) (h2 : y < 4294967296 ^ b) : x * y < 4294967296 ^ (a + b) := by
  rw [Nat.pow_add]; exact Nat.mul_lt_mul'' h1 h2
end Go.Proofs.YtdepkfdceidikaaGreatDoor
/-
  Blocks of any cells, known whole: read, written, stored and loaded whole. Helpers for the walks; nothing of the program.
-/
namespace Go.Proofs.YtdepkfdceidikaaGreatDoor
open Go.RowKit
set_option linter.unusedVariables false

/-- Block b is just the cells vs (of type t), none frozen. -/
structure BlkV (w : World) (b : Nat) (t : TypeId) (vs : List Value) : Prop where
  heap : w.heap[b]? = some (.cells vs.toArray t (0, 0))
theorem BlkV.size {w : World} {b : Nat} {t : TypeId} {vs : List Value} (h : BlkV w b t vs) : b < w.heap.size := by
  rcases Nat.lt_or_ge b w.heap.size with hlt | hge
  · exact hlt
  · have := h.heap; rw [Array.getElem?_eq_none hge] at this; cases this
theorem BlkV.cell {w : World} {b : Nat} {t : TypeId} {vs : List Value} (h : BlkV w b t vs) {i : Nat} (hi : i < vs.length) : w.cell? ⟨b, i, none⟩ = some vs[i] := by
  rw [cell_of_row w b i _ t (0, 0) h.heap]
  simp [List.getElem?_eq_getElem hi]
theorem BlkV.frozen {w : World} {b : Nat} {t : TypeId} {vs : List Value} (h : BlkV w b t vs) (i : Nat) : w.frozen? ⟨b, i, none⟩ = false := by
  simp [World.frozen?, h.heap]
theorem BlkV.below {w w' : World} {b B : Nat} {t : TypeId} {vs : List Value} (h : BlkV w b t vs) (hb : Below B w w') (hB : b < B) : BlkV w' b t vs := ⟨(hb.block b hB).trans h.heap⟩
theorem BlkV.up {w w' : World} {b : Nat} {t : TypeId} {vs : List Value} (h : BlkV w b t vs) (hb : Below w.heap.size w w') : BlkV w' b t vs := h.below hb h.size
theorem BlkV.alloc {w : World} {b : Nat} {t : TypeId} {vs : List Value} (h : BlkV w b t vs) (o : Obj) : BlkV (w.alloc o) b t vs := h.below ((Below.refl _ _).alloc (Nat.le_refl _) o) h.size
theorem BlkV.drewN {w : World} {b : Nat} {t : TypeId} {vs : List Value} (h : BlkV w b t vs) (n : Nat) : BlkV (w.drewN n) b t vs := ⟨h.heap⟩
theorem BlkV.drew {w : World} {b : Nat} {t : TypeId} {vs : List Value} (h : BlkV w b t vs) : BlkV w.drew b t vs := ⟨h.heap⟩
theorem BlkV.new (w : World) (t : TypeId) (vs : List Value) : BlkV (w.alloc (.cells vs.toArray t)) w.heap.size t vs := ⟨heap_alloc_new w _⟩
theorem BlkV.set {w : World} {b : Nat} {t : TypeId} {vs : List Value} (h : BlkV w b t vs) (i : Nat) (v : Value) : BlkV (w.setCell ⟨b, i, none⟩ v) b t (vs.set i v) := by
  refine ⟨?_⟩
  simp [World.setCell, Array.getElem?_modify, h.heap]
theorem BlkV.other {w : World} {b c i : Nat} {t : TypeId} {v : Value} {vs : List Value} (h : BlkV w b t vs) (hne : b ≠ c) : BlkV (w.setCell ⟨c, i, none⟩ v) b t vs := by
  refine ⟨?_⟩
  simp only [World.setCell]
  rw [Array.getElem?_modify, if_neg (by omega)]
  exact h.heap
theorem BlkV.put {b c : Nat} {t : TypeId} {vs : List Value} (hne : b ≠ c) : ∀ (us : List Value) (o : Nat) (w : World), BlkV w b t vs → BlkV (w.setCells c o us) b t vs
  | [], _, _, h => h
  | u :: us, o, w, h => BlkV.put hne us (o + 1) _ (h.other hne)
theorem BlkV.range {w : World} {b : Nat} {t : TypeId} {vs : List Value} (h : BlkV w b t vs) : w.rangeAt b 0 vs := fun j v hv => by
  have hj := (List.getElem?_eq_some_iff.1 hv).1
  rw [show 0 + j = j by omega, h.cell hj, ← hv, List.getElem?_eq_getElem hj]
/-- A piece of it. -/
theorem BlkV.rangeAt {w : World} {b : Nat} {t : TypeId} {vs : List Value} (h : BlkV w b t vs) (o n : Nat) (hn : o + n ≤ vs.length) : w.rangeAt b o ((vs.drop o).take n) := fun j v hv => by
  have hj := (List.getElem?_eq_some_iff.1 hv).1
  have hj2 : j < n ∧ o + j < vs.length := by simp at hj; omega
  rw [h.cell (i := o + j) hj2.2, ← hv, List.getElem?_take_of_lt hj2.1, List.getElem?_drop, List.getElem?_eq_getElem hj2.2]
theorem BlkV.there {w : World} {b : Nat} {t : TypeId} {vs : List Value} (h : BlkV w b t vs) (o n : Nat) (hn : o + n ≤ vs.length) : w.there b o n := fun j hj => by
  rw [h.cell (i := o + j) (by omega)]
  exact ⟨rfl, h.frozen _⟩
/-- Cells stored over a block. -/
theorem BlkV.over {b : Nat} {t : TypeId} : ∀ (us : List Value) (o : Nat) (w : World) (vs : List Value), BlkV w b t vs → o + us.length ≤ vs.length → BlkV (w.setCells b o us) b t (vs.take o ++ us ++ vs.drop (o + us.length))
  | [], o, w, vs, h, hl => by
    have e : vs.take o ++ [] ++ vs.drop (o + ([] : List Value).length) = vs := by simp
    rw [e]; exact h
  | u :: us, o, w, vs, h, hl => by
    have h1 := BlkV.over us (o + 1) _ _ (h.set o u) (by simp at hl ⊢; omega)
    have hl' : o < vs.length := by simp at hl; omega
    have e : (vs.set o u).take (o + 1) ++ us ++ (vs.set o u).drop (o + 1 + us.length) = vs.take o ++ (u :: us) ++ vs.drop (o + (u :: us).length) := by
      rw [List.drop_set_of_lt (by omega), List.take_succ_eq_append_getElem (by simpa using hl')]
      simp [List.take_set_of_le (Nat.le_refl o), show o + 1 + us.length = o + (us.length + 1) by omega]
    rw [e] at h1
    exact h1
theorem BlkV.whole {b : Nat} {t : TypeId} {w : World} {vs : List Value} (us : List Value) (h : BlkV w b t vs) (hl : us.length = vs.length) : BlkV (w.setCells b 0 us) b t us := by
  have h1 := BlkV.over us 0 w vs h (by omega)
  have e : vs.take 0 ++ us ++ vs.drop (0 + us.length) = us := by simp [hl]
  rw [e] at h1
  exact h1
theorem storeV {P : Program} {w : World} {b : Nat} {t : TypeId} {vs : List Value} (us : List Value) (o : Nat) (h : BlkV w b t vs) (hl : o + us.length ≤ vs.length) (h1 : ∀ v ∈ us, v.oneCell' = true) :
    (storeCells ⟨b, o, none⟩ us).run P w = .ok () (w.setCells b o us) :=
  run_storeCells_cells (P := P) b o us 0 w (fun j hj => by have := h.there o us.length hl j hj; simpa using this.1) (fun j hj => by have := h.there o us.length hl j hj; simpa using this.2) h1
theorem loadV {P : Program} {w : World} {b : Nat} {t : TypeId} {vs : List Value} (h : BlkV w b t vs) (n : Nat) (hn : n = vs.length) : (loadCellsFrom ⟨b, 0, none⟩ 0 n #[]).run P w = .ok vs.toArray w := by
  subst hn
  exact run_loadCells_list (P := P) w ⟨b, 0, none⟩ vs (fun j u hu => by rw [Addr.add_mid]; exact h.range j u hu)
theorem results_cell1 {fn : Func} {p : Tmp} {ty : TypeId} {P : Program} {w : World} {tmps : Array Value} (h : fn.results = #[.cell p ty]) (a : Addr) (v : Value) (hp : tmps.getD p undef = .pointer (some a)) (hl : (loadVar ty a).run P w = .ok v w) :
    (results fn tmps).run P w = .ok v w := by
  have e : (results fn tmps).run P w = ((asAddr (tmps.getD p undef)).run P w).andThen fun a w₁ => (loadVar ty a).run P w₁ := by
    simp only [results, h]
    simp [Sem.run_bind, Result.andThen]
  rw [e, hp]
  simp [asAddr, Result.andThen, hl]
theorem below_cells {B b : Nat} {a : World} (hb : B ≤ b) : ∀ (vs : List Value) (o : Nat) (w : World), Below B a w → Below B a (w.setCells b o vs)
  | [], _, _, h => h
  | v :: r, o, w, h => below_cells hb r (o + 1) _ (h.setCell (p := ⟨b, o, none⟩) hb v)
theorem results_none7 {fn : Func} {P : Program} {w : World} {tmps : Array Value} (h : fn.results = #[]) : (results fn tmps).run P w = .ok (.tuple #[]) w := by
  simp [results, h]
theorem results_cell_tmp0 {fn : Func} {p q : Tmp} {ty : TypeId} {P : Program} {w : World} {tmps : Array Value} (h : fn.results = #[.cell p ty, .tmp q]) (a : Addr) (v u : Value) (hp : tmps.getD p undef = .pointer (some a)) (hl : (loadVar ty a).run P w = .ok v w) (hq : tmps.getD q undef = u) :
    (results fn tmps).run P w = .ok (.tuple #[v, u]) w := by
  have hp' : tmps[p]?.getD undef = .pointer (some a) := by simpa using hp
  have hq' : tmps[q]?.getD undef = u := by simpa using hq
  simp only [results, h]
  simp [hp', asAddr, hl, hq', Result.andThen]
end Go.Proofs.YtdepkfdceidikaaGreatDoor
/-
  Arrays as values, blocks of bytes and of words that are stored and loaded whole; digits as they are handed on (Dg); texts of bytes. Helpers for the walks; nothing of the program but avouchref01.
-/
namespace Go.Proofs.YtdepkfdceidikaaGreatDoor
open Go.RowKit
set_option linter.unusedVariables false

/-- Block b is just the bytes bs (of element type t), none frozen. -/
structure BlkB (w : World) (b : Nat) (t : TypeId) (bs : List Nat) : Prop where
  heap : w.heap[b]? = some (.cells (cells8 bs).toArray t (0, 0))
  lt : allLt8 bs
theorem BlkB.size {w : World} {b : Nat} {t : TypeId} {bs : List Nat} (h : BlkB w b t bs) : b < w.heap.size := by
  rcases Nat.lt_or_ge b w.heap.size with hlt | hge
  · exact hlt
  · have := h.heap; rw [Array.getElem?_eq_none hge] at this; cases this
theorem BlkB.cell {w : World} {b : Nat} {t : TypeId} {bs : List Nat} (h : BlkB w b t bs) {i : Nat} (hi : i < bs.length) : w.cell? ⟨b, i, none⟩ = some (.int .u8 (at64 bs i)) := by
  rw [cell_of_row w b i _ t (0, 0) h.heap]
  simp [cells8, at64, List.getElem?_eq_getElem hi, List.getD_eq_getElem?_getD]
theorem BlkB.below {w w' : World} {b B : Nat} {t : TypeId} {bs : List Nat} (h : BlkB w b t bs) (hb : Below B w w') (hB : b < B) : BlkB w' b t bs := ⟨(hb.block b hB).trans h.heap, h.lt⟩
theorem BlkB.alloc {w : World} {b : Nat} {t : TypeId} {bs : List Nat} (h : BlkB w b t bs) (o : Obj) : BlkB (w.alloc o) b t bs := h.below ((Below.refl _ _).alloc (Nat.le_refl _) o) h.size
theorem BlkB.drew {w : World} {b : Nat} {t : TypeId} {bs : List Nat} (h : BlkB w b t bs) : BlkB w.drew b t bs := ⟨h.heap, h.lt⟩
theorem BlkB.new (w : World) (t : TypeId) (bs : List Nat) (hl : allLt8 bs) : BlkB (w.alloc (.cells (cells8 bs).toArray t)) w.heap.size t bs := ⟨heap_alloc_new w _, hl⟩
theorem BlkB.range {w : World} {b : Nat} {t : TypeId} {bs : List Nat} (h : BlkB w b t bs) : w.rangeAt b 0 (cells8 bs) := fun j v hv => by
  have hj : j < bs.length := by
    have := (List.getElem?_eq_some_iff.1 hv).1
    simpa [cells8] using this
  rw [show 0 + j = j by omega, h.cell hj, ← hv]
  simp [cells8, at64, List.getElem?_eq_getElem hj, List.getD_eq_getElem?_getD]
theorem BlkB.there {w : World} {b : Nat} {t : TypeId} {bs : List Nat} (h : BlkB w b t bs) : w.there b 0 bs.length := fun j hj => by
  rw [show 0 + j = j by omega, h.cell hj]
  exact ⟨rfl, by simp [World.frozen?, h.heap]⟩
theorem BlkB.rd {w : World} {b B : Nat} {t : TypeId} {bs : List Nat} (h : BlkB w b t bs) (hB : b < B) : Rd8 w B (some ⟨b, 0, none⟩) bs.length bs :=
  ⟨rfl, h.lt, fun _ => ⟨b, 0, rfl, hB, fun i hi => by rw [show 0 + i = i by omega]; exact h.cell hi⟩⟩
theorem zeros_lt8 (n : Nat) : allLt8 (List.replicate n 0) := by intro x hx; have := List.eq_of_mem_replicate hx; omega
theorem src8 {w : World} {B n : Nat} {A : Option Addr} {l : List Nat} (h : Rd8 w B A n l) (hn : 0 < n) : ∃ ad, A = some ad ∧ ∀ j v, (cells8 l)[j]? = some v → w.cell? (ad.add j) = some v := by
  obtain ⟨b, off, e, _, hc⟩ := h.cells hn
  refine ⟨⟨b, off, none⟩, e, fun j v hj => ?_⟩
  have hjl : j < l.length := by
    have := (List.getElem?_eq_some_iff.1 hj).1
    simpa [cells8] using this
  rw [Addr.add_mid, hc j (by rw [← h.len]; exact hjl), ← hj]
  simp [cells8, at64, List.getElem?_eq_getElem hjl, List.getD_eq_getElem?_getD]
theorem one8 (l : List Nat) : ∀ v ∈ cells8 l, v.oneCell' = true := by
  intro u hu
  simp only [cells8, List.mem_map] at hu
  obtain ⟨y, _, rfl⟩ := hu
  rfl
theorem store8 (b : Nat) (l : List Nat) (w : World) (h : w.there b 0 l.length) : (storeCells ⟨b, 0, none⟩ (cells8 l)).run Tryz.prog w = .ok () (w.setCells b 0 (cells8 l)) := by
  have hl : (cells8 l).length = l.length := by simp [cells8]
  exact run_storeCells_cells (P := Tryz.prog) b 0 (cells8 l) 0 w (fun j hj => by simpa using (h j (by omega)).1) (fun j hj => by simpa using (h j (by omega)).2) (one8 l)
theorem rd8_range {w : World} {b B : Nat} {l : List Nat} (h : w.rangeAt b 0 (cells8 l)) (hl : allLt8 l) (hB : b < B) : Rd8 w B (some ⟨b, 0, none⟩) l.length l := by
  refine ⟨rfl, hl, fun _ => ⟨b, 0, rfl, hB, fun i hi => ?_⟩⟩
  refine h i _ ?_
  simp [cells8, at64, List.getElem?_eq_getElem hi, List.getD_eq_getElem?_getD]
/-- More digits than there ever are. -/
def bigE : Nat := 2000
/-- Digits of base 2^32, as they are handed on: the number X. -/
structure Dg (w : World) (v : Value) (X : Nat) : Prop where
  ex : ∃ A c l, v = .slice A l.length c ∧ l.length ≤ c ∧ l.length ≤ 2000 ∧ Rd w w.heap.size A l.length l ∧ D32 l ∧ Tr l ∧ val 4294967296 l = X
theorem Dg.up {w w' : World} {v : Value} {X : Nat} (h : Dg w v X) (hb : Below w.heap.size w w') : Dg w' v X := by
  obtain ⟨A, c, l, rfl, h1, h2, h3, h4⟩ := h
  exact ⟨A, c, l, rfl, h1, h2, h3.up hb (Nat.le_refl _), h4⟩
/-- A number below B^n has at most n digits. -/
theorem len_of_lt {l : List Nat} {n : Nat} (hd : D32 l) (ht : Tr l) (h : val 4294967296 l < 4294967296 ^ n) : l.length ≤ n := by
  rcases Nat.lt_or_ge n l.length with h' | h'
  · exfalso
    have e := ht
    unfold Tr at e
    obtain ⟨m, hm⟩ : ∃ m, l.length = m + 1 := ⟨l.length - 1, by omega⟩
    have hz : l.getD m 0 ≠ 0 := by
      rcases e with e | e
      · subst e; simp at hm
      · rw [hm] at e; exact e
    have : val 4294967296 l = pv 4294967296 l m + l.getD m 0 * 4294967296 ^ m := by unfold val; rw [hm, pv_succ]
    have h2 : 1 * 4294967296 ^ m ≤ l.getD m 0 * 4294967296 ^ m := Nat.mul_le_mul_right _ (by omega)
    have h3 : 4294967296 ^ n ≤ 4294967296 ^ m := Nat.pow_le_pow_right (by decide) (by omega)
    omega
  · exact h'
theorem Dg.of {w w' : World} {e : Ending} {X : Nat} (h : Dig w e w' X) (hX : X < 4294967296 ^ bigE) : ∃ v, e = .returned v ∧ Dg w' v X ∧ Below w.heap.size w w' := by
  obtain ⟨A, c, l, rfl, h1, h2, h3, h4, h5, h6⟩ := h
  exact ⟨_, rfl, ⟨A, c, l, rfl, h1, len_of_lt (n := bigE) h3 h4 (by rw [h5]; exact hX), h2, h3, h4, h5⟩, h6⟩

theorem conv8l {w : World} {B n : Nat} {A : Option Addr} {l : List Nat} (h : Rd8 w B A n l) (h0 : 0 < n) (c : Nat) :
    (convert 22 9 (.slice A n c)).run Tryz.prog w = .ok (.string (strOfNums (l.map fun (x : Nat) => (x : Int)))) w := by
  obtain ⟨b, off, rfl, hb, hc⟩ := h.cells h0
  refine run_convert_bytes_arg w _ 5 Tryz.underlying22 Tryz.underlying5 b off n c _ (by simp [h.len]) (fun i hi => ?_) _ Tryz.underlying9
  rw [hc i hi]
  have hi' : i < l.length := by rw [h.len]; exact hi
  simp [at64, List.getD_eq_getElem?_getD, List.getElem?_eq_getElem hi']
theorem str_list (l : List Nat) : (strOfNums (l.map fun (x : Nat) => (x : Int))).toList = l.map fun (x : Nat) => UInt8.ofNat x := by
  rw [ByteArray.toList_eq]
  show ((l.map fun (x : Nat) => (x : Int)).map fun n => UInt8.ofNat n.toNat) = _
  rw [List.map_map]
  rfl
theorem u8_inj {a b : Nat} (ha : a < 256) (hb : b < 256) (h : UInt8.ofNat a = UInt8.ofNat b) : a = b := by
  have := congrArg UInt8.toNat h
  simp at this
  omega
theorem map_u8_inj : ∀ {l l' : List Nat}, allLt8 l → allLt8 l' → (l.map fun (x : Nat) => UInt8.ofNat x) = (l'.map fun (x : Nat) => UInt8.ofNat x) → l = l'
  | [], [], _, _, _ => rfl
  | [], _ :: _, _, _, h => by simp at h
  | _ :: _, [], _, _, h => by simp at h
  | a :: l, b :: l', h1, h2, h => by
    simp only [List.map_cons, List.cons.injEq] at h
    rw [u8_inj (h1 a (by simp)) (h2 b (by simp)) h.1, map_u8_inj (fun x hx => h1 x (by simp [hx])) (fun x hx => h2 x (by simp [hx])) h.2]
/-- Two texts of as many bytes are the same just if their numbers are. -/
theorem str_val {l l' : List Nat} (hl : l.length = l'.length) (h : allLt8 l) (h' : allLt8 l') : ((strOfNums (l.map fun (x : Nat) => (x : Int))).toList == (strOfNums (l'.map fun (x : Nat) => (x : Int))).toList) = decide (val 256 l = val 256 l') := by
  rw [str_list, str_list]
  by_cases e : val 256 l = val 256 l'
  · have : l = l' := val_inj 256 (by decide) l l' h h' hl e
    subst this
    simp
  · rw [decide_eq_false e]
    simp only [beq_eq_false_iff_ne]
    intro h2
    exact e (by rw [map_u8_inj h h' h2])
theorem Dg.nil (w : World) : Dg w (.slice none 0 0) 0 := ⟨none, 0, [], rfl, Nat.le_refl _, by decide, Rd.nil _ _ _, by intro x hx; simp at hx, Or.inl rfl, rfl⟩

theorem cmpN_zero_iff (X Y : Nat) : (cmpN X Y == 0) = decide (X = Y) := by
  rcases Nat.lt_trichotomy X Y with h | h | h
  · rw [cmpN_lt h, decide_eq_false (by omega)]; rfl
  · rw [h, cmpN_eq, decide_eq_true rfl]; rfl
  · rw [cmpN_gt h, decide_eq_false (by omega)]; rfl
theorem d32_all {l : List Nat} (h : D32 l) : allLt l := fun x hx => Nat.lt_trans (h x hx) (by decide)
theorem BlkW.range {w : World} {b : Nat} {t : TypeId} {bs : List Nat} (h : BlkW w b t bs) : w.rangeAt b 0 (cellsOf64 bs) := fun j v hv => by
  have hj : j < bs.length := by
    have := (List.getElem?_eq_some_iff.1 hv).1
    simpa [cellsOf64] using this
  rw [show 0 + j = j by omega, h.cell hj, ← hv]
  simp [cellsOf64, at64, List.getElem?_eq_getElem hj, List.getD_eq_getElem?_getD]
theorem BlkW.there {w : World} {b : Nat} {t : TypeId} {bs : List Nat} (h : BlkW w b t bs) : w.there b 0 bs.length := fun j hj => by
  rw [show 0 + j = j by omega, h.cell hj]
  exact ⟨rfl, h.frozen j⟩
theorem one64 (l : List Nat) : ∀ v ∈ cellsOf64 l, v.oneCell' = true := by
  intro u hu
  simp only [cellsOf64, List.mem_map] at hu
  obtain ⟨y, _, rfl⟩ := hu
  rfl
theorem store64 (b : Nat) (l : List Nat) (w : World) (h : w.there b 0 l.length) : (storeCells ⟨b, 0, none⟩ (cellsOf64 l)).run Tryz.prog w = .ok () (w.setCells b 0 (cellsOf64 l)) := by
  have hl : (cellsOf64 l).length = l.length := by simp [cellsOf64]
  exact run_storeCells_cells (P := Tryz.prog) b 0 (cellsOf64 l) 0 w (fun j hj => by simpa using (h j (by omega)).1) (fun j hj => by simpa using (h j (by omega)).2) (one64 l)
theorem BlkW.new64 (w : World) (t : TypeId) (l : List Nat) (hl : allLt l) : BlkW (w.alloc (.cells (cellsOf64 l).toArray t)) w.heap.size t l := ⟨heap_alloc_new w _, hl⟩
theorem BlkW.alloc {w : World} {b : Nat} {t : TypeId} {ws : List Nat} (h : BlkW w b t ws) (o : Obj) : BlkW (w.alloc o) b t ws := h.below ((Below.refl _ _).alloc (Nat.le_refl _) o) h.size
theorem zeros_all (n : Nat) : allLt (List.replicate n 0) := by intro x hx; have := List.eq_of_mem_replicate hx; omega
theorem BlkW.otherC {w : World} {b c i : Nat} {t : TypeId} {v : Value} {ws : List Nat} (h : BlkW w b t ws) (hne : b ≠ c) : BlkW (w.setCell ⟨c, i, none⟩ v) b t ws := by
  refine ⟨?_, h.lt⟩
  simp only [World.setCell]
  rw [Array.getElem?_modify, if_neg (by omega)]
  exact h.heap
theorem d32_set {l : List Nat} (h : D32 l) (i x : Nat) (hx : x < 4294967296) : D32 (l.set i x) := by
  intro y hy
  rcases List.mem_or_eq_of_mem_set hy with h' | h'
  · exact h y h'
  · subst h'; exact hx
/-- The load of a long array, among what only reads. -/
theorem still_load {P : Program} {ops : Array Oper} {w : World} {Q : Act → Prop} {a : Act} {o : Oper} {rest : List Oper} (hgd : o.guard = none) (ty : TypeId) (x : Operand) (ho : o.op = .load ty x) (b off : Nat) (hx : a.eval x = .pointer (some ⟨b, off, none⟩))
    (cs : List Value) (d : TypeDesc) (hc : w.rangeAt b off cs) (hu : P.underlying ty = some d) (hd : d.isRow = true) (hi : (P.info? ty).map (·.size) = some cs.length) (h : wpStill P ops w Q rest (a.put o.dst (.agg cs.toArray))) : wpStill P ops w Q (o :: rest) a := by
  refine wpStill_step fun K hK => ?_
  have hw : Region.wanted o (yielded ops a.tmps) = true := by simp [Region.wanted, hgd]
  rw [if_pos hw]
  unfold Oper.still execOp
  simp only [ho, hx, Instr.loadAt, Instr.sureAddr, Sem.run_bind, Sem.run_pure, Result.andThen_ok, run_loadVar_mid w b off ty cs d hc hu hd hi]
  exact ⟨rfl, hK _ h⟩
theorem own_zeros (w : World) (m : Nat) (hm : m ≤ 1000000) : OwnW (w.alloc (.cells (zeros m) 34)) w.heap.size (.slice (some ⟨w.heap.size, 0, none⟩) m m) (List.replicate m 0) := by
  have h := (blk_zeros w m).own (by simp; exact hm)
  rw [List.length_replicate] at h
  exact h
theorem conv8 {w : World} {B n : Nat} {A : Option Addr} {l : List Nat} (h : Rd8 w B A n l) (c : Nat) :
    (convert 22 9 (.slice A n c)).run Tryz.prog w = .ok (.string (strOfNums (l.map fun (x : Nat) => (x : Int)))) w := by
  rcases Nat.eq_zero_or_pos n with h0 | h0
  · subst h0
    have hl : l = [] := List.eq_nil_of_length_eq_zero h.len
    subst hl
    rw [run_convert_bytes_string w _ _ 5 A 0 c Tryz.underlying22 Tryz.underlying5 Tryz.underlying9]
    cases A with
    | none => simp [Conv.bytesToString]; rfl
    | some a =>
      have hl : (loadCells a 0).run Tryz.prog w = .ok (([] : List Int).map (Value.int .u8)).toArray w := by simpa using run_loadCells_list (P := Tryz.prog) w a [] (fun j v hj => by simp at hj)
      rw [run_bytesToString w a 0 c [] hl]; rfl
  · obtain ⟨b, off, rfl, hb, hc⟩ := h.cells h0
    refine run_convert_bytes_arg w _ 5 Tryz.underlying22 Tryz.underlying5 b off n c _ (by simp [h.len]) (fun i hi => ?_) _ Tryz.underlying9
    rw [hc i hi]
    have hi' : i < l.length := by rw [h.len]; exact hi
    simp [at64, List.getD_eq_getElem?_getD, List.getElem?_eq_getElem hi']
end Go.Proofs.YtdepkfdceidikaaGreatDoor
