import Derived.Test.YtfonpmahcdmajaaDoorBytesB
import Derived.Test.YtfonpmahcdmajaaDoorLSub
import Derived.Lib.BitFns
import Derived.Lib.Walk
/-
  avouchref01.OfBytes: what the call does.
-/
namespace Go.Proofs.YtfonpmahcdmajaaDoor
open Go.RowKit
set_option linter.unusedVariables false

/-- Digit j of the digits of b, when the bytes from k on are laid. -/
def ob (b : List Nat) (k j : Nat) : Nat := pv 256 (b.drop (max k (4 * j))) (4 * j + 4 - max k (4 * j))
theorem ob_lt (b : List Nat) (h : allLt8 b) (k j : Nat) : ob b k j < 4294967296 := by
  have h1 := pv_lt 256 (by decide) _ (lt8_drop h (max k (4 * j))) (4 * j + 4 - max k (4 * j))
  have h2 : 256 ^ (4 * j + 4 - max k (4 * j)) ≤ 256 ^ 4 := Nat.pow_le_pow_right (by decide) (by omega)
  unfold ob; omega
theorem ob_small (b : List Nat) (h : allLt8 b) (k q r : Nat) (hk : k = 4 * q + r) (hr : r < 4) : ob b (k + 1) q < 16777216 := by
  have h1 := pv_lt 256 (by decide) _ (lt8_drop h (max (k + 1) (4 * q))) (4 * q + 4 - max (k + 1) (4 * q))
  have h2 : 256 ^ (4 * q + 4 - max (k + 1) (4 * q)) ≤ 256 ^ 3 := Nat.pow_le_pow_right (by decide) (by omega)
  unfold ob; omega
theorem pv_cons (W : Nat) (l : List Nat) (m : Nat) : pv W l (m + 1) = pv W (l.drop 1) m * W + l.getD 0 0 := by
  rw [Nat.add_comm m 1, pv_drop, pv_succ, pv_zero, Nat.pow_one, Nat.pow_zero, Nat.mul_one, Nat.zero_add, Nat.mul_comm, Nat.add_comm]
theorem ob_at (b : List Nat) (k q r : Nat) (hk : k = 4 * q + r) (hr : r < 4) : ob b k q = ob b (k + 1) q * 256 + b.getD k 0 := by
  unfold ob
  rw [show max k (4 * q) = k by omega, show max (k + 1) (4 * q) = k + 1 by omega, show 4 * q + 4 - k = (4 * q + 4 - (k + 1)) + 1 by omega, pv_cons, List.drop_drop, getD_drop, Nat.add_zero k]
theorem ob_ne (b : List Nat) (k q r j : Nat) (hk : k = 4 * q + r) (hr : r < 4) (hj : j ≠ q) : ob b k j = ob b (k + 1) j := by
  unfold ob
  by_cases hc : j < q
  · rw [show 4 * j + 4 - max k (4 * j) = 0 by omega, show 4 * j + 4 - max (k + 1) (4 * j) = 0 by omega]; rfl
  · rw [show max k (4 * j) = max (k + 1) (4 * j) by omega]
theorem ob_start (b : List Nat) (n j : Nat) (h : b.length = n) : ob b n j = 0 := by
  unfold ob
  rw [List.drop_eq_nil_of_le (by omega), pv_empty]

/-- The relation of the loop of OfBytes: the bytes from k on are laid. -/
def ObRel (w : World) (m : Nat) (b : List Nat) (wr : World) (k : Nat) : Prop :=
  ∃ ws : List Nat, ws.length = m ∧ BlkW wr w.heap.size 22 ws ∧ Below w.heap.size w wr ∧ ∀ j, j < m → ws.getD j 0 = ob b k j
theorem ObRel.drew {w wr : World} {m k : Nat} {b : List Nat} (h : ObRel w m b wr k) : ObRel w m b wr.drew k := by
  obtain ⟨ws, hl, hB, hb, hj⟩ := h
  exact ⟨ws, hl, ⟨hB.heap, hB.lt⟩, hb.drew, hj⟩
theorem ObRel.step {w wr : World} {m k q r : Nat} {b : List Nat} (h8 : allLt8 b) (h : ObRel w m b wr (k + 1)) (hk : k = 4 * q + r) (hr : r < 4) (hq : q < m) (v : Int) (hv : v = (ob b k q : Nat)) :
    ObRel w m b (wr.setCell ⟨w.heap.size, q, none⟩ (.int .u64 v)) k := by
  obtain ⟨ws, hl, hB, hb, hj⟩ := h
  refine ⟨ws.set q (ob b k q), by simp [hl], hB.setI _ _ _ (Nat.lt_trans (ob_lt _ h8 _ _) (by decide)) hv, hb.setCell (Nat.le_refl _) _, fun j hjm => ?_⟩
  by_cases hjq : j = q
  · subst hjq
    rw [getD_set_eq _ _ _ (by omega)]
  · rw [getD_set_ne _ _ _ _ (by omega), hj j hjm, ob_ne b k q r j hk hr hjq]
theorem ObRel.end_ {w wr : World} {m n : Nat} {b : List Nat} (h8 : allLt8 b) (h : ObRel w m b wr 0) (hn : b.length = n) (hm : n ≤ 4 * m) :
    ∃ ws, ws.length = m ∧ BlkW wr w.heap.size 22 ws ∧ D32 ws ∧ Below w.heap.size w wr ∧ val 4294967296 ws = val 256 b := by
  obtain ⟨ws, hl, hB, hb, hj⟩ := h
  refine ⟨ws, hl, hB, fun x hx => ?_, hb, ?_⟩
  · obtain ⟨i, hi, rfl⟩ := List.mem_iff_getElem.1 hx
    have := hj i (by omega)
    rw [List.getD_eq_getElem?_getD, List.getElem?_eq_getElem hi] at this
    have e : ws[i] = ob b 0 i := this
    rw [e]; exact ob_lt b h8 0 i
  · have e := pv_chunks 4 ws b m fun j hjm => by
      rw [hj j hjm]; unfold ob
      rw [show max 0 (4 * j) = 4 * j by omega, show 4 * j + 4 - 4 * j = 4 by omega]
    rw [pv_out 256 b _ (by omega)] at e
    rw [← e]
    unfold val
    rw [hl]

set_option maxRecDepth 100000 in
set_option maxHeartbeats 1000000 in
theorem ofBytes_c (A : Option Addr) (n c : Nat) (b : List Nat) (w : World) (ha : Rd8 w w.heap.size A n b) (hn : n ≤ 1000) :
    Calls Tryd.prog 45 #[.slice A n c] w fun e w' => Dig w e w' (val 256 b) := by
  obtain ⟨m, hm⟩ : ∃ m, m = n / 4 + 1 := ⟨_, rfl⟩
  have hmk := make64I m m (Nat.le_refl _) (by omega) ((n : Int) / 4 + 1) ((n : Int) / 4 + 1) (by omega) (by omega)
  have hm1 : n < 4 * m := by omega
  have hm2 : m ≤ n + 1 := by omega
  clear hm
  go_enter Tryd.func45, Tryd.ntmps45
  go_wp2
  clear hmk
  go_loopw [4] (fun i wr => ∃ k : Nat, k ≤ n ∧ i = .int .i64 ((k : Int) - 1) ∧ ObRel w m b wr k) (fun i _ => (intOf i + 1).toNat)
  case atStart =>
    refine ⟨n, Nat.le_refl _, by go_num, List.replicate m 0, by simp, blk_zeros w _, (Below.refl _ _).alloc (Nat.le_refl _) _, fun j hj => ?_⟩
    rw [ob_start b n j ha.len, List.getD_eq_getElem?_getD, List.getElem?_replicate, if_pos hj]; rfl
  case round =>
    obtain ⟨k, hk, rfl, hrel⟩ := hrel
    rcases k with _ | k
    · obtain ⟨ws, hl, hB, hd, hb, hV⟩ := hrel.end_ ha.lt ha.len (by omega)
      have rd := hB.rd (off := 0) (n := m) (B := wr.heap.size) (by omega) hB.size
      have ee : (ws.drop 0).take m = ws := by rw [List.drop_zero, List.take_of_length_le (by omega)]
      rw [ee] at rd
      have HV := hid hV
      clear hl hV ee
      go_wp2_with fail
      refine (trim_c _ _ _ _ ws _ rd (by omega) (Nat.le_refl _)).mono ?_
      rintro e w' ⟨mm, hmm, he, hw, ht, hzz⟩
      have hD := dig_of_trim rd hd hb hmm (Nat.le_refl _) he hw ht hzz
      rw [HV.out] at hD
      clear hmm he hw ht hzz
      obtain ⟨A', c', l', rfl, r'⟩ := hD
      have R := hid r'
      clear r'
      go_wp2
      go_ret
      exact ⟨A', c', l', rfl, R.out⟩
    · have e1 : (((k + 1 : Nat) : Int) - 1) = (k : Int) := by omega
      rw [e1]
      clear e1
      have hlt : k < n := by omega
      obtain ⟨ws, hl, hB, hb, hj⟩ := id hrel
      obtain ⟨ba, oa, rfl, hba, hca⟩ := (ha.below hb (Nat.le_refl _)).at_ hlt
      obtain ⟨q, hq⟩ : ∃ q, q = k / 4 := ⟨_, rfl⟩
      obtain ⟨r, hr⟩ : ∃ r, r = k % 4 := ⟨_, rfl⟩
      have hkq : k = 4 * q + r := by omega
      have hr4 : r < 4 := by omega
      have hqm : q < m := by omega
      have hcell := hB.cell (i := q) (by omega)
      have hfz := hB.frozen q
      have hsm := ob_small b ha.lt k q r hkq hr4
      have e := hj q hqm
      have b8 := getD_lt _ (by decide) b ha.lt k
      obtain ⟨p, hp⟩ : ∃ p, p = ws.getD q 0 * 256 := ⟨_, rfl⟩
      obtain ⟨z, hz⟩ : ∃ z, z = ob b k q := ⟨_, rfl⟩
      have hoa := ob_at b k q r hkq hr4
      have d1 : IntKind.i64.wrap ((k : Int) / 4) = (q : Int) := by rw [IntKind.wrap_i64]; omega
      have d4 : IntKind.u64.wrap (at64 b k) = at64 b k := by rw [IntKind.wrap_u64]; unfold at64; omega
      have d5 : IntKind.u64.wrap (at64 ws q * 256) = (p : Int) := by rw [IntKind.wrap_u64, hp]; unfold at64; omega
      have d6 : IntKind.u64.wrap ((p : Int) + at64 b k) = (z : Int) := by rw [IntKind.wrap_u64]; unfold at64; omega
      have HST := hid (ObRel.step ha.lt hrel hkq hr4 hqm (z : Int) (by rw [hz]))
      have i0 : (0 : Int) ≤ (q : Int) := by omega
      have i1 : (q : Int) < (m : Int) := by omega
      have i2 : (0 : Int) ≤ (k : Int) := by omega
      have i3 : (k : Int) < (n : Int) := by omega
      have x0 := at64_nonneg b k
      have x1 := at64_nonneg ws q
      clear hl hj e hq hr hp hz hoa b8 hsm hkq
      go_wp2
      go_still_tail 16, (by kernel_rfl)
      change wpList _ _ _ _ _ wr.drew
      clear d1 d4 d5 d6
      go_wp2
      go_roundw
      case rel => exact ⟨k, by omega, by go_num, HST.out.drew⟩
      case measure => simp [intOf]
end Go.Proofs.YtfonpmahcdmajaaDoor
/-
  bits.Len64, bits.LeadingZeros64, limb.Bits: what each call does.
-/
namespace Go.Proofs.YtfonpmahcdmajaaDoor
open Go.RowKit
set_option linter.unusedVariables false

theorem len8_at (i : Int) (h : i.toNat < Lib.len8tab.size) (h0 : 0 ≤ i) (h1 : i ≤ 255) : ((Lib.len8tab[i.toNat]'h).toNat : Int) = (Lib.bitLen i.toNat : Int) := by
  have e := Lib.len8_of i h0 h1
  unfold Lib.len8 at e
  rw [← e, ByteArray.getElem?_lt' _ _ h, Option.getD_some]
theorem wrap_small (x : Int) (h0 : 0 ≤ x) (h1 : x ≤ 1000) : wrap64 x = x := by
  unfold wrap64; omega
theorem len_fin (k : Nat) (x i : Int) (h : i.toNat < Lib.len8tab.size) (h0 : 0 ≤ i) (h1 : i ≤ 255) (hk : k ≤ 64) (hx : x < 18446744073709551616) (hi : i.toNat = x.toNat / 2 ^ k) (hp : 2 ^ k ≤ x.toNat) :
    wrap64 (k + wrap64 ((Lib.len8tab[i.toNat]'h).toNat : Int)) = (Lib.bitLen x.toNat : Int) := by
  have b := Lib.bitLen_le8' i h0 h1
  rw [len8_at i h h0 h1, wrap_small (Lib.bitLen i.toNat : Int) (by omega) (by omega), wrap_small _ (by omega) (by omega), hi, Lib.bitLen_shift k x.toNat hp (by omega)]
  rfl
theorem len_fin0 (x : Int) (h : x.toNat < Lib.len8tab.size) (h0 : 0 ≤ x) (h1 : x ≤ 255) :
    wrap64 (wrap64 ((Lib.len8tab[x.toNat]'h).toNat : Int)) = (Lib.bitLen x.toNat : Int) := by
  have b := Lib.bitLen_le8' x h0 h1
  rw [len8_at x h h0 h1, wrap_small (Lib.bitLen x.toNat : Int) (by omega) (by omega), wrap_small _ (by omega) (by omega)]
set_option maxHeartbeats 4000000 in
set_option maxRecDepth 100000 in
theorem len64_c (x : Int) (h0 : 0 ≤ x) (h1 : x ≤ 18446744073709551615) (w : World) :
    Calls Tryd.prog 109 #[.int .u64 x] w fun e w' => e = .returned (.int .i64 (Lib.bitLen x.toNat)) ∧ w = w' := by
  have hsz := Lib.len8tab_size
  go_enter Tryd.func109, Tryd.ntmps109
  go_wp2
  all_goals (go_ret; refine ⟨ret_int ?_, rfl⟩)
  all_goals first
    | exact len_fin0 _ _ (by omega) (by omega)
    | exact len_fin 56 _ _ _ (by omega) (by omega) (by omega) (by omega) (by omega) (by omega)
    | exact len_fin 48 _ _ _ (by omega) (by omega) (by omega) (by omega) (by omega) (by omega)
    | exact len_fin 40 _ _ _ (by omega) (by omega) (by omega) (by omega) (by omega) (by omega)
    | exact len_fin 32 _ _ _ (by omega) (by omega) (by omega) (by omega) (by omega) (by omega)
    | exact len_fin 24 _ _ _ (by omega) (by omega) (by omega) (by omega) (by omega) (by omega)
    | exact len_fin 16 _ _ _ (by omega) (by omega) (by omega) (by omega) (by omega) (by omega)
    | exact len_fin 8 _ _ _ (by omega) (by omega) (by omega) (by omega) (by omega) (by omega)

theorem lz64_c (x : Int) (h0 : 0 ≤ x) (h1 : x ≤ 18446744073709551615) (w : World) :
    Calls Tryd.prog 101 #[.int .u64 x] w fun e w' => e = .returned (.int .i64 (64 - Lib.bitLen x.toNat)) ∧ w = w' := by
  have b := Lib.bitLen_le x.toNat 64 (by omega) (by omega)
  go_enter Tryd.func101, Tryd.ntmps101
  go_wp2_with fail
  refine (len64_c x h0 h1 _).mono ?_
  rintro e w' ⟨rfl, rfl⟩
  go_wp2
  go_ret
  exact ⟨rfl, rfl⟩
end Go.Proofs.YtfonpmahcdmajaaDoor
