/-
  avouchref06.Bytes, OfBytes: what each call does.
-/
import Derived.Test.YteogjnendkbjcaaDoorKRk
namespace Go.Proofs.YteogjnendkbjcaaDoor
open Go.RowKit
set_option linter.unusedVariables false

set_option maxRecDepth 20000 in
set_option maxHeartbeats 1000000 in
theorem bytes6_own (l : List Nat) (w : World) (hl : Lanes l) :
    Calls Tryd.prog 17 #[st l] w fun e w' => ∃ v r, e = .returned v ∧ OwnB w' (w.heap.size + 1) v r ∧ r.length = 200 ∧ val 256 r = val 18446744073709551616 l ∧ Below w.heap.size w w' := by
  have hA0 := oW_new w 30 l hl.all
  have hb0 := (Below.refl w.heap.size w).alloc (Nat.le_refl _) (oW 30 l)
  have hlen := st_len hl
  have HL0 := hid hl
  clear hl
  unfold oW at hA0 hb0
  unfold st
  go_enter Tryd.func17, Tryd.ntmps17
  go_wp2
  clear hlen
  have O0 := hid (ownB_empty (w.alloc (.cells (cellsOf64 l).toArray 30)))
  have hs0 : (w.alloc (.cells (cellsOf64 l).toArray 30)).heap.size = w.heap.size + 1 := by simp
  rw [hs0] at O0
  have B0 := hid ((Below.refl (w.heap.size + 1) (w.alloc (.cells (cellsOf64 l).toArray 30))).alloc (by simp) (.cells #[] 5))
  have HA := hid hA0
  have HB := hid hb0
  generalize (w.alloc (.cells (cellsOf64 l).toArray 30)) = w0 at *
  clear hA0 hb0
  go_loopw [3, 4] (fun v i wr => ∃ k : Nat, ∃ r : List Nat, k ≤ 25 ∧ i = .int .i64 k ∧ Hid (r.length = 8 * k) ∧ OwnB wr (w.heap.size + 1) v r ∧ Below (w.heap.size + 1) w0 wr ∧ Hid (val 256 r = pv 18446744073709551616 l k)) (fun _ i _ => 25 - (intOf i).toNat)
  case atStart => exact ⟨0, [], Nat.zero_le _, rfl, rfl, O0.out, B0.out, rfl⟩
  case round =>
    clear O0 B0
    obtain ⟨k, r, hk, rfl, HL, hown, hbl, HE⟩ := hrel
    by_cases hlt : k < 25
    · have c0 := (HA.out.below hbl (by omega)).cell (i := k) (by rw [HL0.out.len]; exact hlt)
      have i2 : (k : Int) < 25 := by omega
      obtain ⟨w1, rfl⟩ : ∃ x, x = wr := ⟨wr, rfl⟩
      go_wp2
      go_loopw [3, 5, 6] (fun v x i wj => ∃ j : Nat, ∃ r : List Nat, j ≤ 8 ∧ i = .int .i64 j ∧ x = .int .u64 ((l.getD k 0 / 256 ^ j : Nat) : Int) ∧ Hid (r.length = 8 * k + j) ∧ OwnB wj (w.heap.size + 1) v r ∧ Below (w.heap.size + 1) w0 wj ∧ Hid (val 256 r = pv 18446744073709551616 l k + l.getD k 0 % 256 ^ j * 18446744073709551616 ^ k)) (fun _ _ i _ => 8 - (intOf i).toNat)
      case atStart => exact ⟨0, r, by omega, rfl, by rw [Nat.pow_zero, Nat.div_one]; rfl, HL, hown, hbl, by show _ = _; rw [HE.out, Nat.pow_zero, Nat.mod_one, Nat.zero_mul, Nat.add_zero]⟩
      case round =>
        clear c0 hown hbl
        obtain ⟨j, r2, hj, rfl, rfl, HL2, hown2, hbl2, HE2⟩ := hrel
        by_cases hlt2 : j < 8
        · have hsz : w.heap.size + 1 ≤ wr.heap.size := Nat.le_trans (by rw [hs0]; exact Nat.le_refl _) hbl2.size
          have hl' : r2.length ≤ 100000 := by rw [HL2.out]; omega
          have HQ : Hid (l.getD k 0 / 256 ^ j / 256 = l.getD k 0 / 256 ^ (j + 1)) := by show _ = _; rw [Nat.pow_succ, Nat.div_div_eq_div_mul]
          have HL3 : Hid ((r2 ++ [l.getD k 0 / 256 ^ j % 256]).length = 8 * k + (j + 1)) := by show _ = _; rw [List.length_append, HL2.out]; rfl
          have HE3 : Hid (val 256 (r2 ++ [l.getD k 0 / 256 ^ j % 256]) = pv 18446744073709551616 l k + l.getD k 0 % 256 ^ (j + 1) * 18446744073709551616 ^ k) := by
            show _ = _
            rw [val_append, HE2.out, HL2.out, pow256]
            exact byte_step _ _ _ _
          have HX : Hid (l.getD k 0 / 256 ^ j < 18446744073709551616) := Nat.lt_of_le_of_lt (Nat.div_le_self _ _) (HL0.out.at_ k)
          generalize l.getD k 0 / 256 ^ j = x at *
          have x0 : (0 : Int) ≤ (x : Int) := by omega
          go_wp2_with (at_builtin; refine append_byte rfl (.tmp 19) (.tmp 23) rfl (w.heap.size + 1) _ r2 rfl hown2 _ (x % 256) ?e1 ?e2 rfl hl' hsz ?_)
          case e1 => omega
          case e2 => exact Nat.mod_lt _ (by decide)
          intro v' w' hown' hb'
          have hb2 := hbl2.trans hb'
          go_wp2
          go_roundw
          case rel => exact ⟨j + 1, _, by omega, by go_num, by rw [← HQ.out]; exact congrArg (Value.int .u64) (by rw [IntKind.wrap_u64]; have := HX.out; omega), HL3, hown', hb2, HE3⟩
          case measure => simp [intOf]; omega
        · obtain rfl : j = 8 := by omega
          have HE4 : Hid (val 256 r2 = pv 18446744073709551616 l (k + 1)) := by
            show _ = _
            rw [HE2.out, word_mod _ (HL0.out.at_ k), pv_succ]
          have HL4 : Hid (r2.length = 8 * (k + 1)) := by show _ = _; rw [HL2.out]; omega
          go_wp2
          go_roundw
          case rel => exact ⟨k + 1, r2, by omega, by go_num, HL4, hown2, hbl2, HE4⟩
          case measure => simp [intOf]; omega
    · obtain rfl : k = 25 := by omega
      have HV : Hid (val 256 r = val 18446744073709551616 l) := by show _ = _; rw [HE.out, pv_out _ _ _ (by rw [HL0.out.len]; exact Nat.le_refl _)]
      have HBB := hid (HB.out.trans (hbl.mono (by omega)))
      have HO := hid hown
      have HL200 : Hid (r.length = 200) := HL
      clear hown
      go_wp2
      go_ret
      exact ⟨_, r, rfl, HO.out, HL200.out, HV.out, HBB.out⟩
theorem bytes6_c (l : List Nat) (w : World) (hl : Lanes l) :
    Calls Tryd.prog 17 #[st l] w fun e w' => Bts w e w' 200 (val 18446744073709551616 l) := by
  refine (bytes6_own l w hl).mono ?_
  rintro e w' ⟨v, r, rfl, ho, hn, hv, hb⟩
  obtain ⟨A, c, rfl, hc, rd⟩ := ho.rd
  rw [hn] at rd hc ⊢
  exact ⟨A, c, r, rfl, hc, rd, hv, hb⟩

/-- Word j of the words of b, when the bytes from k on are laid. -/
def ob8 (b : List Nat) (k j : Nat) : Nat := pv 256 (b.drop (max k (8 * j))) (8 * j + 8 - max k (8 * j))
theorem ob8_lt (b : List Nat) (h : allLt8 b) (k j : Nat) : ob8 b k j < 18446744073709551616 := by
  have h1 := pv_lt 256 (by decide) _ (lt8_drop h (max k (8 * j))) (8 * j + 8 - max k (8 * j))
  have h2 : 256 ^ (8 * j + 8 - max k (8 * j)) ≤ 256 ^ 8 := Nat.pow_le_pow_right (by decide) (by omega)
  unfold ob8; omega
theorem ob8_small (b : List Nat) (h : allLt8 b) (k q r : Nat) (hk : k = 8 * q + r) (hr : r < 8) : ob8 b (k + 1) q < 72057594037927936 := by
  have h1 := pv_lt 256 (by decide) _ (lt8_drop h (max (k + 1) (8 * q))) (8 * q + 8 - max (k + 1) (8 * q))
  have h2 : 256 ^ (8 * q + 8 - max (k + 1) (8 * q)) ≤ 256 ^ 7 := Nat.pow_le_pow_right (by decide) (by omega)
  unfold ob8; omega
theorem ob8_at (b : List Nat) (k q r : Nat) (hk : k = 8 * q + r) (hr : r < 8) : ob8 b k q = ob8 b (k + 1) q * 256 + b.getD k 0 := by
  unfold ob8
  rw [show max k (8 * q) = k by omega, show max (k + 1) (8 * q) = k + 1 by omega, show 8 * q + 8 - k = (8 * q + 8 - (k + 1)) + 1 by omega, pv_cons, List.drop_drop, getD_drop, Nat.add_zero k]
theorem ob8_ne (b : List Nat) (k q r j : Nat) (hk : k = 8 * q + r) (hr : r < 8) (hj : j ≠ q) : ob8 b k j = ob8 b (k + 1) j := by
  unfold ob8
  by_cases hc : j < q
  · rw [show 8 * j + 8 - max k (8 * j) = 0 by omega, show 8 * j + 8 - max (k + 1) (8 * j) = 0 by omega]; rfl
  · rw [show max k (8 * j) = max (k + 1) (8 * j) by omega]
theorem ob8_start (b : List Nat) (n j : Nat) (h : b.length = n) : ob8 b n j = 0 := by
  unfold ob8
  rw [List.drop_eq_nil_of_le (by omega), pv_empty]
/-- The relation of the loop of OfBytes: the bytes from k on are laid. -/
structure Ob8 (w : World) (b : List Nat) (k : Nat) (wr : World) : Prop where
  ex : ∃ ws : List Nat, ws.length = 25 ∧ BlkW wr (w.heap.size + 1) 30 ws ∧ ∀ j, j < 25 → ws.getD j 0 = ob8 b k j
  z : BlkW wr w.heap.size 30 l0
  b : Below w.heap.size w wr
theorem Ob8.drew {w wr : World} {k : Nat} {b : List Nat} (h : Ob8 w b k wr) : Ob8 w b k wr.drew := by
  obtain ⟨⟨ws, hl, hB, hj⟩, hz, hb⟩ := h
  exact ⟨⟨ws, hl, hB.drew', hj⟩, hz.drew', hb.drew⟩
theorem Ob8.step {w wr : World} {k q r : Nat} {b : List Nat} (h8 : allLt8 b) (h : Ob8 w b (k + 1) wr) (hk : k = 8 * q + r) (hr : r < 8) (hq : q < 25) (v : Int) (hv : v = (ob8 b k q : Nat)) :
    Ob8 w b k (wr.setCell ⟨w.heap.size + 1, q, none⟩ (.int .u64 v)) := by
  obtain ⟨⟨ws, hl, hB, hj⟩, hz, hb⟩ := h
  subst hv
  refine ⟨⟨ws.set q (ob8 b k q), by simp [hl], hB.set _ _ (ob8_lt _ h8 _ _), fun j hjm => ?_⟩, hz.otherC (by omega), hb.setCell (by show w.heap.size ≤ w.heap.size + 1; omega) _⟩
  by_cases hjq : j = q
  · subst hjq
    rw [getD_set_eq _ _ _ (by omega)]
  · rw [getD_set_ne _ _ _ _ (by omega), hj j hjm, ob8_ne b k q r j hk hr hjq]
theorem Ob8.end_ {w wr : World} {b : List Nat} (h8 : allLt8 b) (hn : b.length = 200) (h : Ob8 w b 0 wr) : ∃ ws, Lanes ws ∧ BlkW wr (w.heap.size + 1) 30 ws ∧ BlkW wr w.heap.size 30 l0 ∧ Below w.heap.size w wr ∧ val 18446744073709551616 ws = val 256 b := by
  obtain ⟨⟨ws, hl, hB, hj⟩, hz, hb⟩ := h
  refine ⟨ws, ⟨hl, hB.lt⟩, hB, hz, hb, ?_⟩
  have e := pv_chunks 8 ws b 25 fun j hjm => by
    rw [hj j hjm]; unfold ob8
    rw [show max 0 (8 * j) = 8 * j by omega, show 8 * j + 8 - 8 * j = 8 by omega]
  rw [pv_out 256 b _ (by omega)] at e
  rw [← e]
  unfold val
  rw [hl]

set_option maxRecDepth 100000 in
set_option maxHeartbeats 1000000 in
theorem ofBytes6_c (A : Option Addr) (c : Nat) (b : List Nat) (w : World) (ha : Rd8 w w.heap.size A 200 b) :
    Calls Tryd.prog 19 #[.slice A 200 c] w fun e w' => ∃ l, e = .returned (st l) ∧ Lanes l ∧ val 18446744073709551616 l = val 256 b ∧ Below w.heap.size w w' := by
  have e1 : (w.alloc (zS 30)).heap.size = w.heap.size + 1 := by simp
  have h1 := (zS_new w 30).alloc (zS 30)
  have h2 := zS_new (w.alloc (zS 30)) 30
  rw [e1] at h2
  have HT := hid (z25_there h2)
  have R0 := hid (show Ob8 w b 200 _ from ⟨⟨l0, rfl, h2.overW l0 rfl (zeros_all 25), fun j hj => by
    rw [ob8_start b 200 j ha.len]
    have key : ∀ j : Fin 25, l0.getD j.val 0 = 0 := by decide
    exact key ⟨j, hj⟩⟩, h1.putC (by omega) _ _, below_cells (by omega) _ _ _ (((Below.refl _ _).alloc (Nat.le_refl _) _).alloc (by omega) _)⟩)
  have HA := hid ha
  clear e1 h1 h2 ha
  unfold zS at HT R0
  rw [z25_list] at R0
  go_enter Tryd.func19, Tryd.ntmps19
  go_wp2_with (refine wpList_store_mid rfl 30 (.tmp 3) (.tmp 5) rfl (w.heap.size + 1) 0 #[.int .u64 0, .int .u64 0, .int .u64 0, .int .u64 0, .int .u64 0, .int .u64 0, .int .u64 0, .int .u64 0, .int .u64 0, .int .u64 0, .int .u64 0, .int .u64 0, .int .u64 0, .int .u64 0, .int .u64 0, .int .u64 0, .int .u64 0, .int .u64 0, .int .u64 0, .int .u64 0, .int .u64 0, .int .u64 0, .int .u64 0, .int .u64 0, .int .u64 0] rfl rfl (by with_reducible exact HT.out) z25_size z25_all ?_)
  clear HT
  change Code.wp _ _ _ _ (((w.alloc (.cells #[.int .u64 0, .int .u64 0, .int .u64 0, .int .u64 0, .int .u64 0, .int .u64 0, .int .u64 0, .int .u64 0, .int .u64 0, .int .u64 0, .int .u64 0, .int .u64 0, .int .u64 0, .int .u64 0, .int .u64 0, .int .u64 0, .int .u64 0, .int .u64 0, .int .u64 0, .int .u64 0, .int .u64 0, .int .u64 0, .int .u64 0, .int .u64 0, .int .u64 0] 30)).alloc (.cells #[.int .u64 0, .int .u64 0, .int .u64 0, .int .u64 0, .int .u64 0, .int .u64 0, .int .u64 0, .int .u64 0, .int .u64 0, .int .u64 0, .int .u64 0, .int .u64 0, .int .u64 0, .int .u64 0, .int .u64 0, .int .u64 0, .int .u64 0, .int .u64 0, .int .u64 0, .int .u64 0, .int .u64 0, .int .u64 0, .int .u64 0, .int .u64 0, .int .u64 0] 30)).setCells (w.heap.size + 1) 0 [.int .u64 0, .int .u64 0, .int .u64 0, .int .u64 0, .int .u64 0, .int .u64 0, .int .u64 0, .int .u64 0, .int .u64 0, .int .u64 0, .int .u64 0, .int .u64 0, .int .u64 0, .int .u64 0, .int .u64 0, .int .u64 0, .int .u64 0, .int .u64 0, .int .u64 0, .int .u64 0, .int .u64 0, .int .u64 0, .int .u64 0, .int .u64 0, .int .u64 0])
  generalize (((w.alloc _).alloc _).setCells _ _ _) = w0 at *
  go_loopw [4] (fun i wr => ∃ k : Nat, k ≤ 200 ∧ i = .int .i64 ((k : Int) - 1) ∧ Ob8 w b k wr) (fun i _ => (intOf i + 1).toNat)
  case atStart => exact ⟨200, Nat.le_refl _, by go_num, R0.out⟩
  case round =>
    clear R0
    obtain ⟨k, hk, rfl, hrel⟩ := hrel
    rcases k with _ | k
    · obtain ⟨L, hL, n1, n2, n3, hV⟩ := hrel.end_ HA.out.lt HA.out.len
      have HLL := hid hL
      have HV := hid hV
      have HSz := hid (w_size hL)
      obtain ⟨hst, HR⟩ := w_stored hL n2
      have hlenL := st_len hL
      have HO := hid n1.range
      have HB := hid n3
      clear n1 n2 n3 hrel hV hL
      go_wp2_with (with_reducible refine wpList_load_mid rfl 30 (.tmp 3) rfl (w.heap.size + 1) 0 rfl (cellsOf64 L) _ HO.out Tryd.underlying30 rfl HSz.out ?_)
      refine bodyPost_ret (w_result HLL.out Tryd.results19 rfl HR) rfl ?_
      exact ⟨L, rfl, HLL.out, HV.out, below_cells (by omega) _ _ _ HB.out⟩
    · have e1 : (((k + 1 : Nat) : Int) - 1) = (k : Int) := by omega
      rw [e1]
      clear e1
      have hlt : k < 200 := by omega
      obtain ⟨⟨ws, hl, hB, hj⟩, hz, hb⟩ := id hrel
      obtain ⟨ba, oa, rfl, hba, hca⟩ := (HA.out.below hb (Nat.le_refl _)).at_ hlt
      obtain ⟨q, hq⟩ : ∃ q, q = k / 8 := ⟨_, rfl⟩
      obtain ⟨r, hr⟩ : ∃ r, r = k % 8 := ⟨_, rfl⟩
      have hkq : k = 8 * q + r := by omega
      have hr4 : r < 8 := by omega
      have hqm : q < 25 := by omega
      have hcell := hB.cell (i := q) (by omega)
      have hfz := hB.frozen q
      have hsm := ob8_small b HA.out.lt k q r hkq hr4
      have e := hj q hqm
      have b8 := getD_lt _ (by decide) b HA.out.lt k
      obtain ⟨p, hp⟩ : ∃ p, p = ws.getD q 0 * 256 := ⟨_, rfl⟩
      obtain ⟨z, hz'⟩ : ∃ z, z = ob8 b k q := ⟨_, rfl⟩
      have hoa := ob8_at b k q r hkq hr4
      have d1 : IntKind.i64.wrap ((k : Int) / 8) = (q : Int) := by rw [IntKind.wrap_i64]; omega
      have d4 : IntKind.u64.wrap (at64 b k) = at64 b k := by rw [IntKind.wrap_u64]; unfold at64; omega
      have d5 : IntKind.u64.wrap (at64 ws q * 256) = (p : Int) := by rw [IntKind.wrap_u64, hp]; unfold at64; omega
      have d6 : IntKind.u64.wrap ((p : Int) + at64 b k) = (z : Int) := by rw [IntKind.wrap_u64]; unfold at64; omega
      have HST := hid (Ob8.step HA.out.lt hrel hkq hr4 hqm (z : Int) (by rw [hz']))
      have i0 : (0 : Int) ≤ (q : Int) := by omega
      have i1 : (q : Int) < 25 := by omega
      have i2 : (0 : Int) ≤ (k : Int) := by omega
      have i3 : (k : Int) < 200 := by omega
      have x0 := at64_nonneg b k
      have x1 := at64_nonneg ws q
      clear hl hj e hq hr hp hz' hoa b8 hsm hkq hrel
      go_wp2
      go_still_tail 14, (by kernel_rfl)
      change wpList _ _ _ _ _ wr.drew
      clear d1 d4 d5 d6
      go_wp2
      go_roundw
      case rel => exact ⟨k, by omega, by go_num, HST.out.drew⟩
      case measure => simp [intOf]
end Go.Proofs.YteogjnendkbjcaaDoor
