import Derived.Test.YtdepkfdceidikaaGreatDoorRefF
import Derived.Test.YtdepkfdceidikaaGreatDoorBytesB
/-
  avouchref01.Shift, Mod: what each call does.
-/
namespace Go.Proofs.YtdepkfdceidikaaGreatDoor
open Go.RowKit
set_option linter.unusedVariables false

/-- The slice value v reads as the digits of X. -/
def DigV (w : World) (v : Value) (X : Nat) : Prop :=
  ∃ A c l, v = .slice A l.length c ∧ l.length ≤ c ∧ Rd w w.heap.size A l.length l ∧ D32 l ∧ Tr l ∧ val 4294967296 l = X
theorem Dig.v {w w' : World} {e : Ending} {X : Nat} (h : Dig w e w' X) : ∃ v, e = .returned v ∧ DigV w' v X ∧ Below w.heap.size w w' := by
  obtain ⟨A, c, l, h1, h2, h3, h4, h5, h6, h7⟩ := h
  exact ⟨_, h1, ⟨A, c, l, rfl, h2, h3, h4, h5, h6⟩, h7⟩
theorem DigV.below {w w' : World} {v : Value} {X : Nat} (h : DigV w v X) (hb : Below w.heap.size w w') : DigV w' v X := by
  obtain ⟨A, c, l, h1, h2, h3, h4⟩ := h
  exact ⟨A, c, l, h1, h2, h3.up hb (Nat.le_refl _), h4⟩
theorem tr_len {l : List Nat} (ht : Tr l) (N : Nat) (h : val 4294967296 l < 4294967296 ^ N) : l.length ≤ N := by
  rcases ht with rfl | ht
  · simp
  · rcases Nat.lt_or_ge N l.length with hlt | hge
    · exfalso
      have e : val 4294967296 l = pv 4294967296 l (l.length - 1 + 1) := by unfold val; rw [show l.length - 1 + 1 = l.length by omega]
      rw [pv_succ] at e
      have h1 : 1 * 4294967296 ^ (l.length - 1) ≤ l.getD (l.length - 1) 0 * 4294967296 ^ (l.length - 1) := Nat.mul_le_mul_right _ (Nat.pos_of_ne_zero ht)
      have h2 : 4294967296 ^ N ≤ 4294967296 ^ (l.length - 1) := Nat.pow_le_pow_right (by decide) (by omega)
      omega
    · exact hge
theorem rd_one (w : World) (X : Int) (n : Nat) (hX : X = (n : Int)) (hn : n < 18446744073709551616) : Rd (w.alloc (.cells #[.int .u64 X] 34)) (w.heap.size + 1) (some ⟨w.heap.size, 0, none⟩) 1 [n] := by
  subst hX
  refine ⟨rfl, fun x hx => by simp at hx; omega, fun _ => ⟨w.heap.size, 0, rfl, by omega, fun i hi => ?_⟩⟩
  have : i = 0 := by omega
  subst this
  simp [at64]
theorem val_one (W n : Nat) : val W [n] = n := by simp [val, pv]
theorem d32_one {n : Nat} (h : n < 4294967296) : D32 [n] := fun x hx => by simp at hx; omega

set_option maxHeartbeats 400000 in
theorem shift_c (A : Option Addr) (na ca : Nat) (la : List Nat) (k : Nat) (w : World) (ha : Rd w w.heap.size A na la) (da : D32 la) (hna : na ≤ 10000) (hk : k ≤ 31) :
    Calls Tryz.prog 86 #[.slice A na ca, .int .i64 k] w fun e w' => Dig w e w' (val 4294967296 la * 2 ^ k) := by
  go_enter Tryz.func86, Tryz.ntmps86
  go_wp2
  go_loop [5, 6] (fun p i => ∃ j q : Nat, j ≤ k ∧ i = .int .i64 j ∧ p = .int .u64 q ∧ q ≤ 2147483648 ∧ Hid (q = 2 ^ j)) (fun _ i => k - (intOf i).toNat)
  case atStart => exact ⟨0, 1, Nat.zero_le _, rfl, rfl, by omega, rfl⟩
  case round =>
    obtain ⟨j, q, hj, rfl, rfl, hq, H⟩ := hrel
    by_cases hlt : j < k
    · have hq2 : q ≤ 1073741824 := by
        rw [H.out]; exact Nat.pow_le_pow_right (n := 2) (by omega) (show j ≤ 30 by omega)
      have H2 : Hid (q * 2 = 2 ^ (j + 1)) := by show _ = _; rw [H.out, Nat.pow_succ]
      go_wp2
      go_round
      case rel => exact ⟨j + 1, q * 2, by omega, by go_num, by go_num, by omega, H2⟩
      case measure => simp [intOf]; omega
    · obtain rfl : j = k := by omega
      have r1 := rd_one w (q : Int) q rfl (by omega)
      have hbl : Below w.heap.size w (w.alloc (.cells #[.int .u64 (q : Int)] 34)) := (Below.refl _ _).alloc (Nat.le_refl _) _
      have ra := (ha.below hbl (Nat.le_refl _)).more (B' := w.heap.size + 1) (by omega)
      have hz : (w.alloc (.cells #[.int .u64 (q : Int)] 34)).heap.size = w.heap.size + 1 := by simp
      rw [← hz] at r1 ra
      have HZ := hid hz
      clear hz
      go_wp2_with fail
      refine (refMul_c A _ na 1 ca 1 la [q] _ ra r1 da (d32_one (by omega)) hna (by omega)).mono ?_
      rintro e w' hD
      rw [val_one] at hD
      obtain ⟨A', c', l', rfl, h2, h3, h4, h5, h6, h7⟩ := hD
      have R : Hid (l'.length ≤ c' ∧ Rd w' w'.heap.size A' l'.length l' ∧ D32 l' ∧ Tr l' ∧ val 4294967296 l' = val 4294967296 la * 2 ^ j ∧ Below w.heap.size w w') := ⟨h2, h3, h4, h5, h6.trans (by rw [H.out]), hbl.trans (h7.mono (by rw [HZ.out]; omega))⟩
      clear h2 h3 h4 h5 h6 h7 r1 ra hbl
      go_wp2
      go_ret
      exact ⟨A', c', l', rfl, R.out⟩

theorem Rd.setOther {w : World} {B n : Nat} {A : Option Addr} {l : List Nat} (h : Rd w B A n l) {p : Addr} {v : Value} (hp : w.cell? p = some v) (hv : ∀ x, v ≠ .int .u64 x) (u : Value) : Rd (w.setCell p u) B A n l :=
  ⟨h.len, h.lt, fun hn => by
    obtain ⟨b, off, e, hb, hc⟩ := h.cells hn
    refine ⟨b, off, e, hb, fun i hi => ?_⟩
    rw [World.cell?_setCell_other w p ⟨b, off + i, none⟩ u ?_]
    · exact hc i hi
    · rintro rfl
      rw [hc i hi] at hp
      injection hp with hp
      exact hv _ hp.symm⟩
theorem DigV.setOther {w : World} {v : Value} {X : Nat} (h : DigV w v X) {p : Addr} {v0 : Value} (hp : w.cell? p = some v0) (hv : ∀ x, v0 ≠ .int .u64 x) (u : Value) : DigV (w.setCell p u) v X := by
  obtain ⟨A, c, l, h1, h2, h3, h4⟩ := h
  refine ⟨A, c, l, h1, h2, ?_, h4⟩
  have : (w.setCell p u).heap.size = w.heap.size := by simp [World.setCell]
  rw [this]
  exact h3.setOther hp hv u

/-- The table of shifted moduli: the first k are laid, the others are nil. -/
structure Times (w : World) (T m k : Nat) (wr : World) : Prop where
  laid : ∀ j, j < k → ∃ v, wr.cell? ⟨T, j, none⟩ = some v ∧ DigV wr v (m * 2 ^ j)
  rest : ∀ j, k ≤ j → j < 9 → wr.cell? ⟨T, j, none⟩ = some (.slice none 0 0)
  thaw : ∀ j, wr.frozen? ⟨T, j, none⟩ = false
  below : Below T w wr
  has : T < wr.heap.size

theorem Times.keep {w wr w' : World} {T m k : Nat} (h : Times w T m k wr) (hb : Below wr.heap.size wr w') : Times w T m k w' := by
  refine ⟨fun j hj => ?_, fun j h1 h2 => ?_, fun j => ?_, h.below.trans (hb.mono (Nat.le_of_lt h.has)), Nat.lt_of_lt_of_le h.has hb.size⟩
  · obtain ⟨v, hc, hd⟩ := h.laid j hj
    exact ⟨v, (hb.cell (p := ⟨T, j, none⟩) h.has).trans hc, hd.below hb⟩
  · exact (hb.cell (p := ⟨T, j, none⟩) h.has).trans (h.rest j h1 h2)
  · exact (hb.frozen (p := ⟨T, j, none⟩) h.has).trans (h.thaw j)
theorem Times.step {w wr w' : World} {T m k : Nat} (h : Times w T m k wr) (hk : k < 9) (hb : Below wr.heap.size wr w') (v : Value) (hv : DigV w' v (m * 2 ^ k)) : Times w T m (k + 1) (w'.setCell ⟨T, k, none⟩ v) := by
  have h' := h.keep hb
  have hc := h'.rest k (Nat.le_refl _) hk
  have hsl : ∀ x, Value.slice none 0 0 ≠ .int .u64 x := fun x hx => by cases hx
  refine ⟨fun j hj => ?_, fun j h1 h2 => ?_, fun j => ?_, h'.below.setCell (Nat.le_refl _) _, by simpa [World.setCell] using h'.has⟩
  · by_cases e : j = k
    · subst e
      exact ⟨v, World.cell?_setCell_same w' ⟨T, j, none⟩ v hc, hv.setOther hc hsl v⟩
    · obtain ⟨u, hu, hd⟩ := h'.laid j (by omega)
      refine ⟨u, ?_, hd.setOther hc hsl v⟩
      rw [World.cell?_setCell_other]
      · exact hu
      · intro e'; injection e'; omega
  · rw [World.cell?_setCell_other]
    · exact h'.rest j (by omega) h2
    · intro e'; injection e'; omega
  · rw [World.frozen?_setCell]
    exact h'.thaw j
theorem Times.zero (w : World) (m : Nat) (cs : Array Value) (t : TypeId) (hcs : ∀ j, j < 9 → cs[j]? = some (.slice none 0 0)) : Times w w.heap.size m 0 (w.alloc (.cells cs t)) := by
  have hh : (w.alloc (.cells cs t)).heap[w.heap.size]? = some (.cells cs t (0, 0)) := heap_alloc_new w _
  refine ⟨fun j hj => absurd hj (by omega), fun j _ h => ?_, fun j => ?_, (Below.refl _ _).alloc (Nat.le_refl _) _, by simp⟩
  · rw [cell_of_row _ _ j cs t (0, 0) hh]; exact hcs j h
  · unfold World.frozen?; rw [hh]; simp

theorem digit_at (W : Nat) (hW : 0 < W) (l : List Nat) (h : ∀ x ∈ l, x < W) (i : Nat) : val W l / W ^ i % W = l.getD i 0 := by
  have h1 := pv_mod W hW l h (i + 1)
  have h2 := pv_lt W hW l h i
  have h3 := getD_lt W hW l h i
  rw [pv_succ, Nat.pow_succ] at h1
  have e := Nat.mod_mul_right_div_self (val W l) (W ^ i) W
  rw [← e, ← h1, Nat.add_mul_div_right _ _ (Nat.pow_pos hW), Nat.div_eq_of_lt h2, Nat.zero_add]
theorem byte_at (l : List Nat) (h : D32 l) (k : Nat) : l.getD (k / 4) 0 / 256 ^ (k % 4) % 256 = val 4294967296 l / 256 ^ k % 256 := by
  rw [← digit_at 4294967296 (by decide) l h (k / 4)]
  have e : val 4294967296 l / 256 ^ k = val 4294967296 l / 4294967296 ^ (k / 4) / 256 ^ (k % 4) := by
    rw [Nat.div_div_eq_div_mul, show (4294967296 : Nat) = 256 ^ 4 by decide, ← Nat.pow_mul, ← Nat.pow_add, Nat.div_add_mod]
  rw [e]
  have : k % 4 = 0 ∨ k % 4 = 1 ∨ k % 4 = 2 ∨ k % 4 = 3 := by omega
  rcases this with h | h | h | h <;> rw [h] <;> simp <;> omega
theorem div_step (V k : Nat) : V / 256 ^ k = V / 256 ^ (k + 1) * 256 + V / 256 ^ k % 256 := by
  rw [Nat.pow_succ, ← Nat.div_div_eq_div_mul]
  omega
theorem mod_step (V k m : Nat) : (V / 256 ^ (k + 1) % m * 256 + V / 256 ^ k % 256) % m = V / 256 ^ k % m := by
  conv => rhs; rw [div_step V k]
  rw [Nat.add_mod, Nat.mod_mul_mod, ← Nat.add_mod]
theorem pow_le_of {m nm t : Nat} (h : m < 4294967296 ^ nm) (ht : t ≤ 9) : m * 2 ^ t < 4294967296 ^ (nm + 1) := by
  have h1 : (2 : Nat) ^ t ≤ 2 ^ 9 := Nat.pow_le_pow_right (by decide) ht
  have h2 : m * 2 ^ t ≤ m * 2 ^ 9 := Nat.mul_le_mul_left _ h1
  rw [Nat.pow_succ]; omega

set_option maxHeartbeats 4000000 in
theorem mod_c (A M : Option Addr) (na nm ca cm : Nat) (la lm : List Nat) (w : World) (ha : Rd w w.heap.size A na la) (hm : Rd w w.heap.size M nm lm) (da : D32 la) (dm : D32 lm) (hna : na ≤ 1000) (hnm : nm ≤ 1000) (hpos : 0 < val 4294967296 lm) :
    Calls Tryz.prog 62 #[.slice A na ca, .slice M nm cm] w fun e w' => Dig w e w' (val 4294967296 la % val 4294967296 lm) := by
  have HM : Hid (val 4294967296 lm < 4294967296 ^ nm) := by have := val_lt _ (by decide) lm dm; rw [hm.len] at this; exact this
  go_enter Tryz.func62, Tryz.ntmps62
  go_wp2
  go_loopw [6] (fun i wr => ∃ k : Nat, k ≤ 9 ∧ i = .int .i64 k ∧ Times w w.heap.size (val 4294967296 lm) k wr) (fun i _ => 9 - (intOf i).toNat)
  case atStart => exact ⟨0, by omega, rfl, Times.zero w _ _ _ (by intro j hj; match j, hj with | 0, _ => rfl | 1, _ => rfl | 2, _ => rfl | 3, _ => rfl | 4, _ => rfl | 5, _ => rfl | 6, _ => rfl | 7, _ => rfl | 8, _ => rfl)⟩
  case round =>
    obtain ⟨k, hk, rfl, hT⟩ := hrel
    by_cases hlt : k < 9
    · have rm := (hm.below hT.below (Nat.le_refl _)).more (Nat.le_of_lt hT.has)
      go_wp2_with fail
      refine (shift_c M nm cm lm k _ rm dm (by omega) (by omega)).mono ?_
      rintro e w' hD
      obtain ⟨v, rfl, hv, hb⟩ := hD.v
      have hT' := hT.keep hb
      have hcell := hT'.rest k (Nat.le_refl _) hlt
      have hfz := hT'.thaw k
      have hst := hT.step hlt hb v hv
      obtain ⟨A', c', l', rfl, r'⟩ := hv
      clear r' hD
      go_wp2
      go_roundw
      case rel => exact ⟨k + 1, by omega, by go_num, hst⟩
      case measure => simp [intOf]; omega
    · have hT9 : Times w w.heap.size (val 4294967296 lm) 9 wr := by
        obtain rfl : k = 9 := by omega
        exact hT
      clear hT
      have hT := hT9
      clear hT9
      go_wp2
      go_loopw [7, 8] (fun r i wj => ∃ k : Nat, k ≤ 4 * na ∧ i = .int .i64 ((k : Int) - 1) ∧ Hid (DigV wj r (val 4294967296 la / 256 ^ k % val 4294967296 lm)) ∧ Times w w.heap.size (val 4294967296 lm) 9 wj) (fun _ i _ => (intOf i + 1).toNat)
      case atStart =>
        refine ⟨4 * na, Nat.le_refl _, by go_num, ?_, hT.keep ((Below.refl _ _).alloc (Nat.le_refl _) _)⟩
        have e0 : val 4294967296 la / 256 ^ (4 * na) = 0 := by
          have := val_lt _ (by decide) la da
          rw [ha.len] at this
          rw [Nat.pow_mul]
          exact Nat.div_eq_of_lt this
        rw [e0, Nat.zero_mod]
        exact ⟨_, 0, [], rfl, Nat.le_refl _, Rd.nil _ _ _, fun x hx => by simp at hx, .inl rfl, rfl⟩
      case round =>
        obtain ⟨k, hk, rfl, HR, hT2⟩ := hrel
        rcases k with _ | k
        · have hD := HR.out
          rw [Nat.pow_zero, Nat.div_one] at hD
          obtain ⟨A', c', l', rfl, r'⟩ := hD
          have R := hid r'
          have hbl := hT2.below
          clear r' HR hT hT2
          go_wp2
          go_ret
          exact ⟨A', c', l', rfl, R.out.1, R.out.2.1, R.out.2.2.1, R.out.2.2.2.1, R.out.2.2.2.2, hbl⟩
        · have e1 : (((k + 1 : Nat) : Int) - 1) = (k : Int) := by omega
          rw [e1]
          have ra := ha.below hT2.below (Nat.le_refl _)
          have hlt4 : k / 4 < na := by omega
          obtain ⟨ba, oa, rfl, hba, hca⟩ := ra.at_ hlt4
          have h1 := at64_nonneg la (k / 4)
          have h1' := at64_d32 da (k / 4)
          have hk3 : (k : Int) % 4 ≤ 3 := by omega
          clear e1
          obtain ⟨w1, rfl⟩ : ∃ x, x = wr := ⟨wr, rfl⟩
          go_wp2
          go_loop [9, 10] (fun d i => ∃ t q : Nat, t ≤ k % 4 ∧ i = .int .i64 t ∧ d = .int .u64 q ∧ q < 4294967296 ∧ Hid (q = la.getD (k / 4) 0 / 256 ^ t)) (fun _ i => 4 - (intOf i).toNat)
          case atStart => exact ⟨0, la.getD (k / 4) 0, Nat.zero_le _, rfl, rfl, (by unfold at64 at h1'; omega), (by show _ = _; rw [Nat.pow_zero, Nat.div_one])⟩
          case round =>
            obtain ⟨t, q, ht, rfl, rfl, hq, HQ⟩ := hrel
            by_cases hlt3 : t < k % 4
            · have hlt3' : (t : Int) < (k : Int) % 4 := by omega
              have HQ2 : Hid (q / 256 = la.getD (k / 4) 0 / 256 ^ (t + 1)) := by show _ = _; rw [HQ.out, Nat.div_div_eq_div_mul, Nat.pow_succ]
              go_wp2
              go_round
              case rel => exact ⟨t + 1, q / 256, by omega, by go_num, by go_num, by omega, HQ2⟩
              case measure => simp [intOf]; omega
            · have htk : t = k % 4 := by omega
              have hlt3' : ¬ (t : Int) < (k : Int) % 4 := by omega
              have HB : Hid (q % 256 = val 4294967296 la / 256 ^ k % 256) := by show _ = _; rw [HQ.out, htk, byte_at la da k]
              obtain ⟨Ar, cr, lr, rfl, hcr, rr, dr, tr, vr⟩ := HR.out
              have HV := hid vr
              have hlr : lr.length ≤ nm + 1 := tr_len tr _ (by
                rw [vr]; exact Nat.lt_of_lt_of_le (Nat.lt_trans (Nat.mod_lt _ hpos) HM.out) (Nat.pow_le_pow_right (by decide) (Nat.le_succ _)))
              have HT := hid htk
              clear vr htk HR HQ hT
              have r1 := rd_one w1 256 256 rfl (by omega)
              have hbl1 : Below w1.heap.size w1 (w1.alloc (.cells #[.int .u64 256] 34)) := (Below.refl _ _).alloc (Nat.le_refl _) _
              have rr1 := (rr.below hbl1 (Nat.le_refl _)).more (B' := w1.heap.size + 1) (by omega)
              have hz : (w1.alloc (.cells #[.int .u64 256] 34)).heap.size = w1.heap.size + 1 := by simp
              rw [← hz] at r1 rr1
              have HZ := hid hz
              clear hz
              go_wp2_with fail
              refine (refMul_c Ar _ _ 1 cr 1 lr [256] _ rr1 r1 dr (d32_one (by omega)) (by omega) (by omega)).mono ?_
              rintro e w2 hD
              rw [val_one] at hD
              obtain ⟨A2, c2, l2, rfl, hc2, rd2, d2, t2, v2, b2⟩ := hD
              have B2 : Below w1.heap.size w1 w2 := hbl1.trans (b2.mono (by rw [HZ.out]; omega))
              have HV2 := hid v2
              have r3 := rd_one w2 ((q : Int) % 256) (q % 256) (by omega) (by omega)
              clear v2 b2 r1 rr1 hbl1
              have hz2 : (w2.alloc (.cells #[.int .u64 ((q : Int) % 256)] 34)).heap.size = w2.heap.size + 1 := by simp
              rw [← hz2] at r3
              have HZ2 := hid hz2
              have hbl2 : Below w2.heap.size w2 (w2.alloc (.cells #[.int .u64 ((q : Int) % 256)] 34)) := (Below.refl _ _).alloc (Nat.le_refl _) _
              clear hz2
              go_wp2_with fail
              refine (trim_c _ 1 1 _ [q % 256] _ r3 (by omega) (Nat.le_refl _)).mono ?_
              rintro e w3 ⟨m3, hm3, he3, hw3, ht3, hz3⟩
              have hD3 := dig_of_trim r3 (d32_one (by omega)) hbl2 hm3 (Nat.le_refl _) he3 hw3 ht3 hz3
              rw [val_one] at hD3
              clear hm3 he3 hw3 ht3 hz3 r3
              obtain ⟨A3, c3, l3, rfl, hc3, rd3, d3, t3, v3, b3⟩ := hD3
              have HV3 := hid v3
              have rd2' := rd2.up b3 (Nat.le_refl _)
              have B3 : Below w1.heap.size w1 w3 := B2.trans (b3.mono B2.size)
              have hl2 : l2.length ≤ nm + 2 := tr_len t2 _ (by
                rw [HV2.out, HV.out]
                show _ < 4294967296 ^ (nm + 1) * 4294967296
                have h1 : val 4294967296 la / 256 ^ (k + 1) % val 4294967296 lm < 4294967296 ^ (nm + 1) := Nat.lt_of_lt_of_le (Nat.lt_trans (Nat.mod_lt _ hpos) HM.out) (Nat.pow_le_pow_right (by decide) (Nat.le_succ _))
                generalize val 4294967296 la / 256 ^ (k + 1) % val 4294967296 lm = a at h1 ⊢
                generalize 4294967296 ^ (nm + 1) = P at h1 ⊢
                omega)
              have hl3 : l3.length ≤ 1 := tr_len t3 1 (by rw [HV3.out]; omega)
              clear v3 b3 rd2 hbl2
              go_wp2_with fail
              refine (refAdd_c A2 A3 _ _ c2 c3 l2 l3 _ rd2' rd3 d2 d3 (by omega) (by omega)).mono ?_
              rintro e w4 hD4
              rw [HV2.out, HV.out, HV3.out, HB.out] at hD4
              obtain ⟨v4, rfl, hv4, b4⟩ := hD4.v
              have B4 : Below w1.heap.size w1 w4 := B3.trans (b4.mono B3.size)
              have hT4 := hT2.keep B4
              have HV4 := hid hv4
              clear hD4 hv4 rd2' rd3 b4
              obtain ⟨R0, hR0⟩ : ∃ R0 : Nat, R0 = val 4294967296 la / 256 ^ (k + 1) % val 4294967296 lm * 256 + val 4294967296 la / 256 ^ k % 256 := ⟨_, rfl⟩
              have HR0 := hid hR0
              rw [← hR0] at HV4
              clear hR0
              go_wp2
              go_loopw [7, 11] (fun r i wj => ∃ t R : Nat, t ≤ 9 ∧ i = .int .i64 ((t : Int) - 1) ∧ Hid (DigV wj r R ∧ R % val 4294967296 lm = R0 % val 4294967296 lm ∧ R < val 4294967296 lm * 2 ^ t) ∧ Times w w.heap.size (val 4294967296 lm) 9 wj) (fun _ i _ => (intOf i + 1).toNat)
              case atStart =>
                refine ⟨9, R0, Nat.le_refl _, rfl, ⟨HV4.out, rfl, ?_⟩, hT4⟩
                have h1 := Nat.mod_lt (val 4294967296 la / 256 ^ (k + 1)) hpos
                rw [HR0.out]
                generalize val 4294967296 la / 256 ^ (k + 1) % val 4294967296 lm = a at h1
                omega
              case round =>
                obtain ⟨t', R, ht', rfl, HC, hT5⟩ := hrel
                rcases t' with _ | t'
                · have HF : Hid (DigV wr u7 (val 4294967296 la / 256 ^ k % val 4294967296 lm)) := by
                    obtain ⟨h1, h2, h3⟩ := HC.out
                    rw [Nat.pow_zero, Nat.mul_one] at h3
                    rw [Nat.mod_eq_of_lt h3, HR0.out, mod_step] at h2
                    rw [← h2]; exact h1
                  clear HC
                  go_wp2
                  go_roundw
                  case rel => exact ⟨k, by omega, by go_num, HF, hT5⟩
                  case measure => simp [intOf]
                · have e1 : (((t' + 1 : Nat) : Int) - 1) = (t' : Int) := by omega
                  rw [e1]
                  clear e1
                  obtain ⟨vt, hct, hdt⟩ := hT5.laid t' (by omega)
                  obtain ⟨hdr, hmr, hlr5⟩ := HC.out
                  have HMR := hid hmr
                  have HLR := hid hlr5
                  obtain ⟨At, ct, lt, rfl, hct', rt, dt, tt, vt⟩ := hdt
                  obtain ⟨A5, c5, l5, rfl, hc5, rd5, d5, t5, v5⟩ := hdr
                  have HVT := hid vt
                  have HV5 := hid v5
                  have hlt5 : lt.length ≤ nm + 1 := tr_len tt _ (by rw [vt]; exact pow_le_of HM.out (by omega))
                  have hl5 : l5.length ≤ nm + 1 := tr_len t5 _ (by rw [v5]; exact Nat.lt_trans hlr5 (pow_le_of HM.out (by omega)))
                  clear hmr hlr5 vt v5 HC
                  by_cases hge : val 4294967296 lm * 2 ^ t' ≤ R
                  · have hge5 : val 4294967296 lt ≤ val 4294967296 l5 := by rw [HVT.out, HV5.out]; exact hge
                    have hcm : 0 ≤ cmpN (val 4294967296 l5) (val 4294967296 lt) := by
                      unfold cmpN; rw [if_neg (by omega)]; split <;> decide
                    have HGE := hid hge
                    clear hge
                    go_wp2_with fail
                    refine (refCmp_c A5 At _ _ c5 ct l5 lt _ _ rd5 rt d5 dt (by omega) (by omega)).mono ?_
                    rintro e w6 ⟨rfl, rfl⟩
                    go_wp2_with fail
                    refine (refSub_c A5 At _ _ c5 ct l5 lt _ rd5 rt d5 dt (by omega) hge5).mono ?_
                    rintro e w6 hD6
                    rw [HVT.out, HV5.out] at hD6
                    obtain ⟨v6, rfl, hv6, b6⟩ := hD6.v
                    have hT6 := hT5.keep b6
                    have H6 : Hid (DigV w6 v6 (R - val 4294967296 lm * 2 ^ t') ∧ (R - val 4294967296 lm * 2 ^ t') % val 4294967296 lm = R0 % val 4294967296 lm ∧ R - val 4294967296 lm * 2 ^ t' < val 4294967296 lm * 2 ^ t') := by
                      refine ⟨hv6, ?_, ?_⟩
                      · rw [Nat.sub_mul_mod HGE.out]; exact HMR.out
                      · have := HLR.out; rw [Nat.pow_succ, ← Nat.mul_assoc] at this
                        have := HGE.out
                        omega
                    clear hD6 hv6 b6
                    go_wp2
                    go_roundw
                    case rel => exact ⟨t', _, by omega, by go_num, H6, hT6⟩
                    case measure => simp [intOf]
                  · have hcm : decide (0 ≤ cmpN (val 4294967296 l5) (val 4294967296 lt)) = false := by
                      unfold cmpN; rw [if_pos (by rw [HVT.out, HV5.out]; omega)]; decide
                    have H6 : Hid (DigV wr (.slice A5 l5.length c5) R ∧ R % val 4294967296 lm = R0 % val 4294967296 lm ∧ R < val 4294967296 lm * 2 ^ t') := ⟨⟨A5, c5, l5, rfl, hc5, rd5, d5, t5, HV5.out⟩, HMR.out, by omega⟩
                    clear hge
                    go_wp2_with fail
                    refine (refCmp_c A5 At _ _ c5 ct l5 lt _ _ rd5 rt d5 dt (by omega) (by omega)).mono ?_
                    rintro e w6 ⟨rfl, rfl⟩
                    go_wp2
                    go_roundw
                    case rel => exact ⟨t', _, by omega, by go_num, H6, hT5⟩
                    case measure => simp [intOf]
end Go.Proofs.YtdepkfdceidikaaGreatDoor
/-
  avouchref01.Bit, Exp, Bits: what each call does.
-/
namespace Go.Proofs.YtdepkfdceidikaaGreatDoor
open Go.RowKit
set_option linter.unusedVariables false

theorem bit_mod (x j : Nat) (hj : j < 32) : x % 4294967296 / 2 ^ j % 2 = x / 2 ^ j % 2 := by
  have e : (4294967296 : Nat) = 2 ^ j * (2 * 2 ^ (31 - j)) := by
    rw [← Nat.pow_succ', ← Nat.pow_add, show j + (31 - j).succ = 32 by omega]
  rw [e, Nat.mod_mul_right_div_self, Nat.mod_mul_right_mod]
theorem bit_at (l : List Nat) (h : D32 l) (k : Nat) : l.getD (k / 32) 0 / 2 ^ (k % 32) % 2 = val 4294967296 l / 2 ^ k % 2 := by
  rw [← digit_at 4294967296 (by decide) l h (k / 32), bit_mod _ _ (Nat.mod_lt _ (by decide))]
  have e : val 4294967296 l / 2 ^ k = val 4294967296 l / 4294967296 ^ (k / 32) / 2 ^ (k % 32) := by
    rw [Nat.div_div_eq_div_mul, show (4294967296 : Nat) = 2 ^ 32 by decide, ← Nat.pow_mul, ← Nat.pow_add, Nat.div_add_mod]
  rw [e]

set_option maxHeartbeats 400000 in
theorem bit_c (A : Option Addr) (n c B : Nat) (l : List Nat) (k : Nat) (w : World) (h : Rd w B A n l) (d : D32 l) (hk : k ≤ 1000000) :
    Calls Tryz.prog 109 #[.slice A n c, .int .i64 k] w fun e w' => e = .returned (.int .u64 ((val 4294967296 l / 2 ^ k % 2 : Nat) : Int)) ∧ w = w' := by
  have h1 := at64_nonneg l (k / 32)
  have h1' := at64_d32 d (k / 32)
  have hk3 : (k : Int) % 32 ≤ 31 := by omega
  go_enter Tryz.func109, Tryz.ntmps109
  go_wp2_with fail
  refine (get_ci A n c _ l (k / 32) _ (by omega) _ h).mono ?_
  rintro e w' ⟨rfl, rfl⟩
  go_wp2
  go_loop [5, 6] (fun d i => ∃ t q : Nat, t ≤ k % 32 ∧ i = .int .i64 t ∧ d = .int .u64 q ∧ q < 4294967296 ∧ Hid (q = l.getD (k / 32) 0 / 2 ^ t)) (fun _ i => 32 - (intOf i).toNat)
  case atStart => exact ⟨0, l.getD (k / 32) 0, Nat.zero_le _, rfl, rfl, (by unfold at64 at h1'; omega), (by show _ = _; rw [Nat.pow_zero, Nat.div_one])⟩
  case round =>
    obtain ⟨t, q, ht, rfl, rfl, hq, HQ⟩ := hrel
    by_cases hlt3 : t < k % 32
    · have hlt3' : (t : Int) < (k : Int) % 32 := by omega
      have HQ2 : Hid (q / 2 = l.getD (k / 32) 0 / 2 ^ (t + 1)) := by show _ = _; rw [HQ.out, Nat.div_div_eq_div_mul, Nat.pow_succ]
      go_wp2
      go_round
      case rel => exact ⟨t + 1, q / 2, by omega, by go_num, by go_num, by omega, HQ2⟩
      case measure => simp [intOf]; omega
    · have htk : t = k % 32 := by omega
      have hlt3' : ¬ (t : Int) < (k : Int) % 32 := by omega
      have HB : Hid (((val 4294967296 l / 2 ^ k % 2 : Nat) : Int) = (q : Int) % 2) := by show _ = _; rw [← bit_at l d k, ← htk, ← HQ.out]; omega
      clear htk
      go_wp2
      go_ret
      exact ⟨ret_int HB.out.symm, rfl⟩

/-- How many bits a number has. -/
def blen (n : Nat) : Nat := if n = 0 then 0 else n.log2 + 1
theorem blen_eq {n k : Nat} (h1 : 2 ^ k ≤ n) (h2 : n < 2 ^ (k + 1)) : blen n = k + 1 := by
  have h0 : n ≠ 0 := by have : 0 < 2 ^ k := Nat.two_pow_pos k; omega
  unfold blen
  rw [if_neg h0, (Nat.log2_eq_iff h0).2 ⟨h1, h2⟩]

theorem bit_top {V k : Nat} (h : V < 2 ^ (k + 1)) : V / 2 ^ k % 2 = if 2 ^ k ≤ V then 1 else 0 := by
  have hp : 0 < 2 ^ k := Nat.two_pow_pos k
  split
  · rename_i hge
    have h1 : V / 2 ^ k < 2 := by rw [Nat.div_lt_iff_lt_mul hp, Nat.mul_comm, ← Nat.pow_succ]; exact h
    have h2 : 1 ≤ V / 2 ^ k := by rw [Nat.le_div_iff_mul_le hp]; omega
    omega
  · rename_i hlt
    rw [Nat.div_eq_of_lt (by omega)]

set_option maxHeartbeats 400000 in
theorem refBits_c (A : Option Addr) (n c B : Nat) (l : List Nat) (w : World) (h : Rd w B A n l) (d : D32 l) (hn : n ≤ 10000) (hc : n ≤ c) :
    Calls Tryz.prog 108 #[.slice A n c] w fun e w' => e = .returned (.int .i64 (blen (val 4294967296 l))) ∧ w = w' := by
  go_enter Tryz.func108, Tryz.ntmps108
  go_wp2_with fail
  refine (trim_c A n c _ l w h (by omega) hc).mono ?_
  rintro e w' ⟨m, hm, rfl, rfl, ht, hz⟩
  have rm := h.take m hm
  have dm : D32 (l.take m) := fun x hx => d x (List.mem_of_mem_take hx)
  have hv := val_take_zeros 4294967296 l m (by rw [h.len]; exact hm) hz
  have hb : val 4294967296 (l.take m) < 2 ^ (32 * m) := by
    have := val_lt _ (by decide) (l.take m) dm
    rw [show (l.take m).length = m by simp [h.len]; omega] at this
    rw [Nat.pow_mul]; exact this
  rw [hv] at hb
  have HV := hid hv
  have HB := hid hb
  clear hz hv hb ht
  go_wp2
  go_loop [3] (fun i => ∃ k : Nat, k ≤ 32 * m ∧ i = .int .i64 ((k : Int) - 1) ∧ Hid (val 4294967296 l < 2 ^ k)) (fun i => (intOf i + 1).toNat)
  case atStart => exact ⟨32 * m, Nat.le_refl _, by go_num, HB⟩
  case round =>
    obtain ⟨k, hk, rfl, HK⟩ := hrel
    rcases k with _ | k
    · have HF : Hid ((blen (val 4294967296 l) : Int) = 0) := by
        have h0 := HK.out
        rw [Nat.pow_zero] at h0
        have h1 : val 4294967296 l = 0 := by omega
        show _ = _
        rw [h1]; rfl
      go_wp2
      go_ret
      exact ⟨ret_int HF.out.symm, rfl⟩
    · have e1 : (((k + 1 : Nat) : Int) - 1) = (k : Int) := by omega
      rw [e1]
      clear e1
      have hbt := bit_top HK.out
      rw [← HV.out] at hbt
      by_cases hge : 2 ^ k ≤ val 4294967296 l
      · rw [if_pos (by rw [HV.out]; exact hge)] at hbt
        have hq : ((val 4294967296 (l.take m) / 2 ^ k % 2 : Nat) : Int) = 1 := by rw [hbt]; rfl
        have HF : Hid ((blen (val 4294967296 l) : Int) = (k : Int) + 1) := by show _ = _; rw [blen_eq hge HK.out]; rfl
        have HQ := hid hq
        clear hbt hge hq
        go_wp2_with fail
        refine (bit_c A m c _ (l.take m) k _ rm dm (by omega)).mono ?_
        rintro e w' ⟨rfl, rfl⟩
        rw [HQ.out]
        go_wp2
        go_ret
        exact ⟨ret_int HF.out.symm, rfl⟩
      · rw [if_neg (by rw [HV.out]; exact hge)] at hbt
        have hq : ((val 4294967296 (l.take m) / 2 ^ k % 2 : Nat) : Int) = 0 := by rw [hbt]; rfl
        have HF : Hid (val 4294967296 l < 2 ^ k) := Nat.lt_of_not_le hge
        have HQ := hid hq
        clear hbt hge hq
        go_wp2_with fail
        refine (bit_c A m c _ (l.take m) k _ rm dm (by omega)).mono ?_
        rintro e w' ⟨rfl, rfl⟩
        rw [HQ.out]
        go_wp2
        go_round
        case rel => exact ⟨k, by omega, by go_num, HF⟩
        case measure => simp [intOf]
end Go.Proofs.YtdepkfdceidikaaGreatDoor
/-
  limb.Bits, (*Modulus).Add, Sub, Exp: what each call does.
-/
namespace Go.Proofs.YtdepkfdceidikaaGreatDoor
open Go.RowKit
set_option linter.unusedVariables false

theorem bitLen_blen (x : Nat) (h0 : x ≠ 0) (hx : x < 18446744073709551616) : Lib.bitLen x = blen x := by
  have h1 : 1 ≤ Lib.bitLen x ∧ 2 ^ (Lib.bitLen x - 1) ≤ x ∧ x < 2 ^ Lib.bitLen x := Lib.bitLenAux_bounds 64 x (by omega) h0
  obtain ⟨a, b, c⟩ := h1
  have := blen_eq (k := Lib.bitLen x - 1) b (by rw [show Lib.bitLen x - 1 + 1 = Lib.bitLen x by omega]; exact c)
  omega
theorem blen_top (l : List Nat) (hl : allLt l) (k : Nat) (hz : ∀ j, k + 1 ≤ j → l.getD j 0 = 0) (h0 : l.getD k 0 ≠ 0) (hk : k < l.length) : blen (val 18446744073709551616 l) = k * 64 + blen (l.getD k 0) := by
  have hx := getD_lt _ (by decide) l hl k
  have h1 : 1 ≤ Lib.bitLen (l.getD k 0) ∧ 2 ^ (Lib.bitLen (l.getD k 0) - 1) ≤ l.getD k 0 ∧ l.getD k 0 < 2 ^ Lib.bitLen (l.getD k 0) := Lib.bitLenAux_bounds 64 _ (by omega) h0
  rw [← bitLen_blen _ h0 hx]
  obtain ⟨a, b, c⟩ := h1
  have hv : val 18446744073709551616 l = pv 18446744073709551616 l k + l.getD k 0 * 18446744073709551616 ^ k := by
    unfold val; rw [pv_zeros _ _ _ _ hz (by omega), pv_succ]
  have hp := pv_lt _ (by decide) l hl k
  have e64 : 18446744073709551616 ^ k = 2 ^ (64 * k) := by rw [Nat.pow_mul]
  have := blen_eq (n := val 18446744073709551616 l) (k := k * 64 + (Lib.bitLen (l.getD k 0) - 1)) ?_ ?_
  · omega
  · rw [hv, Nat.pow_add, Nat.mul_comm k 64, ← e64]
    have : 18446744073709551616 ^ k * 2 ^ (Lib.bitLen (l.getD k 0) - 1) ≤ 18446744073709551616 ^ k * l.getD k 0 := Nat.mul_le_mul_left _ b
    rw [Nat.mul_comm (l.getD k 0)]
    omega
  · rw [hv, show k * 64 + (Lib.bitLen (l.getD k 0) - 1) + 1 = 64 * k + Lib.bitLen (l.getD k 0) by omega, Nat.pow_add, ← e64]
    have : 18446744073709551616 ^ k * (l.getD k 0 + 1) ≤ 18446744073709551616 ^ k * 2 ^ Lib.bitLen (l.getD k 0) := Nat.mul_le_mul_left _ c
    rw [Nat.mul_add, Nat.mul_comm _ (l.getD k 0)] at this
    omega

set_option maxHeartbeats 400000 in
theorem bits_c (A : Option Addr) (n c B : Nat) (l : List Nat) (w : World) (h : Rd w B A n l) (hn : n ≤ 10000) :
    Calls Tryz.prog 107 #[.slice A n c] w fun e w' => e = .returned (.int .i64 (blen (val 18446744073709551616 l) : Int)) ∧ w = w' := by
  go_enter Tryz.func107, Tryz.ntmps107
  go_wp2
  go_loop [3] (fun i => ∃ k : Nat, k ≤ n ∧ i = .int .i64 ((k : Int) - 1) ∧ Hid (∀ j, k ≤ j → l.getD j 0 = 0)) (fun i => (intOf i + 1).toNat)
  case atStart => exact ⟨n, Nat.le_refl _, rfl, fun j hj => getD_out l j (by rw [h.len]; exact hj)⟩
  case round =>
    obtain ⟨k, hk, rfl, H⟩ := hrel
    rcases k with _ | k
    · have HF : Hid ((blen (val 18446744073709551616 l) : Int) = 0) := by
        have : val 18446744073709551616 l = 0 := by unfold val; rw [pv_zeros _ _ _ _ H.out (Nat.zero_le _)]; rfl
        show _ = _
        rw [this]; rfl
      go_wp2
      go_ret
      exact ⟨ret_int HF.out.symm, rfl⟩
    · have e1 : (((k + 1 : Nat) : Int) - 1) = (k : Int) := by omega
      rw [e1]
      clear e1
      obtain ⟨b, off, rfl, hb, hcell⟩ := h.at_ (k := k) (by omega)
      have x0 := at64_nonneg l k
      have x1 : at64 l k ≤ 18446744073709551615 := by have := at64_lt h.lt k; omega
      by_cases hz : l.getD k 0 = 0
      · have hz' : (at64 l k != 0) = false := by unfold at64; rw [hz]; rfl
        have H2 : Hid (∀ j, k ≤ j → l.getD j 0 = 0) := by
          intro j hj
          by_cases hj' : j = k
          · subst hj'; exact hz
          · exact H.out j (by omega)
        clear hz
        go_wp2
        go_round
        case rel => exact ⟨k, by omega, by go_num, H2⟩
        case measure => simp [intOf]
      · have hz' : (at64 l k != 0) = true := bne_iff_ne.2 (by unfold at64; omega)
        have HF : Hid ((blen (val 18446744073709551616 l) : Int) = (k : Int) * 64 + (Lib.bitLen (at64 l k).toNat : Int)) := by
          have e : (at64 l k).toNat = l.getD k 0 := by unfold at64; omega
          show _ = _
          rw [e, bitLen_blen _ hz (getD_lt _ (by decide) l h.lt k), blen_top l h.lt k H.out hz (by rw [h.len]; omega)]
          omega
        have hb64 := Lib.bitLen_le (at64 l k).toNat 64 (by omega) (by omega)
        clear hz
        go_wp2_with fail
        refine (len64_c _ x0 x1 _).mono ?_
        rintro e w' ⟨rfl, rfl⟩
        go_wp2
        go_ret
        exact ⟨ret_int HF.out.symm, rfl⟩

theorem AddRel.wds {w w' : World} {n c : Nat} {la lb : List Nat} (h : AddRel w w.heap.size n la lb w' n c) : ∃ r, Rd w' w'.heap.size (some ⟨w.heap.size, 0, none⟩) n r ∧ val 18446744073709551616 r + c * 18446744073709551616 ^ n = pv 18446744073709551616 la n + pv 18446744073709551616 lb n ∧ Below w.heap.size w w' ∧ c ≤ 1 := by
  obtain ⟨ws, hl, hB, hb, hc, he⟩ := h
  have rd := hB.rd (off := 0) (n := n) (B := w'.heap.size) (by omega) hB.size
  rw [List.drop_zero, List.take_of_length_le (by omega)] at rd
  exact ⟨ws, rd, by unfold val; rw [hl]; exact he, hb, hc⟩
theorem SubRel.wds {w w' : World} {n c : Nat} {la lb : List Nat} (h : SubRel w w.heap.size n la lb w' n c) : ∃ r, Rd w' w'.heap.size (some ⟨w.heap.size, 0, none⟩) n r ∧ val 18446744073709551616 r + pv 18446744073709551616 lb n = pv 18446744073709551616 la n + c * 18446744073709551616 ^ n ∧ Below w.heap.size w w' ∧ c ≤ 1 := by
  obtain ⟨ws, hl, hB, hb, hc, he⟩ := h
  have rd := hB.rd (off := 0) (n := n) (B := w'.heap.size) (by omega) hB.size
  rw [List.drop_zero, List.take_of_length_le (by omega)] at rd
  exact ⟨ws, rd, by unfold val; rw [hl]; exact he, hb, hc⟩

theorem cmpN_ge {x y : Nat} (h : y ≤ x) : decide (0 ≤ cmpN x y) = true := by
  unfold cmpN; rw [if_neg (by omega)]; split <;> decide
theorem cmpN_lt' {x y : Nat} (h : x < y) : decide (0 ≤ cmpN x y) = false := by rw [cmpN_lt h]; decide

end Go.Proofs.YtdepkfdceidikaaGreatDoor
/-
  (*Modulus).Sub, Exp: what each call does.
-/
namespace Go.Proofs.YtdepkfdceidikaaGreatDoor
open Go.RowKit
set_option linter.unusedVariables false

theorem bit_mod64 (x j : Nat) (hj : j < 64) : x % 18446744073709551616 / 2 ^ j % 2 = x / 2 ^ j % 2 := by
  have e : (18446744073709551616 : Nat) = 2 ^ j * (2 * 2 ^ (63 - j)) := by
    rw [← Nat.pow_succ', ← Nat.pow_add, show j + (63 - j).succ = 64 by omega]
  rw [e, Nat.mod_mul_right_div_self, Nat.mod_mul_right_mod]
theorem bit_at64 (l : List Nat) (h : allLt l) (k : Nat) : l.getD (k / 64) 0 / 2 ^ (k % 64) % 2 = val 18446744073709551616 l / 2 ^ k % 2 := by
  rw [← digit_at 18446744073709551616 (by decide) l h (k / 64), bit_mod64 _ _ (Nat.mod_lt _ (by decide))]
  have e : val 18446744073709551616 l / 2 ^ k = val 18446744073709551616 l / 18446744073709551616 ^ (k / 64) / 2 ^ (k % 64) := by
    rw [Nat.div_div_eq_div_mul, show (18446744073709551616 : Nat) = 2 ^ 64 by decide, ← Nat.pow_mul, ← Nat.pow_add, Nat.div_add_mod]
  rw [e]
theorem blen_lt (n : Nat) : n < 2 ^ blen n := by
  unfold blen
  split
  · subst_vars; decide
  · exact Nat.lt_log2_self
theorem blen_le {n k : Nat} (h : n < 2 ^ k) : blen n ≤ k := by
  unfold blen
  split
  · omega
  · rename_i h0
    exact (Nat.log2_lt h0).2 h
/-- One step of a power. -/
theorem pow_step (a E k M b : Nat) (hb : E / 2 ^ k % 2 = b) : (a ^ (E / 2 ^ (k + 1)) % M) * (a ^ (E / 2 ^ (k + 1)) % M) % M * (if b = 1 then a % M else 1) % M = a ^ (E / 2 ^ k) % M := by
  have e : E / 2 ^ k = 2 * (E / 2 ^ (k + 1)) + b := by
    rw [Nat.pow_succ, ← Nat.div_div_eq_div_mul]; omega
  generalize E / 2 ^ (k + 1) = q at e ⊢
  have e2 : a ^ (2 * q + b) = a ^ q * a ^ q * a ^ b := by rw [Nat.pow_add, Nat.two_mul, Nat.pow_add]
  rw [e, e2, ← Nat.mul_mod]
  have hb2 : b = 0 ∨ b = 1 := by omega
  rcases hb2 with rfl | rfl
  · simp
  · rw [if_pos rfl, Nat.pow_one, ← Nat.mul_mod]

theorem and_one (x s : Nat) (hx : x < 18446744073709551616) : bits .and .u64 ((x : Int) / 2 ^ s) 1 = ((x / 2 ^ s % 2 : Nat) : Int) := by
  have e2 : (x : Int) / 2 ^ s = ((x / 2 ^ s : Nat) : Int) := by
    rw [show ((2 : Int) ^ s) = ((2 ^ s : Nat) : Int) by simp, ← Int.natCast_ediv]
  have hb : x / 2 ^ s < 18446744073709551616 := Nat.lt_of_le_of_lt (Nat.div_le_self _ _) hx
  have h := bits_and_u64_nat (x / 2 ^ s) 1 hb (by omega)
  rw [Nat.and_one_is_mod] at h
  rw [e2]
  exact h

end Go.Proofs.YtdepkfdceidikaaGreatDoor
