/-
  avouchref06.OfWords: what the call does.
-/
import Derived.Test.YteogjnendkbjcaaDoorKRa
namespace Go.Proofs.YteogjnendkbjcaaDoor
open Go.RowKit
set_option linter.unusedVariables false

/-- The bits of the lanes below i, and of z bits of the next. -/
def ofk (l : List Nat) (i z : Nat) : KB := fun x y z' => if x + 5 * y < i ∨ (x + 5 * y = i ∧ z' < z) then kbits l x y z' else false
theorem ofk_set (l : List Nat) {i z : Nat} (hi : i < 25) (hz : z < 64) : KEq (kset (ofk l i z) (i % 5) (i / 5) z ((l.getD i 0).testBit z)) (ofk l i (z + 1)) := fun x y z' hx hy hz' => by
  unfold kset
  split
  · next h =>
    obtain ⟨h1, h2, h3⟩ := h
    unfold ofk
    rw [if_pos (by omega)]
    unfold kbits
    rw [h3, show x + 5 * y = i by omega]
  · next h =>
    unfold ofk
    by_cases c : x + 5 * y < i ∨ (x + 5 * y = i ∧ z' < z)
    · rw [if_pos c, if_pos (by omega)]
    · rw [if_neg c, if_neg (by omega)]
theorem ofk_turn (l : List Nat) (i : Nat) : KEq (ofk l i 64) (ofk l (i + 1) 0) := fun x y z' hx hy hz' => by
  unfold ofk
  by_cases c : x + 5 * y < i ∨ (x + 5 * y = i ∧ z' < 64)
  · rw [if_pos c, if_pos (by omega)]
  · rw [if_neg c, if_neg (by omega)]
theorem ofk_end (l : List Nat) : KEq (ofk l 25 0) (kbits l) := fun x y z' hx hy hz' => by
  unfold ofk
  rw [if_pos (by omega)]
theorem ofk_start (l : List Nat) : KEq kzero (ofk l 0 0) := fun x y z' hx hy hz' => by
  unfold ofk
  rw [if_neg (by omega)]
  rfl
structure OfRel (w : World) (l : List Nat) (a : KB) (wr : World) : Prop where
  o : BB wr (w.heap.size + 1 + 1) a
  z : BB wr (w.heap.size + 1) kzero
  s : BlkW wr w.heap.size 30 l
  b : Below w.heap.size w wr
theorem OfRel.eq {w : World} {l : List Nat} {a c : KB} {wr : World} (h : OfRel w l a wr) (e : KEq a c) : OfRel w l c wr := ⟨h.o.eq e, h.z, h.s, h.b⟩
theorem OfRel.set {w : World} {l : List Nat} {a : KB} {wr : World} (h : OfRel w l a wr) {x y z : Nat} (hx : x < 5) (hy : y < 5) (hz : z < 64) (v : Bool) : OfRel w l (kset a x y z v) (wr.setCell ⟨w.heap.size + 1 + 1, x * 320 + y * 64 + z, none⟩ (.bool v)) :=
  ⟨h.o.setk hx hy hz v, h.z.other (by omega), h.s.otherC (by omega), h.b.setCell (by show w.heap.size ≤ w.heap.size + 1 + 1; omega) _⟩

set_option maxRecDepth 20000 in
set_option maxHeartbeats 1000000 in
theorem ofWords_c (l : List Nat) (w : World) (hl : Lanes l) :
    Calls Tryd.prog 25 #[st l] w fun e w' => e = .returned (bt (kbits l)) ∧ Below w.heap.size w w' := by
  have e1 : (w.alloc (oW 30 l)).heap.size = w.heap.size + 1 := by simp
  have e2 : ((w.alloc (oW 30 l)).alloc (oB kzero)).heap.size = w.heap.size + 1 + 1 := by simp
  have h1 := ((oW_new w 30 l hl.all).alloc (oB kzero)).alloc (oB kzero)
  have h2 := (oB_new (w.alloc (oW 30 l)) kzero).alloc (oB kzero)
  have h3 := oB_new ((w.alloc (oW 30 l)).alloc (oB kzero)) kzero
  rw [e1] at h2
  rw [e2] at h3
  have hst := storeB kzero h3
  have R0 := hid (show OfRel w l (ofk l 0 0) _ from ⟨(h3.over kzero).eq (ofk_start l), BlkV.put (by omega) _ _ _ h2, h1.putC (by omega) _ _, below_cells (by omega) _ _ _ ((((Below.refl _ _).alloc (Nat.le_refl _) _).alloc (by omega) _).alloc (by omega) _)⟩)
  have hlen := st_len hl
  have hlz := kcell_len kzero
  have hz := zeroB
  have HL := hid hl
  have HEnd := hid (ofk_end l)
  obtain ⟨L, eL⟩ : ∃ L, L = kbits l := ⟨_, rfl⟩
  rw [← eL] at HEnd ⊢
  clear e1 e2 h1 h2 h3 eL hl
  unfold oW oB at hst R0
  unfold st
  go_enter Tryd.func25, Tryd.ntmps25
  go_wp2_with fail
  clear hlen hlz hst hz
  generalize ((((w.alloc _).alloc _).alloc _).setCells _ _ _) = w0 at *
  go_loopw [4] (fun i wr => ∃ k : Nat, k ≤ 25 ∧ i = .int .i64 k ∧ OfRel w l (ofk l k 0) wr) (fun i _ => 25 - (intOf i).toNat)
  case atStart => exact ⟨0, by omega, rfl, R0.out⟩
  case round =>
    clear R0
    obtain ⟨k, hk, rfl, hrel⟩ := hrel
    by_cases hlt : k < 25
    · have i2 : (k : Int) < 25 := by omega
      have c0 := hrel.s.cell (i := k) (by rw [HL.out.len]; exact hlt)
      obtain ⟨v, hv⟩ : ∃ v, v = l.getD k 0 := ⟨_, rfl⟩
      have g0 : at64 l k = (v : Int) := by rw [hv]; rfl
      have hv64 := HL.out.at_ k
      rw [← hv] at hv64
      rw [g0] at c0
      have HV := hid hv
      have HR := hid hrel
      have HV64 := hid hv64
      clear hrel g0 hv hv64
      go_wp2_with fail
      obtain ⟨w1, rfl⟩ : ∃ x, x = wr := ⟨wr, rfl⟩
      clear c0
      go_loopw [5, 6] (fun u i wr => ∃ z p : Nat, z ≤ 64 ∧ Hid (p = v / 2 ^ z) ∧ u = .int .u64 (p : Int) ∧ i = .int .i64 z ∧ OfRel w l (ofk l k z) wr) (fun _ i _ => 64 - (intOf i).toNat)
      case atStart => exact ⟨0, v, by omega, by show v = v / 2 ^ 0; rw [Nat.pow_zero, Nat.div_one], rfl, rfl, HR.out⟩
      case round =>
        clear HR
        obtain ⟨z, p, hz, HP, rfl, rfl, hrel⟩ := hrel
        by_cases hltz : z < 64
        · have j2 : (z : Int) < 64 := by omega
          have c1 := hrel.o.cellk (show k % 5 < 5 by omega) (show k / 5 < 5 by omega) hltz
          have f1 := hrel.o.frozen (k % 5 * 320 + k / 5 * 64 + z)
          have hbit : ((p : Int).tmod 2 == 1) = (l.getD k 0).testBit z := by
            rw [← HV.out, Int.tmod_eq_emod_of_nonneg (by omega), HP.out]
            have h := kbit_at v z
            cases hb : v.testBit z
            · rw [hb, if_neg (by simp)] at h
              rw [show ((v / 2 ^ z : Nat) : Int) % 2 = ((v / 2 ^ z % 2 : Nat) : Int) by omega, h]
              rfl
            · rw [hb, if_pos rfl] at h
              rw [show ((v / 2 ^ z : Nat) : Int) % 2 = ((v / 2 ^ z % 2 : Nat) : Int) by omega, h]
              rfl
          have HST := hid ((hrel.set (show k % 5 < 5 by omega) (show k / 5 < 5 by omega) hltz ((p : Int).tmod 2 == 1)).eq (hbit ▸ ofk_set l hlt hltz))
          have HP2 : Hid (p / 2 = v / 2 ^ (z + 1)) := by
            show _ = _
            rw [HP.out, Nat.pow_succ, Nat.div_div_eq_div_mul]
          have hp64 : p < 18446744073709551616 := by
            rw [HP.out]
            exact Nat.lt_of_le_of_lt (Nat.div_le_self _ _) HV64.out
          have hw : IntKind.u64.wrap ((p : Int) / 2) = ((p / 2 : Nat) : Int) := by rw [IntKind.wrap_u64]; omega
          clear hrel hbit hp64
          go_wp2
          go_roundw
          case rel => exact ⟨z + 1, p / 2, by omega, HP2, by go_num, by go_num, HST.out⟩
          case measure => simp [intOf]; omega
        · have j2 : decide ((z : Int) < 64) = false := by simp; omega
          have HR5 := hid (hrel.eq (c := ofk l (k + 1) 0) (by rw [show z = 64 by omega]; exact ofk_turn l k))
          clear hrel
          go_wp2
          go_roundw
          case rel => exact ⟨k + 1, by omega, by go_num, HR5.out⟩
          case measure => simp [intOf]; omega
    · obtain rfl : k = 25 := by omega
      have hrel := hrel.eq HEnd.out
      have HO := hid hrel.o.range
      have hst := storeB L hrel.z
      have HZ := hid (hrel.z.over L)
      have HB := hid hrel.b
      have hlenL := kcell_len L
      have HSz := hid (sizeB_k L)
      clear hrel
      go_wp2_with (with_reducible refine wpList_load_mid rfl 60 (.tmp 3) rfl (w.heap.size + 1 + 1) 0 rfl (kcell L) _ HO.out Tryd.underlying60 rfl HSz.out ?_)
      refine bodyPost_ret (BB.bt_result HZ.out Tryd.results25 rfl) rfl ?_
      exact ⟨rfl, below_cells (by omega) _ _ _ HB.out⟩
end Go.Proofs.YteogjnendkbjcaaDoor
