/-
  limb.New, Len, Words, room: what each call does.
-/
import Derived.Test.YtfonpmahcdmajaaDoorLNew
import Derived.Test.YtfonpmahcdmajaaDoorLCutB
import Derived.Lib.ItoaNum
namespace Go.Proofs.YtfonpmahcdmajaaDoor
open Go.RowKit
set_option linter.unusedVariables false

/-- The pointer to block p is the modulus of the words l: its words, what is raised of them, by how many bits. -/
def ModP (w : World) (p : Nat) (l : List Nat) : Prop :=
  ∃ bw ow cw br cr s lr, w.cell? ⟨p, 0, none⟩ = some (.slice (some ⟨bw, ow, none⟩) l.length cw) ∧ w.cell? ⟨p, 1, none⟩ = some (.slice (some ⟨br, 0, none⟩) l.length cr) ∧ w.cell? ⟨p, 2, none⟩ = some (.int .i64 ((s : Nat) : Int)) ∧
    Rd w p (some ⟨bw, ow, none⟩) l.length l ∧ Rd w p (some ⟨br, 0, none⟩) l.length lr ∧ s ≤ 63 ∧ val 18446744073709551616 lr = 2 ^ s * val 18446744073709551616 l ∧ 9223372036854775808 ≤ lr.getD (l.length - 1) 0 ∧ p < w.heap.size ∧ Rt l

theorem ModP.keep {w w' : World} {p : Nat} {l : List Nat} (h : ModP w p l) {B : Nat} (hb : Below B w w') (hp : p < B) : ModP w' p l := by
  obtain ⟨bw, ow, cw, br, cr, s, lr, h1, h2, h3, h4, h5, h6, h7, h8, h9, h10⟩ := h
  exact ⟨bw, ow, cw, br, cr, s, lr, (hb.cell (p := ⟨p, 0, none⟩) hp).trans h1, (hb.cell (p := ⟨p, 1, none⟩) hp).trans h2, (hb.cell (p := ⟨p, 2, none⟩) hp).trans h3,
    h4.below hb (Nat.le_of_lt hp), h5.below hb (Nat.le_of_lt hp), h6, h7, h8, Nat.lt_of_lt_of_le h9 hb.size, h10⟩
theorem ModP.lt {w : World} {p : Nat} {l : List Nat} (h : ModP w p l) : p < w.heap.size := by
  obtain ⟨bw, ow, cw, br, cr, s, lr, h1, h2, h3, h4, h5, h6, h7, h8, h9, h10⟩ := h
  exact h9
theorem ModP.rt {w : World} {p : Nat} {l : List Nat} (h : ModP w p l) : Rt l := by
  obtain ⟨bw, ow, cw, br, cr, s, lr, h1, h2, h3, h4, h5, h6, h7, h8, h9, h10⟩ := h
  exact h10
theorem ModP.all {w : World} {p : Nat} {l : List Nat} (h : ModP w p l) : allLt l := by
  obtain ⟨bw, ow, cw, br, cr, s, lr, h1, h2, h3, h4, h5, h6, h7, h8, h9, h10⟩ := h
  exact h4.lt

theorem new_none (A : Option Addr) (n c B : Nat) (l : List Nat) (w : World) (h : Rd w B A n l) (hn : n ≤ 100000) (hr : ¬ Rt l) :
    Calls Tryd.prog 78 #[.slice A n c] w fun e w' => e = .returned (.tuple #[.pointer none, .int .i64 1]) ∧ w = w' := by
  have hf := rtB_f hr
  go_enter Tryd.func78, Tryd.ntmps78
  go_wp2_with fail
  refine (isModulus_c A n c B l w h hn).mono ?_
  rintro e w' ⟨rfl, rfl⟩
  rw [hf]
  go_wp2
  go_ret2
  exact ⟨rfl, rfl⟩

/-- The highest word, raised: its highest bit is set. -/
theorem top_bit (x : Nat) (h0 : x ≠ 0) (hx : x < 18446744073709551616) : Lib.bitLen x ≤ 64 ∧ 1 ≤ Lib.bitLen x ∧ 9223372036854775808 ≤ x * 2 ^ (64 - Lib.bitLen x) ∧ x * 2 ^ (64 - Lib.bitLen x) < 18446744073709551616 := by
  have h1 : 1 ≤ Lib.bitLen x ∧ 2 ^ (Lib.bitLen x - 1) ≤ x ∧ x < 2 ^ Lib.bitLen x := Lib.bitLenAux_bounds 64 x (by omega) h0
  have h2 := Lib.bitLen_le x 64 (by omega) (by omega)
  obtain ⟨a, b, c⟩ := h1
  refine ⟨h2, a, ?_, ?_⟩
  · have : 2 ^ (Lib.bitLen x - 1) * 2 ^ (64 - Lib.bitLen x) ≤ x * 2 ^ (64 - Lib.bitLen x) := Nat.mul_le_mul_right _ b
    rw [← Nat.pow_add, show Lib.bitLen x - 1 + (64 - Lib.bitLen x) = 63 by omega] at this
    exact this
  · have : x * 2 ^ (64 - Lib.bitLen x) < 2 ^ Lib.bitLen x * 2 ^ (64 - Lib.bitLen x) := Nat.mul_lt_mul_of_pos_right c (Nat.two_pow_pos _)
    rw [← Nat.pow_add, show Lib.bitLen x + (64 - Lib.bitLen x) = 64 by omega] at this
    exact this
/-- Raised words: their number, and their highest one. -/
theorem raised (l ws : List Nat) (m s : Nat) (hl : l.length = m + 1) (ha : allLt l) (hw : allLt ws) (hlo : 9223372036854775808 ≤ l.getD m 0 * 2 ^ s) (hhi : l.getD m 0 * 2 ^ s < 18446744073709551616)
    (h : pv 18446744073709551616 ws (m + 1) = 2 ^ s * pv 18446744073709551616 l (m + 1) % 18446744073709551616 ^ (m + 1)) :
    val 18446744073709551616 (ws.take (m + 1)) = 2 ^ s * val 18446744073709551616 l ∧ 9223372036854775808 ≤ (ws.take (m + 1)).getD m 0 := by
  have hS : 0 < 2 ^ s := Nat.two_pow_pos s
  have b := pv_lt _ (by decide) l ha m
  have bz := pv_lt _ (by decide) ws hw m
  have hlt : 2 ^ s * pv 18446744073709551616 l (m + 1) < 18446744073709551616 ^ (m + 1) := by
    rw [pv_succ, Nat.pow_succ, Nat.mul_add]
    have h1 : 2 ^ s * pv 18446744073709551616 l m < 2 ^ s * 18446744073709551616 ^ m := Nat.mul_lt_mul_of_pos_left b hS
    have h2 : (l.getD m 0 * 2 ^ s + 2 ^ s) * 18446744073709551616 ^ m ≤ 18446744073709551616 * 18446744073709551616 ^ m := by
      apply Nat.mul_le_mul_right
      have hd : 2 ^ s ∣ 18446744073709551616 := by
        have hs : s ≤ 64 := by
          rcases Nat.lt_or_ge 64 s with h | h
          · exfalso
            have hp : 0 < l.getD m 0 := by
              rcases Nat.eq_zero_or_pos (l.getD m 0) with h0 | h0
              · rw [h0] at hlo; omega
              · exact h0
            have : 1 * 2 ^ 65 ≤ l.getD m 0 * 2 ^ s := Nat.mul_le_mul hp (Nat.pow_le_pow_right (by decide) h)
            omega
          · exact h
        exact Nat.pow_dvd_pow 2 hs
      obtain ⟨T, hT⟩ := hd
      rw [hT] at hhi ⊢
      have h3 : l.getD m 0 < T := by
        rw [Nat.mul_comm (2 ^ s) T] at hhi
        exact Nat.lt_of_mul_lt_mul_right hhi
      have h4 : (l.getD m 0 + 1) * 2 ^ s ≤ T * 2 ^ s := Nat.mul_le_mul_right _ h3
      rw [Nat.add_mul, Nat.one_mul] at h4
      rw [Nat.mul_comm (2 ^ s) T]
      exact h4
    have e : 2 ^ s * (l.getD m 0 * 18446744073709551616 ^ m) = l.getD m 0 * 2 ^ s * 18446744073709551616 ^ m := by rw [← Nat.mul_assoc, Nat.mul_comm (2 ^ s)]
    rw [e]
    rw [Nat.add_mul] at h2
    rw [Nat.mul_comm _ 18446744073709551616]
    omega
  rw [Nat.mod_eq_of_lt hlt] at h
  have hval : val 18446744073709551616 l = pv 18446744073709551616 l (m + 1) := by unfold val; rw [hl]
  have htake : (ws.take (m + 1)).getD m 0 = ws.getD m 0 := by simp [List.getD_eq_getElem?_getD]
  refine ⟨?_, ?_⟩
  · rw [hval, ← h, ← pv_take _ ws (m + 1) (m + 1) (Nat.le_refl _)]
    rw [pv_out _ (ws.take (m + 1)) (m + 1) (by simp; omega)]
  · rw [htake]
    rcases Nat.lt_or_ge (ws.getD m 0) 9223372036854775808 with hc | hc
    · exfalso
      rw [pv_succ, pv_succ, Nat.mul_add] at h
      have h5 : (ws.getD m 0 + 1) * 18446744073709551616 ^ m ≤ 9223372036854775808 * 18446744073709551616 ^ m := Nat.mul_le_mul_right _ hc
      have h6 : 9223372036854775808 * 18446744073709551616 ^ m ≤ l.getD m 0 * 2 ^ s * 18446744073709551616 ^ m := Nat.mul_le_mul_right _ hlo
      have e : 2 ^ s * (l.getD m 0 * 18446744073709551616 ^ m) = l.getD m 0 * 2 ^ s * 18446744073709551616 ^ m := by rw [← Nat.mul_assoc, Nat.mul_comm (2 ^ s)]
      rw [e] at h
      rw [Nat.add_mul] at h5
      omega
    · exact hc

set_option maxHeartbeats 1000000 in
theorem new_some (A : Option Addr) (n c : Nat) (l : List Nat) (w : World) (h : Rd w w.heap.size A n l) (hr : Rt l) :
    Calls Tryd.prog 78 #[.slice A n c] w fun e w' => ∃ p, e = .returned (.tuple #[.pointer (some ⟨p, 0, none⟩), .int .i64 0]) ∧ w.heap.size ≤ p ∧ ModP w' p l ∧ Below w.heap.size w w' := by
  have hf := rtB_t hr
  have hl := h.len
  obtain ⟨m, rfl⟩ : ∃ m, n = m + 1 := ⟨n - 1, by have := hr.1; omega⟩
  have hm16 : m + 1 ≤ 16 := by have := hr.2.1; omega
  obtain ⟨b, off, rfl, hb, c0⟩ := h.at_ (k := m) (by omega)
  have x0 := at64_nonneg l m
  have x1 : at64 l m ≤ 18446744073709551615 := by have := at64_lt h.lt m; omega
  have htop := top_bit (l.getD m 0) (by have := hr.2.2.2.1; rw [hl] at this; exact this) (getD_lt _ (by decide) l h.lt m)
  obtain ⟨t1, t2, t3, t4⟩ := htop
  have HT3 := hid t3
  have HT4 := hid t4
  have HR := hid hr
  have HL := hid hl
  clear t3 t4 hr hl
  go_enter Tryd.func78, Tryd.ntmps78
  go_wp2_with fail
  refine (isModulus_c _ _ c _ l w h (by omega)).mono ?_
  rintro e w' ⟨rfl, rfl⟩
  rw [hf]
  go_wp2_with fail
  refine (lz64_c _ x0 x1 _).mono ?_
  rintro e w' ⟨rfl, rfl⟩
  have hs : 64 - (Lib.bitLen (at64 l m).toNat : Int) = ((64 - Lib.bitLen (l.getD m 0) : Nat) : Int) := by
    have : (at64 l m).toNat = l.getD m 0 := by unfold at64; omega
    rw [this]; omega
  rw [hs]
  have hs63 : 64 - Lib.bitLen (l.getD m 0) ≤ 63 := by omega
  clear hs t1 t2
  generalize 64 - Lib.bitLen (l.getD m 0) = s at HT3 HT4 hs63 ⊢
  clear hf
  go_wp2_with fail
  refine (clone_c b off (m + 1) c l w h (by omega) (by omega)).mono ?_
  rintro e w1 ⟨g1, k1, rfl, hg1, hB1, hb1⟩
  have hlen1 : m + 1 ≤ (l ++ List.replicate k1 0).length := by rw [List.length_append, HL.out]; omega
  go_wp2_with fail
  refine (shiftUp_c g1 m _ s (l ++ List.replicate k1 0) w1 hB1 hlen1 hs63 (by omega)).mono ?_
  rintro e w2 ⟨rfl, ws, hl2, hB2, hb2, he2⟩
  have hb12 : Below w.heap.size w w2 := hb1.trans (hb2.mono hg1)
  have hpv : pv 18446744073709551616 (l ++ List.replicate k1 0) (m + 1) = pv 18446744073709551616 l (m + 1) := by
    refine pv_congr _ _ _ _ fun i hi => ?_
    have hl := HL.out
    simp [List.getD_eq_getElem?_getD, List.getElem?_append_left (show i < l.length by omega)]
  rw [hpv] at he2
  have HRS := hid (raised l ws m s HL.out h.lt hB2.lt HT3.out HT4.out he2)
  have hlen2 : m + 1 ≤ ws.length := by rw [hl2]; exact hlen1
  have hg1' : g1 < w2.heap.size := hB2.size
  have rd2 := h.up hb12 (Nat.le_refl _)
  clear he2 hpv hl2
  go_wp2_with fail
  refine (clone_c b off (m + 1) c l w2 rd2 (by omega) (by omega)).mono ?_
  rintro e w3 ⟨g3, k3, rfl, hg3, hB3, hb3⟩
  have hb13 : Below w.heap.size w w3 := hb12.trans (hb3.mono hb12.size)
  have hB23 := hB2.below hb3 hg1'
  have hg3' : g3 < w3.heap.size := hB3.size
  have hg13 : g1 < w3.heap.size := by omega
  have hM : ∀ cs, cs = #[Value.slice (some ⟨g3, 0, none⟩) (m + 1) (m + 1 + k3), .slice (some ⟨g1, 0, none⟩) (m + 1) (m + 1 + k1), .int .i64 (s : Int)] → ModP (w3.alloc (.cells cs 102)) w3.heap.size l := by
    rintro cs rfl
    have hba : Below w3.heap.size w3 (w3.alloc (.cells #[Value.slice (some ⟨g3, 0, none⟩) (m + 1) (m + 1 + k3), .slice (some ⟨g1, 0, none⟩) (m + 1) (m + 1 + k1), .int .i64 (s : Int)] 102)) := (Below.refl _ _).alloc (Nat.le_refl _) _
    have hl := HL.out
    refine ⟨g3, 0, m + 1 + k3, g1, m + 1 + k1, s, ws.take (m + 1), ?_, ?_, ?_, ?_, ?_, hs63, HRS.out.1, ?_, by simp, HR.out⟩
    · rw [hl]; simp
    · rw [hl]; simp
    · simp
    · have := (hB3.rd (off := 0) (n := m + 1) (B := w3.heap.size) (by rw [List.length_append, hl]; omega) hg3').below hba (Nat.le_refl _)
      rw [List.drop_zero, List.take_append_of_le_length (by omega), List.take_of_length_le (by omega)] at this
      rw [hl]; exact this
    · have := (hB23.rd (off := 0) (n := m + 1) (B := w3.heap.size) (by omega) hg13).below hba (Nat.le_refl _)
      rw [List.drop_zero] at this
      rw [hl]; exact this
    · rw [hl]; exact HRS.out.2
  have HM := hid (hM _ rfl)
  clear hM
  go_wp2
  go_ret2
  exact ⟨_, rfl, hb13.size, HM.out, hb13.alloc hb13.size _⟩
end Go.Proofs.YtfonpmahcdmajaaDoor
