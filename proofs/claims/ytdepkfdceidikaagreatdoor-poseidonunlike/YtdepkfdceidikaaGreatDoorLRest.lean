import Derived.Test.YtdepkfdceidikaaGreatDoorLNew
import Derived.Test.YtdepkfdceidikaaGreatDoorLCutB
import Derived.Lib.ItoaNum
import Derived.Laws.CopyOwn
/-
  limb.New, Len, Words, room: what each call does.
-/
namespace Go.Proofs.YtdepkfdceidikaaGreatDoor
open Go.RowKit
set_option linter.unusedVariables false

/-- The pointer to block p is the modulus of the words l: its words, what is raised of them, by how many bits. -/
def ModP (w : World) (p : Nat) (l : List Nat) : Prop :=
  ∃ bw ow cw br cr s lr, w.cell? ⟨p, 0, none⟩ = some (.slice (some ⟨bw, ow, none⟩) l.length cw) ∧ w.cell? ⟨p, 1, none⟩ = some (.slice (some ⟨br, 0, none⟩) l.length cr) ∧ w.cell? ⟨p, 2, none⟩ = some (.int .i64 ((s : Nat) : Int)) ∧
    Rd w p (some ⟨bw, ow, none⟩) l.length l ∧ Rd w p (some ⟨br, 0, none⟩) l.length lr ∧ s ≤ 63 ∧ val 18446744073709551616 lr = 2 ^ s * val 18446744073709551616 l ∧ 9223372036854775808 ≤ lr.getD (l.length - 1) 0 ∧ p < w.heap.size ∧ Rt l

theorem ModP.keep {w w' : World} {p : Nat} {l : List Nat} (h : ModP w p l) {B : Nat} (hb : Below B w w') (hp : p < B) : ModP w' p l := by
  obtain ⟨bw, ow, cw, br, cr, s, lr, h1, h2, h3, h4, h5, h6, h7, h8, h9, h10⟩ := h
  exact ⟨bw, ow, cw, br, cr, s, lr, (hb.cell (p := ⟨p, 0, none⟩) hp).trans h1, (hb.cell (p := ⟨p, 1, none⟩) hp).trans h2, (hb.cell (p := ⟨p, 2, none⟩) hp).trans h3,
    h4.below hb (Nat.le_of_lt hp), h5.below hb (Nat.le_of_lt hp), h6, h7, h8, Nat.lt_of_lt_of_le h9 hb.size, h10⟩
theorem ModP.lt {w : World} {p : Nat} {l : List Nat} (h : ModP w p l) : p < w.heap.size := by
  obtain ⟨bw, ow, cw, br, cr, s, lr, h1, h2, h3, h4, h5, h6, h7, h8, h9, h10⟩ := h
  exact h9
theorem ModP.rt {w : World} {p : Nat} {l : List Nat} (h : ModP w p l) : Rt l := by
  obtain ⟨bw, ow, cw, br, cr, s, lr, h1, h2, h3, h4, h5, h6, h7, h8, h9, h10⟩ := h
  exact h10
theorem ModP.all {w : World} {p : Nat} {l : List Nat} (h : ModP w p l) : allLt l := by
  obtain ⟨bw, ow, cw, br, cr, s, lr, h1, h2, h3, h4, h5, h6, h7, h8, h9, h10⟩ := h
  exact h4.lt

theorem new_none (A : Option Addr) (n c B : Nat) (l : List Nat) (w : World) (h : Rd w B A n l) (hn : n ≤ 100000) (hr : ¬ Rt l) :
    Calls Tryz.prog 59 #[.slice A n c] w fun e w' => e = .returned (.tuple #[.pointer none, .int .i64 1]) ∧ w = w' := by
  have hf := rtB_f hr
  go_enter Tryz.func59, Tryz.ntmps59
  go_wp2_with fail
  refine (isModulus_c A n c B l w h hn).mono ?_
  rintro e w' ⟨rfl, rfl⟩
  rw [hf]
  go_wp2
  go_ret2
  exact ⟨rfl, rfl⟩

/-- The highest word, raised: its highest bit is set. -/
theorem top_bit (x : Nat) (h0 : x ≠ 0) (hx : x < 18446744073709551616) : Lib.bitLen x ≤ 64 ∧ 1 ≤ Lib.bitLen x ∧ 9223372036854775808 ≤ x * 2 ^ (64 - Lib.bitLen x) ∧ x * 2 ^ (64 - Lib.bitLen x) < 18446744073709551616 := by
  have h1 : 1 ≤ Lib.bitLen x ∧ 2 ^ (Lib.bitLen x - 1) ≤ x ∧ x < 2 ^ Lib.bitLen x := Lib.bitLenAux_bounds 64 x (by omega) h0
  have h2 := Lib.bitLen_le x 64 (by omega) (by omega)
  obtain ⟨a, b, c⟩ := h1
  refine ⟨h2, a, ?_, ?_⟩
  · have : 2 ^ (Lib.bitLen x - 1) * 2 ^ (64 - Lib.bitLen x) ≤ x * 2 ^ (64 - Lib.bitLen x) := Nat.mul_le_mul_right _ b
    rw [← Nat.pow_add, show Lib.bitLen x - 1 + (64 - Lib.bitLen x) = 63 by omega] at this
    exact this
  · have : x * 2 ^ (64 - Lib.bitLen x) < 2 ^ Lib.bitLen x * 2 ^ (64 - Lib.bitLen x) := Nat.mul_lt_mul_of_pos_right c (Nat.two_pow_pos _)
    rw [← Nat.pow_add, show Lib.bitLen x + (64 - Lib.bitLen x) = 64 by omega] at this
    exact this
/-- Raised words: their number, and their highest one. -/
theorem raised (l ws : List Nat) (m s : Nat) (hl : l.length = m + 1) (ha : allLt l) (hw : allLt ws) (hlo : 9223372036854775808 ≤ l.getD m 0 * 2 ^ s) (hhi : l.getD m 0 * 2 ^ s < 18446744073709551616)
    (h : pv 18446744073709551616 ws (m + 1) = 2 ^ s * pv 18446744073709551616 l (m + 1) % 18446744073709551616 ^ (m + 1)) :
    val 18446744073709551616 (ws.take (m + 1)) = 2 ^ s * val 18446744073709551616 l ∧ 9223372036854775808 ≤ (ws.take (m + 1)).getD m 0 := by
  have hS : 0 < 2 ^ s := Nat.two_pow_pos s
  have b := pv_lt _ (by decide) l ha m
  have bz := pv_lt _ (by decide) ws hw m
  have hlt : 2 ^ s * pv 18446744073709551616 l (m + 1) < 18446744073709551616 ^ (m + 1) := by
    rw [pv_succ, Nat.pow_succ, Nat.mul_add]
    have h1 : 2 ^ s * pv 18446744073709551616 l m < 2 ^ s * 18446744073709551616 ^ m := Nat.mul_lt_mul_of_pos_left b hS
    have h2 : (l.getD m 0 * 2 ^ s + 2 ^ s) * 18446744073709551616 ^ m ≤ 18446744073709551616 * 18446744073709551616 ^ m := by
      apply Nat.mul_le_mul_right
      have hd : 2 ^ s ∣ 18446744073709551616 := by
        have hs : s ≤ 64 := by
          rcases Nat.lt_or_ge 64 s with h | h
          · exfalso
            have hp : 0 < l.getD m 0 := by
              rcases Nat.eq_zero_or_pos (l.getD m 0) with h0 | h0
              · rw [h0] at hlo; omega
              · exact h0
            have : 1 * 2 ^ 65 ≤ l.getD m 0 * 2 ^ s := Nat.mul_le_mul hp (Nat.pow_le_pow_right (by decide) h)
            omega
          · exact h
        exact Nat.pow_dvd_pow 2 hs
      obtain ⟨T, hT⟩ := hd
      rw [hT] at hhi ⊢
      have h3 : l.getD m 0 < T := by
        rw [Nat.mul_comm (2 ^ s) T] at hhi
        exact Nat.lt_of_mul_lt_mul_right hhi
      have h4 : (l.getD m 0 + 1) * 2 ^ s ≤ T * 2 ^ s := Nat.mul_le_mul_right _ h3
      rw [Nat.add_mul, Nat.one_mul] at h4
      rw [Nat.mul_comm (2 ^ s) T]
      exact h4
    have e : 2 ^ s * (l.getD m 0 * 18446744073709551616 ^ m) = l.getD m 0 * 2 ^ s * 18446744073709551616 ^ m := by rw [← Nat.mul_assoc, Nat.mul_comm (2 ^ s)]
    rw [e]
    rw [Nat.add_mul] at h2
    rw [Nat.mul_comm _ 18446744073709551616]
    omega
  rw [Nat.mod_eq_of_lt hlt] at h
  have hval : val 18446744073709551616 l = pv 18446744073709551616 l (m + 1) := by unfold val; rw [hl]
  have htake : (ws.take (m + 1)).getD m 0 = ws.getD m 0 := by simp [List.getD_eq_getElem?_getD]
  refine ⟨?_, ?_⟩
  · rw [hval, ← h, ← pv_take _ ws (m + 1) (m + 1) (Nat.le_refl _)]
    rw [pv_out _ (ws.take (m + 1)) (m + 1) (by simp; omega)]
  · rw [htake]
    rcases Nat.lt_or_ge (ws.getD m 0) 9223372036854775808 with hc | hc
    · exfalso
      rw [pv_succ, pv_succ, Nat.mul_add] at h
      have h5 : (ws.getD m 0 + 1) * 18446744073709551616 ^ m ≤ 9223372036854775808 * 18446744073709551616 ^ m := Nat.mul_le_mul_right _ hc
      have h6 : 9223372036854775808 * 18446744073709551616 ^ m ≤ l.getD m 0 * 2 ^ s * 18446744073709551616 ^ m := Nat.mul_le_mul_right _ hlo
      have e : 2 ^ s * (l.getD m 0 * 18446744073709551616 ^ m) = l.getD m 0 * 2 ^ s * 18446744073709551616 ^ m := by rw [← Nat.mul_assoc, Nat.mul_comm (2 ^ s)]
      rw [e] at h
      rw [Nat.add_mul] at h5
      omega
    · exact hc

set_option maxHeartbeats 1000000 in
theorem new_some (A : Option Addr) (n c : Nat) (l : List Nat) (w : World) (h : Rd w w.heap.size A n l) (hr : Rt l) :
    Calls Tryz.prog 59 #[.slice A n c] w fun e w' => ∃ p, e = .returned (.tuple #[.pointer (some ⟨p, 0, none⟩), .int .i64 0]) ∧ w.heap.size ≤ p ∧ ModP w' p l ∧ Below w.heap.size w w' := by
  have hf := rtB_t hr
  have hl := h.len
  obtain ⟨m, rfl⟩ : ∃ m, n = m + 1 := ⟨n - 1, by have := hr.1; omega⟩
  have hm16 : m + 1 ≤ 16 := by have := hr.2.1; omega
  obtain ⟨b, off, rfl, hb, c0⟩ := h.at_ (k := m) (by omega)
  have x0 := at64_nonneg l m
  have x1 : at64 l m ≤ 18446744073709551615 := by have := at64_lt h.lt m; omega
  have htop := top_bit (l.getD m 0) (by have := hr.2.2.2.1; rw [hl] at this; exact this) (getD_lt _ (by decide) l h.lt m)
  obtain ⟨t1, t2, t3, t4⟩ := htop
  have HT3 := hid t3
  have HT4 := hid t4
  have HR := hid hr
  have HL := hid hl
  clear t3 t4 hr hl
  go_enter Tryz.func59, Tryz.ntmps59
  go_wp2_with fail
  refine (isModulus_c _ _ c _ l w h (by omega)).mono ?_
  rintro e w' ⟨rfl, rfl⟩
  rw [hf]
  go_wp2_with fail
  refine (lz64_c _ x0 x1 _).mono ?_
  rintro e w' ⟨rfl, rfl⟩
  have hs : 64 - (Lib.bitLen (at64 l m).toNat : Int) = ((64 - Lib.bitLen (l.getD m 0) : Nat) : Int) := by
    have : (at64 l m).toNat = l.getD m 0 := by unfold at64; omega
    rw [this]; omega
  rw [hs]
  have hs63 : 64 - Lib.bitLen (l.getD m 0) ≤ 63 := by omega
  clear hs t1 t2
  generalize 64 - Lib.bitLen (l.getD m 0) = s at HT3 HT4 hs63 ⊢
  clear hf
  go_wp2_with fail
  refine (clone_c b off (m + 1) c l w h (by omega) (by omega)).mono ?_
  rintro e w1 ⟨g1, k1, rfl, hg1, hB1, hb1⟩
  have hlen1 : m + 1 ≤ (l ++ List.replicate k1 0).length := by rw [List.length_append, HL.out]; omega
  go_wp2_with fail
  refine (shiftUp_c g1 m _ s (l ++ List.replicate k1 0) w1 hB1 hlen1 hs63 (by omega)).mono ?_
  rintro e w2 ⟨rfl, ws, hl2, hB2, hb2, he2⟩
  have hb12 : Below w.heap.size w w2 := hb1.trans (hb2.mono hg1)
  have hpv : pv 18446744073709551616 (l ++ List.replicate k1 0) (m + 1) = pv 18446744073709551616 l (m + 1) := by
    refine pv_congr _ _ _ _ fun i hi => ?_
    have hl := HL.out
    simp [List.getD_eq_getElem?_getD, List.getElem?_append_left (show i < l.length by omega)]
  rw [hpv] at he2
  have HRS := hid (raised l ws m s HL.out h.lt hB2.lt HT3.out HT4.out he2)
  have hlen2 : m + 1 ≤ ws.length := by rw [hl2]; exact hlen1
  have hg1' : g1 < w2.heap.size := hB2.size
  have rd2 := h.up hb12 (Nat.le_refl _)
  clear he2 hpv hl2
  go_wp2_with fail
  refine (clone_c b off (m + 1) c l w2 rd2 (by omega) (by omega)).mono ?_
  rintro e w3 ⟨g3, k3, rfl, hg3, hB3, hb3⟩
  have hb13 : Below w.heap.size w w3 := hb12.trans (hb3.mono hb12.size)
  have hB23 := hB2.below hb3 hg1'
  have hg3' : g3 < w3.heap.size := hB3.size
  have hg13 : g1 < w3.heap.size := by omega
  have hM : ∀ cs, cs = #[Value.slice (some ⟨g3, 0, none⟩) (m + 1) (m + 1 + k3), .slice (some ⟨g1, 0, none⟩) (m + 1) (m + 1 + k1), .int .i64 (s : Int)] → ModP (w3.alloc (.cells cs 125)) w3.heap.size l := by
    rintro cs rfl
    have hba : Below w3.heap.size w3 (w3.alloc (.cells #[Value.slice (some ⟨g3, 0, none⟩) (m + 1) (m + 1 + k3), .slice (some ⟨g1, 0, none⟩) (m + 1) (m + 1 + k1), .int .i64 (s : Int)] 125)) := (Below.refl _ _).alloc (Nat.le_refl _) _
    have hl := HL.out
    refine ⟨g3, 0, m + 1 + k3, g1, m + 1 + k1, s, ws.take (m + 1), ?_, ?_, ?_, ?_, ?_, hs63, HRS.out.1, ?_, by simp, HR.out⟩
    · rw [hl]; simp
    · rw [hl]; simp
    · simp
    · have := (hB3.rd (off := 0) (n := m + 1) (B := w3.heap.size) (by rw [List.length_append, hl]; omega) hg3').below hba (Nat.le_refl _)
      rw [List.drop_zero, List.take_append_of_le_length (by omega), List.take_of_length_le (by omega)] at this
      rw [hl]; exact this
    · have := (hB23.rd (off := 0) (n := m + 1) (B := w3.heap.size) (by omega) hg13).below hba (Nat.le_refl _)
      rw [List.drop_zero] at this
      rw [hl]; exact this
    · rw [hl]; exact HRS.out.2
  have HM := hid (hM _ rfl)
  clear hM
  go_wp2
  go_ret2
  exact ⟨_, rfl, hb13.size, HM.out, hb13.alloc hb13.size _⟩
end Go.Proofs.YtdepkfdceidikaaGreatDoor
/-
  (*Modulus).room, rest, Reduce: what each call does.
-/
namespace Go.Proofs.YtdepkfdceidikaaGreatDoor
open Go.RowKit
set_option linter.unusedVariables false

theorem room_c (p n size : Nat) (l : List Nat) (w : World) (hM : ModP w p l) (Z : Int) (hZ : Z = (size : Int)) (hs : size ≤ 10000) (hn : n = max size l.length + 1) :
    Calls Tryz.prog 84 #[.pointer (some ⟨p, 0, none⟩), .int .i64 Z] w fun e w' => e = .returned (.slice (some ⟨w.heap.size, 0, none⟩) n n) ∧ BlkW w' w.heap.size 34 (List.replicate n 0) ∧ Below w.heap.size w w' := by
  subst hZ
  obtain ⟨bw, ow, cw, br, cr, s, lr, h1, h2, h3, h4, h5, h6, h7, h8, h9, h10⟩ := hM
  have hl16 := h10.2.1
  obtain ⟨k, hk⟩ : ∃ k : Nat, k = max size l.length := ⟨_, rfl⟩
  have hmax : max (size : Int) (l.length : Int) = (k : Int) := by omega
  have hmk := make64I (k + 1) (k + 1) (Nat.le_refl _) (by omega) ((k : Int) + 1) ((k : Int) + 1) (by omega) (by omega)
  have hB := blk_zeros w (k + 1)
  have hkk : k ≤ 10016 := by omega
  rw [← hk] at hn
  subst hn
  have HK := hid hk
  have H7 := hid h7
  clear hk h7
  go_enter Tryz.func84, Tryz.ntmps84
  go_wp2
  go_ret
  exact ⟨rfl, hB, (Below.refl _ _).alloc (Nat.le_refl _) _⟩

/-- What is left of a number, from the k-th word on, and the words behind. -/
def RestRel (w : World) (b N n : Nat) (D V : Nat) (wr : World) (k : Nat) : Prop :=
  ∃ ws : List Nat, ws.length = N ∧ BlkW wr b 34 ws ∧ Below b w wr ∧ (∀ j, k + n ≤ j → ws.getD j 0 = 0) ∧ pv 18446744073709551616 (ws.drop k) n < D ∧ pv 18446744073709551616 ws (k + n) % D = V % D

theorem RestRel.start {w wr : World} {b N n s M D V : Nat} {ws : List Nat} (hl : ws.length = N) (hB : BlkW wr b 34 ws) (hb : Below b w wr) (hN : n + 1 ≤ N) (hn : 1 ≤ n) (hV : V < 18446744073709551616 ^ (N - 1)) (hs : 2 ^ s ≤ 9223372036854775808)
    (hD : 9223372036854775808 * 18446744073709551616 ^ (n - 1) ≤ D) (h : pv 18446744073709551616 ws N = 2 ^ s * V % 18446744073709551616 ^ N) : RestRel w b N n D (2 ^ s * V) wr (N - n) := by
  have hS : 0 < 2 ^ s := Nat.two_pow_pos s
  have e1 : 18446744073709551616 ^ N = 18446744073709551616 ^ (N - 1) * 18446744073709551616 := by rw [← Nat.pow_succ, show (N - 1).succ = N by omega]
  have hlt : 2 ^ s * V < 2 ^ s * 18446744073709551616 ^ (N - 1) := Nat.mul_lt_mul_of_pos_left hV hS
  have h2 : 2 ^ s * 18446744073709551616 ^ (N - 1) ≤ 9223372036854775808 * 18446744073709551616 ^ (N - 1) := Nat.mul_le_mul_right _ hs
  have hlt2 : 2 ^ s * V < 18446744073709551616 ^ N := by rw [e1]; omega
  rw [Nat.mod_eq_of_lt hlt2] at h
  refine ⟨ws, hl, hB, hb, fun j hj => getD_out ws j (by omega), ?_, ?_⟩
  · have e2 := pv_drop 18446744073709551616 ws (N - n) n
    rw [show N - n + n = N by omega, h] at e2
    have e3 : 18446744073709551616 ^ (N - 1) = 18446744073709551616 ^ (N - n) * 18446744073709551616 ^ (n - 1) := by rw [← Nat.pow_add, show N - n + (n - 1) = N - 1 by omega]
    have h3 : 18446744073709551616 ^ (N - n) * pv 18446744073709551616 (ws.drop (N - n)) n < 18446744073709551616 ^ (N - n) * (2 ^ s * 18446744073709551616 ^ (n - 1)) := by
      have e4 : 18446744073709551616 ^ (N - n) * (2 ^ s * 18446744073709551616 ^ (n - 1)) = 2 ^ s * 18446744073709551616 ^ (N - 1) := by rw [e3]; grind
      rw [e4]; omega
    have h4 := Nat.lt_of_mul_lt_mul_left h3
    have h5 : 2 ^ s * 18446744073709551616 ^ (n - 1) ≤ 9223372036854775808 * 18446744073709551616 ^ (n - 1) := Nat.mul_le_mul_right _ hs
    omega
  · rw [show N - n + n = N by omega, h]

theorem RestRel.step {w wr w2 : World} {b N n D V k : Nat} {ws ws2 : List Nat} (hD1 : D < 18446744073709551616 ^ n) (hD0 : 0 < D) (hl : ws.length = N) (hz : ∀ j, k + 1 + n ≤ j → ws.getD j 0 = 0) (hmod : pv 18446744073709551616 ws (k + 1 + n) % D = V % D)
    (hb : Below b w wr) (hl2 : ws2.length = ws.length) (hB2 : BlkW w2 b 34 ws2) (hb2 : Below b wr w2) (hj2 : ∀ j, (j < k ∨ k + n < j) → ws2.getD j 0 = ws.getD j 0)
    (he2 : pv 18446744073709551616 (ws2.drop k) (n + 1) = pv 18446744073709551616 (ws.drop k) (n + 1) % D) : RestRel w b N n D V w2 k := by
  have hlt : pv 18446744073709551616 (ws2.drop k) (n + 1) < D := by rw [he2]; exact Nat.mod_lt _ hD0
  have hlast : ws2.getD (k + n) 0 = 0 := by
    rcases Nat.eq_zero_or_pos (ws2.getD (k + n) 0) with h | h
    · exact h
    · exfalso
      rw [pv_succ, getD_drop] at hlt
      have : 1 * 18446744073709551616 ^ n ≤ ws2.getD (k + n) 0 * 18446744073709551616 ^ n := Nat.mul_le_mul_right _ h
      omega
  have hp : pv 18446744073709551616 (ws2.drop k) (n + 1) = pv 18446744073709551616 (ws2.drop k) n := by rw [pv_succ, getD_drop, hlast]; omega
  refine ⟨ws2, hl2.trans hl, hB2, hb.trans hb2, ?_, by rw [← hp]; exact hlt, ?_⟩
  · intro j hj
    by_cases e : j = k + n
    · subst e; exact hlast
    · rw [hj2 j (by omega)]; exact hz j (by omega)
  · rw [← hmod, show k + 1 + n = k + (n + 1) by omega, pv_drop, pv_drop, ← hp, he2]
    have e0 : pv 18446744073709551616 ws2 k = pv 18446744073709551616 ws k := pv_congr _ _ _ _ fun i hi => hj2 i (Or.inl hi)
    rw [e0, Nat.add_mod, Nat.mul_mod, Nat.mod_mod, ← Nat.mul_mod, ← Nat.add_mod]

theorem rest_fin (R S M V D : Nat) (hS : 0 < S) (hD : D = S * M) (h1 : R < D) (h2 : R % D = S * V % D) : R / S = V % M := by
  rw [Nat.mod_eq_of_lt h1, hD, Nat.mul_mod_mul_left] at h2
  rw [h2, Nat.mul_div_cancel_left _ hS]

set_option maxRecDepth 100000 in
set_option maxHeartbeats 2000000 in
theorem rest_c (p b N : Nat) (l ws0 : List Nat) (w : World) (hM : ModP w p l) (hB : BlkW w b 34 ws0) (hl0 : ws0.length = N) (hp : p < b) (hN : l.length + 1 ≤ N) (hN' : N ≤ 10000) (hlast : ws0.getD (N - 1) 0 = 0) (c : Nat) (hc : N ≤ c) :
    Calls Tryz.prog 85 #[.pointer (some ⟨p, 0, none⟩), .slice (some ⟨b, 0, none⟩) N c] w fun e w' => e = .returned (.slice (some ⟨b, 0, none⟩) l.length l.length) ∧
      ∃ ws, ws.length = N ∧ BlkW w' b 34 ws ∧ Below b w w' ∧ pv 18446744073709551616 ws l.length = val 18446744073709551616 ws0 % val 18446744073709551616 l := by
  obtain ⟨bw, ow, cw, br, cr, s, lr, h1, h2, h3, h4, h5, h6, h7, h8, h9, h10⟩ := id hM
  obtain ⟨n, hn⟩ : ∃ n, l.length = n + 1 := ⟨l.length - 1, by have := h10.1; omega⟩
  have hn16 : n + 1 ≤ 16 := by have := h10.2.1; omega
  rw [hn] at h1 h2 h4 h5 h8 ⊢
  rw [show n + 1 - 1 = n from rfl] at h8
  obtain ⟨K, rfl⟩ : ∃ K, N = K + 1 := ⟨N - 1, by omega⟩
  have hV : val 18446744073709551616 ws0 < 18446744073709551616 ^ (K + 1 - 1) := by
    unfold val
    rw [hl0, pv_succ, show ws0.getD K 0 = 0 from hlast, Nat.zero_mul, Nat.add_zero]
    exact pv_lt _ (by decide) ws0 hB.lt _
  have hs2 : 2 ^ s ≤ 9223372036854775808 := Nat.pow_le_pow_right (n := 2) (by decide) h6
  have hDlo : 9223372036854775808 * 18446744073709551616 ^ (n + 1 - 1) ≤ val 18446744073709551616 lr := by
    unfold val; rw [h5.len, pv_succ]
    have : 9223372036854775808 * 18446744073709551616 ^ n ≤ lr.getD n 0 * 18446744073709551616 ^ n := Nat.mul_le_mul_right _ h8
    show 9223372036854775808 * 18446744073709551616 ^ n ≤ _
    omega
  have hDhi : val 18446744073709551616 lr < 18446744073709551616 ^ (n + 1) := by have := val_lt _ (by decide) lr h5.lt; rw [h5.len] at this; exact this
  have hD0 : 0 < val 18446744073709551616 lr := by
    have : 0 < 9223372036854775808 * 18446744073709551616 ^ (n + 1 - 1) := Nat.mul_pos (by decide) (Nat.pow_pos (by decide))
    omega
  have H7 := hid h7
  have H8 := hid h8
  have HN := hid hn
  have HV := hid hV
  have HS2 := hid hs2
  have HDLO := hid hDlo
  have HDHI := hid hDhi
  have HL0 := hid hl0
  have hNK : n + 1 ≤ K := by omega
  have hl0' : K + 1 ≤ ws0.length := by omega
  clear h7 h8 hn hV hs2 hDlo hDhi hl0 hlast h4 hM
  go_enter Tryz.func85, Tryz.ntmps85
  go_wp2_with fail
  refine (shiftUp_c b K c s ws0 w hB hl0' h6 (by omega)).mono ?_
  rintro e w1 ⟨rfl, ws1, hl1, hB1, hb1, he1⟩
  have hval : pv 18446744073709551616 ws0 (K + 1) = val 18446744073709551616 ws0 := by unfold val; rw [HL0.out]
  rw [hval] at he1
  have HST := hid (RestRel.start (n := n + 1) (M := 0) (w := w) (hl1.trans HL0.out) hB1 hb1 (by omega) (by omega) HV.out HS2.out HDLO.out he1)
  have rr1 := h5.below hb1 (Nat.le_of_lt hp)
  have k0 : w1.cell? ⟨p, 0, none⟩ = some (.slice (some ⟨bw, ow, none⟩) (n + 1) cw) := (hb1.cell (p := ⟨p, 0, none⟩) hp).trans h1
  have k2 : w1.cell? ⟨p, 2, none⟩ = some (.int .i64 (s : Int)) := (hb1.cell (p := ⟨p, 2, none⟩) hp).trans h3
  clear he1 hval hl1
  go_wp2
  go_loopw [6] (fun i wr => ∃ k : Nat, k ≤ K - n ∧ i = .int .i64 ((k : Int) - 1) ∧ RestRel w b (K + 1) (n + 1) (val 18446744073709551616 lr) (2 ^ s * val 18446744073709551616 ws0) wr k) (fun i _ => (intOf i + 1).toNat)
  case atStart => exact ⟨K - n, Nat.le_refl _, by go_num, by have := HST.out; rw [show K + 1 - (n + 1) = K - n by omega] at this; exact this⟩
  case round =>
    obtain ⟨k, hk, rfl, hrel⟩ := hrel
    obtain ⟨ws, hl, hBw, hbw, hz, hlt, hmod⟩ := id hrel
    rcases k with _ | k
    · have q2 : wr.cell? ⟨p, 2, none⟩ = some (.int .i64 (s : Int)) := (hbw.cell (p := ⟨p, 2, none⟩) hp).trans h3
      have HR : Hid (pv 18446744073709551616 ws (n + 1) / 2 ^ s = val 18446744073709551616 ws0 % val 18446744073709551616 l) := by
        refine rest_fin _ _ _ _ _ (Nat.two_pow_pos s) H7.out ?_ ?_
        · rw [List.drop_zero] at hlt; exact hlt
        · rw [Nat.zero_add] at hmod; exact hmod
      have hl' : n + 1 ≤ ws.length := by omega
      have HL := hid hl
      have hne : ¬ K + 1 = 0 := by omega
      clear hl hz hlt hmod hrel
      go_wp2_with fail
      refine (shiftDown_c b n _ s ws wr hBw hl' h6 (by omega)).mono ?_
      rintro e w3 ⟨rfl, ws3, hl3, hB3, hb3, he3⟩
      rw [HR.out] at he3
      have R : Hid (∃ ws, ws.length = K + 1 ∧ BlkW w3 b 34 ws ∧ Below b w w3 ∧ pv 18446744073709551616 ws (n + 1) = val 18446744073709551616 ws0 % val 18446744073709551616 l) := ⟨ws3, hl3.trans HL.out, hB3, hbw.trans hb3, he3⟩
      clear he3 hl3
      go_wp2
      go_ret
      exact ⟨rfl, R.out⟩
    · have e1 : (((k + 1 : Nat) : Int) - 1) = (k : Int) := by omega
      rw [e1]
      clear e1
      have q1 : wr.cell? ⟨p, 1, none⟩ = some (.slice (some ⟨br, 0, none⟩) (n + 1) cr) := (hbw.cell (p := ⟨p, 1, none⟩) hp).trans h2
      have rrw := h5.below hbw (Nat.le_of_lt hp)
      have hwin : pv 18446744073709551616 (ws.drop k) (n + 2) < 18446744073709551616 * val 18446744073709551616 lr := by
        have e2 := pv_drop 18446744073709551616 (ws.drop k) 1 (n + 1)
        rw [show 1 + (n + 1) = n + 2 by omega, List.drop_drop, show k + 1 = k + 1 from rfl] at e2
        rw [e2, show pv 18446744073709551616 (ws.drop k) 1 = (ws.drop k).getD 0 0 by simp [pv], getD_drop, Nat.pow_one]
        have h9 := getD_lt _ (by decide) ws hBw.lt (k + 0)
        have h10 : 18446744073709551616 * (pv 18446744073709551616 (ws.drop (k + 1)) (n + 1) + 1) ≤ 18446744073709551616 * val 18446744073709551616 lr := Nat.mul_le_mul_left _ hlt
        omega
      have HW := hid hwin
      have HSTEP := hid (fun w2 ws2 a1 a2 a3 a4 a5 => RestRel.step (w2 := w2) (ws2 := ws2) (V := 2 ^ s * val 18446744073709551616 ws0) HDHI.out hD0 hl hz hmod hbw a1 a2 a3 a4 a5)
      have hl' : ws.length ≤ K + 1 := by omega
      have hl'' : K + 1 ≤ ws.length := by omega
      have i0 : (0 : Int) ≤ k := by omega
      have i1 : IntKind.i64.wrap ((k : Int) + ((n : Int) + 1)) = (k : Int) + (n + 1) := by rw [IntKind.wrap_i64]; omega
      have i2 : IntKind.i64.wrap ((k : Int) + (n + 1) + 1) = (k : Int) + (n + 1) + 1 := by rw [IntKind.wrap_i64]; omega
      have i3 : (k : Int) ≤ (k : Int) + (n + 1) + 1 := by omega
      have i4 : (k : Int) + (n + 1) + 1 ≤ (c : Int) := by omega
      have i5 : ((k : Int) + (n + 1) + 1).toNat = k + (n + 1) + 1 := by omega
      have i6 : (0 : Int) ≤ (k : Int) + (n + 1) + 1 := by omega
      have hck : ¬ c = k := by omega
      clear hl hz hlt hmod hrel hwin
      go_wp2
      go_still_tail 11, (by kernel_rfl)
      change wpList _ _ _ _ _ wr.drew
      rw [show k + (n + 1) + 1 - k = n + 2 by omega]
      have hq0 : Hid (BlkW wr.drew b 34 ws ∧ Rd wr.drew b (some ⟨br, 0, none⟩) (n + 1) lr ∧ Below b wr wr.drew) := ⟨⟨hBw.heap, hBw.lt⟩, (by have := rrw.more (Nat.le_of_lt hp); exact ⟨this.len, this.lt, this.cells⟩), (Below.refl _ _).drew⟩
      generalize wr.drew = w2 at hq0 ⊢
      obtain ⟨hB2, hd2, hb2⟩ := hq0.out
      clear hq0 i1 i2 i5
      go_wp2_with fail
      refine (cutOff_c _ b k n (c - k) cr ws lr w2 hB2 (by omega) (by omega) hd2 H8.out HW.out (by omega)).mono ?_
      rintro e w3 ⟨rfl, ws3, hl3, hB3, hb3, hj3, he3⟩
      have hst := HSTEP.out w3 ws3 hl3 hB3 (hb2.trans hb3) hj3 he3
      clear hl3 hj3 he3 HSTEP
      go_wp2
      go_roundw
      case rel => exact ⟨k, by omega, by go_num, hst⟩
      case measure => simp [intOf]
end Go.Proofs.YtdepkfdceidikaaGreatDoor
