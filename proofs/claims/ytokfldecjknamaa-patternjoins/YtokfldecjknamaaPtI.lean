/-
  pattern.Find, slices.IndexFunc over items, avouchref13.Find: what each call does.
-/
import Derived.Test.YtokfldecjknamaaPtH
namespace Go.Proofs.Ytokfldecjknamaa
open Go.RowKit
set_option linter.unusedVariables false
set_option linter.unusedSimpArgs false

theorem fnd_cases (s : ByteArray) : ∀ (l : List IV) (i : Nat), fnd s i l = -1 ∨ (i : Int) ≤ fnd s i l
  | [], i => Or.inl rfl
  | x :: l, i => by
    show (if bl x.s = bl s then (i : Int) else fnd s (i + 1) l) = -1 ∨ (i : Int) ≤ (if bl x.s = bl s then (i : Int) else fnd s (i + 1) l)
    split
    · exact Or.inr (Int.le_refl _)
    · rcases fnd_cases s l (i + 1) with h | h
      · exact Or.inl h
      · exact Or.inr (by omega)
def fE (s : ByteArray) (l : List IV) : Nat := if fnd s 0 l < 0 then 13 else 0
set_option maxRecDepth 20000 in
theorem find1_c (k t c : Int) (s lb : ByteArray) (b : Nat) (w : World) (hL : BlkV w b 9 [.string lb]) :
    Calls Try.prog 29 #[.agg #[.int .i64 k, .int .i64 t, .int .i64 c, .string s], .pointer (some ⟨b, 0, none⟩)] w fun e w' => e = .returned (.bool (decide (bl s = bl lb))) ∧ Below w.heap.size w w' := by
  have b1 : Below w.heap.size w (w.alloc (.cells #[.int .i64 k, .int .i64 t, .int .i64 c, .string s] 52)) := (Below.refl _ _).alloc (Nat.le_refl _) _
  have hc : (w.alloc (.cells #[.int .i64 k, .int .i64 t, .int .i64 c, .string s] 52)).cell? ⟨b, 0, none⟩ = some (.string lb) := (hL.up b1).cell (i := 0) (by simp)
  rw [← str_eq]
  go_enter Try.func29, Try.ntmps29
  go_wp2
  go_ret
  exact ⟨rfl, b1⟩
set_option maxRecDepth 20000 in
set_option maxHeartbeats 1000000 in
theorem indexV_c {B : Nat} (A : Option Addr) (n c : Nat) (l : List IV) (lb : ByteArray) (b0 : Nat) (w : World) (ha : RdV w B A n l) (hB : B ≤ w.heap.size) (hL : BlkV w b0 9 [.string lb]) (hn : n ≤ 2000) :
    Calls Try.prog 28 #[.slice A n c, .func (.func 29) #[] #[.pointer (some ⟨b0, 0, none⟩)]] w fun e w' => e = .returned (.int .i64 (fnd lb 0 l)) ∧ Below w.heap.size w w' := by
  have HA := hid ha
  have HL := hid hL
  have hln := ha.len
  clear ha hL
  go_enter Try.func28, Try.ntmps28
  go_wp2
  go_loopw [8] (fun i wr => ∃ k : Nat, k ≤ n ∧ i = .int .i64 k ∧ Hid (fnd lb 0 l = fnd lb k (l.drop k)) ∧ Below w.heap.size w wr) (fun i _ => n - (intOf i).toNat)
  case atStart => exact ⟨0, by omega, rfl, hid (by rw [List.drop_zero]), Below.refl _ _⟩
  case round =>
    obtain ⟨k, hk, rfl, HZ, hb⟩ := hrel
    by_cases hlt : k < n
    · have hkl : k < l.length := by omega
      obtain ⟨b, off, rfl, hbB, hc⟩ := (HA.out.below hb hB).at_ hlt
      obtain ⟨y, hy⟩ : ∃ y, y = l[k]'hkl := ⟨_, rfl⟩
      have hS := fnd_step lb l hkl
      rw [← hy] at hc hS
      rw [← HZ.out] at hS
      have HS := hid hS
      have HR : Hid (wr.rangeAt b (off + k * 4) [.int .i64 y.k, .int .i64 y.t, .int .i64 y.c, .string y.s]) := hc
      have HB := hid hb
      have HC := hid (find1_c y.k y.t y.c y.s lb b0 wr (HL.out.below hb HL.out.size))
      have k0 : (0 : Int) ≤ (k : Int) := by omega
      have k1 : (k : Int) < (n : Int) := by omega
      clear hc hy hb hS HZ
      go_wp2_with (first
        | fail
        | refine wpList_load_mid rfl 52 (.tmp 14) rfl b (off + k * 4) rfl [.int .i64 y.k, .int .i64 y.t, .int .i64 y.c, .string y.s] _ (by with_reducible exact HR.out) Try.underlying52 rfl sizeI4 ?_)
      refine HC.out.mono ?_
      rintro e w1 ⟨rfl, b1⟩
      have HB1 := hid (HB.out.trans (b1.mono HB.out.size))
      clear b1 HB HC HR
      by_cases hz : bl y.s = bl lb
      · have hd : decide (bl y.s = bl lb) = true := decide_eq_true hz
        have HY : Hid (fnd lb 0 l = (k : Int)) := by have := HS.out; rw [if_pos hz] at this; exact this
        rw [hd]
        clear hz hd HS
        go_wp2
        go_ret
        exact ⟨by rw [HY.out]; rfl, HB1.out⟩
      · have hd : decide (bl y.s = bl lb) = false := decide_eq_false hz
        have HY : Hid (fnd lb 0 l = fnd lb (k + 1) (l.drop (k + 1))) := by have := HS.out; rw [if_neg hz] at this; exact this
        rw [hd]
        clear hz hd HS
        go_wp2
        go_roundw
        case rel => exact ⟨k + 1, by omega, by go_num, HY, HB1.out⟩
        case measure => simp [intOf]; omega
    · obtain rfl : k = n := by omega
      have HY : Hid (fnd lb 0 l = -1) := by have := HZ.out; rw [fnd_end lb l (by omega)] at this; exact this
      have HB := hid hb
      clear hb HZ
      go_wp2
      go_ret
      exact ⟨by rw [HY.out]; rfl, HB.out⟩
set_option maxRecDepth 20000 in
theorem find_c {B : Nat} (A : Option Addr) (n c : Nat) (l : List IV) (lb : ByteArray) (w : World) (ha : RdV w B A n l) (hB : B ≤ w.heap.size) (hn : n ≤ 2000) :
    Calls Try.prog 13 #[.slice A n c, .string lb] w fun e w' => e = .returned (.tuple #[.int .i64 (fnd lb 0 l), .int .i64 (fE lb l : Nat)]) ∧ Below w.heap.size w w' := by
  have b1 : Below w.heap.size w (w.alloc (.cells #[.string lb] 9)) := (Below.refl _ _).alloc (Nat.le_refl _) _
  have C := indexV_c A n c l lb w.heap.size (w.alloc (.cells #[.string lb] 9)) (ha.below b1 hB) (Nat.le_trans hB b1.size) (BlkV.new w 9 [.string lb]) hn
  go_enter Try.func13, Try.ntmps13
  go_wp2_with fail
  refine C.mono ?_
  rintro e w1 ⟨rfl, b2⟩
  have hb := bchain b1 b2
  clear b1 b2 C ha
  rcases fnd_cases lb l 0 with h | h
  · have HE : Hid (fE lb l = 13) := by show _ = _; unfold fE; rw [h]; rfl
    have HF := hid h
    rw [h]
    clear h
    go_wp2
    go_ret2
    exact ⟨by rw [HE.out, HF.out]; rfl, hb⟩
  · have h0 : ¬ fnd lb 0 l < 0 := by omega
    have HE : Hid (fE lb l = 0) := by show _ = _; unfold fE; rw [if_neg h0]
    have h1 : (0 : Int) ≤ fnd lb 0 l := by omega
    go_wp2
    go_ret2
    exact ⟨by rw [HE.out]; rfl, hb⟩
set_option maxRecDepth 20000 in
set_option maxHeartbeats 1000000 in
theorem rfind_c {B : Nat} (A : Option Addr) (n c : Nat) (l : List IV) (lb : ByteArray) (w : World) (ha : RdV w B A n l) (hn : n ≤ 2000) :
    Calls Try.prog 14 #[.slice A n c, .string lb] w fun e w' => e = .returned (.tuple #[.int .i64 (fnd lb 0 l), .int .i64 (fE lb l : Nat)]) ∧ w' = w := by
  have HA := hid ha
  have hln := ha.len
  clear ha
  go_enter Try.func14, Try.ntmps14
  go_wp2
  go_loop [6] (fun i => ∃ k : Nat, k ≤ n ∧ i = .int .i64 k ∧ Hid (fnd lb 0 l = fnd lb k (l.drop k))) (fun i => n - (intOf i).toNat)
  case atStart => exact ⟨0, by omega, rfl, hid (by rw [List.drop_zero])⟩
  case round =>
    obtain ⟨k, hk, rfl, HZ⟩ := hrel
    by_cases hlt : k < n
    · have hkl : k < l.length := by omega
      obtain ⟨b, off, rfl, hbB, hc⟩ := HA.out.at_ hlt
      obtain ⟨y, hy⟩ : ∃ y, y = l[k]'hkl := ⟨_, rfl⟩
      have hS := fnd_step lb l hkl
      rw [← hy] at hc hS
      rw [← HZ.out] at hS
      have HS := hid hS
      obtain ⟨x0, x1, x2, x3⟩ := ivc_cells hc
      have k0 : (0 : Int) ≤ (k : Int) := by omega
      have k1 : (k : Int) < (n : Int) := by omega
      have hq := str_eq y.s lb
      clear hc hy hS HZ x0 x1 x2
      by_cases hz : bl y.s = bl lb
      · rw [decide_eq_true hz] at hq
        have HY : Hid (fnd lb 0 l = (k : Int)) := by have := HS.out; rw [if_pos hz] at this; exact this
        have HE : Hid (fE lb l = 0) := by show _ = _; unfold fE; rw [HY.out, if_neg (by omega)]
        clear hz HS
        go_wp2
        go_ret2
        exact ⟨by rw [HY.out, HE.out]; rfl, rfl⟩
      · rw [decide_eq_false hz] at hq
        have HY : Hid (fnd lb 0 l = fnd lb (k + 1) (l.drop (k + 1))) := by have := HS.out; rw [if_neg hz] at this; exact this
        clear hz HS
        go_wp2
        go_round
        case rel => exact ⟨k + 1, by omega, by go_num, HY⟩
        case measure => simp [intOf]; omega
    · obtain rfl : k = n := by omega
      have HY : Hid (fnd lb 0 l = -1) := by have := HZ.out; rw [fnd_end lb l (by omega)] at this; exact this
      have HE : Hid (fE lb l = 13) := by show _ = _; unfold fE; rw [HY.out]; rfl
      clear HZ
      go_wp2
      go_ret2
      exact ⟨by rw [HY.out, HE.out]; rfl, rfl⟩
end Go.Proofs.Ytokfldecjknamaa
