import Derived.Test.YtdepkfdceidikaaGreatDoorHrB
import Derived.Test.YtdepkfdceidikaaGreatDoorHrP
import Derived.Test.YtdepkfdceidikaaGreatDoorGnG
/-
  avouchref08.in, New: what each call does.
-/
namespace Go.Proofs.YtdepkfdceidikaaGreatDoor
open Go.RowKit
set_option linter.unusedVariables false

set_option maxRecDepth 20000 in
theorem in12_c (n : Int) (w : World) :
    Calls Tryz.prog 51 #[.int .i64 n, .int .i64 1, .int .i64 4095] w fun e w' => e = .returned (.bool (decide (1 ≤ n ∧ n < 4096))) ∧ w' = w := by
  by_cases h1 : 1 ≤ n
  · by_cases h2 : n ≤ 4095
    · have e : decide (1 ≤ n ∧ n < 4096) = true := decide_eq_true ⟨h1, by omega⟩
      rw [e]
      clear e
      go_enter Tryz.func51, Tryz.ntmps51
      go_wp2
      go_ret
      exact ⟨rfl, rfl⟩
    · have e : decide (1 ≤ n ∧ n < 4096) = false := decide_eq_false (by omega)
      rw [e]
      have h3 : decide (n ≤ 4095) = false := decide_eq_false h2
      clear e h2
      go_enter Tryz.func51, Tryz.ntmps51
      go_wp2
      go_ret
      exact ⟨rfl, rfl⟩
  · have e : decide (1 ≤ n ∧ n < 4096) = false := decide_eq_false (by omega)
    rw [e]
    have h3 : decide (1 ≤ n) = false := decide_eq_false h1
    clear e h1
    go_enter Tryz.func51, Tryz.ntmps51
    go_wp2
    go_ret
    exact ⟨rfl, rfl⟩
set_option maxRecDepth 20000 in
theorem in10_c (n : Int) (w : World) :
    Calls Tryz.prog 51 #[.int .i64 n, .int .i64 0, .int .i64 1023] w fun e w' => e = .returned (.bool (decide (0 ≤ n ∧ n < 1024))) ∧ w' = w := by
  by_cases h1 : 0 ≤ n
  · by_cases h2 : n ≤ 1023
    · have e : decide (0 ≤ n ∧ n < 1024) = true := decide_eq_true ⟨h1, by omega⟩
      rw [e]
      clear e
      go_enter Tryz.func51, Tryz.ntmps51
      go_wp2
      go_ret
      exact ⟨rfl, rfl⟩
    · have e : decide (0 ≤ n ∧ n < 1024) = false := decide_eq_false (by omega)
      rw [e]
      have h3 : decide (n ≤ 1023) = false := decide_eq_false h2
      clear e h2
      go_enter Tryz.func51, Tryz.ntmps51
      go_wp2
      go_ret
      exact ⟨rfl, rfl⟩
  · have e : decide (0 ≤ n ∧ n < 1024) = false := decide_eq_false (by omega)
    rw [e]
    have h3 : decide (0 ≤ n) = false := decide_eq_false h1
    clear e h1
    go_enter Tryz.func51, Tryz.ntmps51
    go_wp2
    go_ret
    exact ⟨rfl, rfl⟩
/-- The bits of a list, the first k of them laid. -/
def fcp (L : List Bool) (k : Nat) : Nat → Bool := fun j => if j < k then L.getD j false else false
theorem fcp_set (L : List Bool) (k j : Nat) : (if j = k then L.getD k false else fcp L k j) = fcp L (k + 1) j := by
  unfold fcp
  by_cases c : j = k
  · rw [if_pos c, if_pos (by omega), c]
  · rw [if_neg c]
    by_cases d : j < k
    · rw [if_pos d, if_pos (by omega)]
    · rw [if_neg d, if_neg (by omega)]
theorem fcp_end (a b c d : Nat) {j : Nat} (hj : j < 80) : fcp (gL a b c d) 80 j = (gS0 a b c d).testBit j := by
  unfold fcp
  rw [if_pos hj, gS0_bit]
structure CpR (q : Nat) (f : Nat → Bool) (w wr : World) : Prop where
  o : BF wr q 77 80 f
  b : Below q w wr
theorem CpR.set {q : Nat} {f g : Nat → Bool} {w wr : World} (h : CpR q f w wr) {k : Nat} (hk : k < 80) (v : Bool) (e : ∀ j, (if j = k then v else f j) = g j) : CpR q g w (wr.setCell ⟨q, k, none⟩ (.bool v)) :=
  ⟨(h.o.setf hk v).eq fun j _ => e j, h.b.setCell (Nat.le_refl _) _⟩
theorem CpR.turn {q : Nat} {f : Nat → Bool} {w wr w' : World} (h : CpR q f w wr) (hb : Below wr.heap.size wr w') (hq : q ≤ wr.heap.size) (x : Nat) : CpR q x.testBit w (w'.setCells q 0 (bcell 80 x.testBit)) :=
  ⟨BF.over x.testBit (BlkV.up h.o hb), below_cells (Nat.le_refl _) _ _ _ (h.b.trans (hb.mono hq))⟩
end Go.Proofs.YtdepkfdceidikaaGreatDoor
/-
  avouchref08.New: what the call does.
-/
namespace Go.Proofs.YtdepkfdceidikaaGreatDoor
open Go.RowKit
set_option linter.unusedVariables false

set_option maxRecDepth 20000 in
set_option maxHeartbeats 2000000 in
theorem rnew_ok (a b c d : Nat) (w : World) (h : gOk a b c d) :
    Calls Tryz.prog 27 #[.int .i64 (a : Int), .int .i64 (b : Int), .int .i64 (c : Int), .int .i64 (d : Int)] w fun e w' => e = .returned (.tuple #[rg (gS a b c d), .int .i64 0]) ∧ Below w.heap.size w w' := by
  obtain ⟨a1, a2, b1, b2, c1, c2, d1, d2⟩ := h
  have e1 : decide (1 ≤ (a : Int) ∧ (a : Int) < 4096) = true := decide_eq_true ⟨a1, a2⟩
  have e2 : decide (1 ≤ (b : Int) ∧ (b : Int) < 4096) = true := decide_eq_true ⟨b1, b2⟩
  have e3 : decide (0 ≤ (c : Int) ∧ (c : Int) < 1024) = true := decide_eq_true ⟨c1, c2⟩
  have e4 : decide (0 ≤ (d : Int) ∧ (d : Int) < 1024) = true := decide_eq_true ⟨d1, d2⟩
  have HG0 := hid (gS0_gs a b c d)
  have HFE : Hid (∀ j, j < 80 → fcp (gL a b c d) 80 j = (gS0 a b c d).testBit j) := fun j hj => fcp_end a b c d hj
  have HLL := hid (gL_len a b c d)
  have HLE : Hid (gL a b c d = layP 1 2 2 ++ layP 0 4 4 ++ layP a 12 12 ++ layP b 12 12 ++ layP c 10 10 ++ layP d 10 10 ++ layP 1073741823 30 30) := rfl
  obtain ⟨S, hS⟩ : ∃ S, S = gS a b c d := ⟨_, rfl⟩
  rw [← hS]
  have HE : Hid (S = gIt 160 (gS0 a b c d)) := hS
  clear hS
  generalize gS0 a b c d = s at *
  generalize gL a b c d = L at *
  have hz := zeroR
  have hlz := rg_len 0
  have Z1 := hid (oR_new w 0)
  have B1 := hid ((Below.refl w.heap.size w).alloc (Nat.le_refl _) (oR 0))
  have s1 : (w.alloc (oR 0)).heap.size = w.heap.size + 1 := by simp
  unfold oR at *
  go_enter Tryz.func27, Tryz.ntmps27
  go_wp2_with fail
  generalize w.alloc _ = w1 at *
  refine (in12_c a w1).mono ?_
  rintro e v1 ⟨rfl, rfl⟩
  rw [e1]
  go_wp2_with fail
  refine (in12_c b v1).mono ?_
  rintro e v2 ⟨rfl, rfl⟩
  rw [e2]
  go_wp2_with fail
  refine (in10_c c v2).mono ?_
  rintro e v3 ⟨rfl, rfl⟩
  rw [e3]
  go_wp2_with fail
  refine (in10_c d v3).mono ?_
  rintro e v4 ⟨rfl, rfl⟩
  rw [e4]
  go_wp2_with fail
  clear e1 e2 e3 e4
  generalize hw1 : v4 = w1 at *
  clear hw1
  have HO0 : OwnL w1 (w.heap.size + 1) (.slice none 0 0) [] := OwnL.nil _ _
  refine (lay_c (.slice none 0 0) ([]) (w.heap.size + 1) 1 2 w1 HO0 (by omega) (by decide) (by omega) (by omega)).mono ?_
  rintro e u1 ⟨x1, rfl, HO1, hc1⟩
  have hb1 := hc1
  go_wp2_with fail
  refine (lay_c x1 ([] ++ layP 1 2 2) (w.heap.size + 1) 0 4 u1 HO1 (Nat.le_trans (by omega) hb1.size) (by decide) (by omega) (by omega)).mono ?_
  rintro e u2 ⟨x2, rfl, HO2, hc2⟩
  have hb2 := hb1.trans hc2
  go_wp2_with fail
  refine (lay_c x2 ([] ++ layP 1 2 2 ++ layP 0 4 4) (w.heap.size + 1) a 12 u2 HO2 (Nat.le_trans (by omega) hb2.size) (by simp only [List.length_append, List.length_nil, layP_len]; decide) (by omega) (by omega)).mono ?_
  rintro e u3 ⟨x3, rfl, HO3, hc3⟩
  have hb3 := hb2.trans hc3
  go_wp2_with fail
  refine (lay_c x3 ([] ++ layP 1 2 2 ++ layP 0 4 4 ++ layP a 12 12) (w.heap.size + 1) b 12 u3 HO3 (Nat.le_trans (by omega) hb3.size) (by simp only [List.length_append, List.length_nil, layP_len]; decide) (by omega) (by omega)).mono ?_
  rintro e u4 ⟨x4, rfl, HO4, hc4⟩
  have hb4 := hb3.trans hc4
  go_wp2_with fail
  refine (lay_c x4 ([] ++ layP 1 2 2 ++ layP 0 4 4 ++ layP a 12 12 ++ layP b 12 12) (w.heap.size + 1) c 10 u4 HO4 (Nat.le_trans (by omega) hb4.size) (by simp only [List.length_append, List.length_nil, layP_len]; decide) (by omega) (by omega)).mono ?_
  rintro e u5 ⟨x5, rfl, HO5, hc5⟩
  have hb5 := hb4.trans hc5
  go_wp2_with fail
  refine (lay_c x5 ([] ++ layP 1 2 2 ++ layP 0 4 4 ++ layP a 12 12 ++ layP b 12 12 ++ layP c 10 10) (w.heap.size + 1) d 10 u5 HO5 (Nat.le_trans (by omega) hb5.size) (by simp only [List.length_append, List.length_nil, layP_len]; decide) (by omega) (by omega)).mono ?_
  rintro e u6 ⟨x6, rfl, HO6, hc6⟩
  have hb6 := hb5.trans hc6
  go_wp2_with fail
  refine (lay_c x6 ([] ++ layP 1 2 2 ++ layP 0 4 4 ++ layP a 12 12 ++ layP b 12 12 ++ layP c 10 10 ++ layP d 10 10) (w.heap.size + 1) 1073741823 30 u6 HO6 (Nat.le_trans (by omega) hb6.size) (by simp only [List.length_append, List.length_nil, layP_len]; decide) (by omega) (by omega)).mono ?_
  rintro e u7 ⟨x7, rfl, HO7, hc7⟩
  have hb7 := hb6.trans hc7
  rw [List.nil_append, ← HLE.out] at HO7
  obtain ⟨g, cap, rfl, hg1, hcap, hg2, hcell⟩ := HO7.cells (by rw [HLL.out]; decide)
  rw [HLL.out] at hcell hcap ⊢
  have HC := hid hcell
  have Z7 := Z1.out.below hb7 (Nat.lt_succ_self _)
  have B7 := hid (B1.out.trans (hb7.mono (Nat.le_succ _)))
  have H7 := hid (show w.heap.size + 1 ≤ u7.heap.size from Nat.le_trans (by omega) hb7.size)
  obtain ⟨hst, hn, hbn⟩ := newR u7 0
  have R0 : Hid (CpR u7.heap.size (fcp L 0) u7 ((u7.alloc (oR 0)).setCells u7.heap.size 0 (bcell 80 (Nat.testBit 0)))) := ⟨hn.eq fun j _ => by unfold fcp; rw [if_neg (by omega), Nat.zero_testBit], hbn⟩
  have HZ7 := hid Z7
  have HG := hid hg2
  clear hb1 hb2 hb3 hb4 hb5 hb6 hb7 hc1 hc2 hc3 hc4 hc5 hc6 hc7 HO0 HO1 HO2 HO3 HO4 HO5 HO6 HO7 Z7 Z1 B1 s1 hn hbn hcell hg1 hg2
  unfold oR at hst R0
  go_wp2_with fail
  generalize ((u7.alloc _).setCells _ _ _) = w0 at *
  clear hst
  have hq : u7.heap.size ≤ u7.heap.size := Nat.le_refl _
  generalize hqq : u7.heap.size = q at *
  clear hq hqq
  go_loopw [12] (fun i wr => ∃ k : Nat, k ≤ 80 ∧ i = .int .i64 k ∧ CpR q (fcp L k) u7 wr) (fun i _ => 80 - (intOf i).toNat)
  case atStart => exact ⟨0, Nat.zero_le _, rfl, R0.out⟩
  case round =>
    clear R0
    obtain ⟨k, hk, rfl, hrel⟩ := hrel
    by_cases hlt : k < 80
    · have i2 : (k : Int) < 80 := by omega
      have c1 := (hrel.b.cell (p := ⟨g, k, none⟩) HG.out).trans (HC.out k hlt)
      have c3 := hrel.o.cellf (k := k) hlt
      have f1 := hrel.o.frozen k
      have HST := hid (hrel.set (k := k) hlt (L.getD k false) (fcp_set L k))
      generalize L.getD k false = v at *
      generalize fcp L k k = u at *
      clear hrel hz hlz
      go_wp2
      go_roundw
      case rel => exact ⟨k + 1, by omega, by go_num, HST.out⟩
      case measure => simp [intOf]; omega
    · have HR : Hid (CpR q (gIt 0 s).testBit u7 wr) := by
        have e80 : k = 80 := by omega
        rw [e80] at hrel
        exact ⟨hrel.o.eq HFE.out, hrel.b⟩
      clear hrel HFE HC hcap hz hlz
      go_wp2
      obtain ⟨w1', hw1⟩ : ∃ x, x = wr := ⟨wr, rfl⟩
      rw [← hw1] at HR ⊢
      clear hw1
      go_loopw [13] (fun i wr => ∃ k : Nat, k ≤ 160 ∧ i = .int .i64 k ∧ CpR q (gIt k s).testBit u7 wr) (fun i _ => 160 - (intOf i).toNat)
      case atStart => exact ⟨0, Nat.zero_le _, rfl, HR.out⟩
      case round =>
        clear HR
        obtain ⟨k, hk, rfl, hrel⟩ := hrel
        have HR := hid hrel
        have HO := hid hrel.o.range
        have HSz := hid (sizeR_s (gIt k s))
        have HQ := hid (Nat.le_of_lt (BlkV.size hrel.o))
        clear hrel
        by_cases hlt : k < 160
        · have i2 : (k : Int) < 160 := by omega
          have hx80 := hid (gIt_lt k HG0.out.lt)
          have HS1 := hid (gIt_succ k s)
          generalize gIt k s = x at *
          go_wp2_with (with_reducible refine wpList_load_mid rfl 77 (.tmp 11) rfl q 0 rfl (bcell 80 x.testBit) _ (by with_reducible exact HO.out) Tryz.underlying77 rfl HSz.out ?_)
          refine (rturn_c x wr hx80.out).mono ?_
          rintro e w3 ⟨rfl, b3⟩
          have hst := oR_store (P := Tryz.prog) (gT x) (show RG w3 q x from BlkV.up HR.out.o b3)
          have HN := hid (HR.out.turn b3 HQ.out (gT x))
          rw [← HS1.out] at hst HN ⊢
          have hl2 := rg_len (gIt (k + 1) s)
          obtain ⟨y, hy⟩ : ∃ y, y = gIt (k + 1) s := ⟨_, rfl⟩
          rw [← hy] at hst HN hl2 ⊢
          have HYY := hid hy
          clear hy
          generalize gtap x = tb
          clear b3 HO HSz
          unfold rg
          go_wp2
          go_roundw
          case rel => exact ⟨k + 1, by omega, by go_num, by rw [← HYY.out]; exact HN.out⟩
          case measure => simp [intOf]; omega
        · obtain rfl : k = 160 := by omega
          rw [← HE.out] at HO HSz HR
          have hZ := HZ7.out.below HR.out.b (show w.heap.size < q by have := H7.out; omega)
          have hst := oR_store (P := Tryz.prog) S hZ
          have HZ := hid (RG.put S hZ)
          have HB := hid (below_cells (Nat.le_refl w.heap.size) (bcell 80 S.testBit) 0 _ (B7.out.trans (HR.out.b.mono (show w.heap.size ≤ q by have := H7.out; omega))))
          have hlenS := rg_len S
          clear hZ
          go_wp2_with (with_reducible refine wpList_load_mid rfl 77 (.tmp 11) rfl q 0 rfl (bcell 80 S.testBit) _ (by with_reducible exact HO.out) Tryz.underlying77 rfl HSz.out ?_)
          refine bodyPost_ret (RG.result HZ Tryz.results27 rfl rfl) rfl ?_
          exact ⟨rfl, HB.out⟩
set_option maxRecDepth 20000 in
set_option maxHeartbeats 2000000 in
theorem rnew_err (a b c d : Int) (w : World) (h : ¬ gOk a b c d) :
    Calls Tryz.prog 27 #[.int .i64 a, .int .i64 b, .int .i64 c, .int .i64 d] w fun e w' => e = .returned (.tuple #[rg 0, .int .i64 1]) ∧ Below w.heap.size w w' := by
  have hz := zeroR
  have hlz := rg_len 0
  obtain ⟨hst, hn, hb⟩ := newR w 0
  have HN := hid hn
  have HB := hid hb
  have s1 : (w.alloc (oR 0)).heap.size = w.heap.size + 1 := by simp
  clear hn hb
  unfold oR at *
  obtain ⟨w1, hw1⟩ : ∃ w1, w1 = w.alloc (.cells (bcell 80 (Nat.testBit 0)).toArray 77) := ⟨_, rfl⟩
  have HW := hid hw1
  clear hw1
  by_cases h1 : 1 ≤ a ∧ a < 4096
  case neg =>
    have e1 : decide (1 ≤ a ∧ a < 4096) = false := decide_eq_false h1
    go_enter Tryz.func27, Tryz.ntmps27
    go_wp2_with fail
    change Calls _ _ _ (w.alloc (.cells (bcell 80 (Nat.testBit 0)).toArray 77)) _
    rw [← HW.out]
    refine (in12_c a w1).mono ?_
    rintro e v1 ⟨rfl, he1⟩
    rw [e1]
    rw [he1]
    clear he1 v1
    rw [HW.out]
    clear HW w1
    go_wp2_with fail
    refine bodyPost_ret (RG.result HN Tryz.results27 rfl rfl) rfl ?_
    exact ⟨rfl, HB.out⟩
  have e1 : decide (1 ≤ a ∧ a < 4096) = true := decide_eq_true h1
  by_cases h2 : 1 ≤ b ∧ b < 4096
  case neg =>
    have e2 : decide (1 ≤ b ∧ b < 4096) = false := decide_eq_false h2
    go_enter Tryz.func27, Tryz.ntmps27
    go_wp2_with fail
    change Calls _ _ _ (w.alloc (.cells (bcell 80 (Nat.testBit 0)).toArray 77)) _
    rw [← HW.out]
    refine (in12_c a w1).mono ?_
    rintro e v1 ⟨rfl, he1⟩
    rw [e1]
    rw [he1]
    clear he1 v1
    go_wp2_with fail
    refine (in12_c b w1).mono ?_
    rintro e v2 ⟨rfl, he2⟩
    rw [e2]
    rw [he2]
    clear he2 v2
    rw [HW.out]
    clear HW w1
    go_wp2_with fail
    refine bodyPost_ret (RG.result HN Tryz.results27 rfl rfl) rfl ?_
    exact ⟨rfl, HB.out⟩
  have e2 : decide (1 ≤ b ∧ b < 4096) = true := decide_eq_true h2
  by_cases h3 : 0 ≤ c ∧ c < 1024
  case neg =>
    have e3 : decide (0 ≤ c ∧ c < 1024) = false := decide_eq_false h3
    go_enter Tryz.func27, Tryz.ntmps27
    go_wp2_with fail
    change Calls _ _ _ (w.alloc (.cells (bcell 80 (Nat.testBit 0)).toArray 77)) _
    rw [← HW.out]
    refine (in12_c a w1).mono ?_
    rintro e v1 ⟨rfl, he1⟩
    rw [e1]
    rw [he1]
    clear he1 v1
    go_wp2_with fail
    refine (in12_c b w1).mono ?_
    rintro e v2 ⟨rfl, he2⟩
    rw [e2]
    rw [he2]
    clear he2 v2
    go_wp2_with fail
    refine (in10_c c w1).mono ?_
    rintro e v3 ⟨rfl, he3⟩
    rw [e3]
    rw [he3]
    clear he3 v3
    rw [HW.out]
    clear HW w1
    go_wp2_with fail
    refine bodyPost_ret (RG.result HN Tryz.results27 rfl rfl) rfl ?_
    exact ⟨rfl, HB.out⟩
  have e3 : decide (0 ≤ c ∧ c < 1024) = true := decide_eq_true h3
  by_cases h4 : 0 ≤ d ∧ d < 1024
  · exact absurd ⟨h1.1, h1.2, h2.1, h2.2, h3.1, h3.2, h4.1, h4.2⟩ h
  · have e4 : decide (0 ≤ d ∧ d < 1024) = false := decide_eq_false h4
    go_enter Tryz.func27, Tryz.ntmps27
    go_wp2_with fail
    change Calls _ _ _ (w.alloc (.cells (bcell 80 (Nat.testBit 0)).toArray 77)) _
    rw [← HW.out]
    refine (in12_c a w1).mono ?_
    rintro e v1 ⟨rfl, he1⟩
    rw [e1]
    rw [he1]
    clear he1 v1
    go_wp2_with fail
    refine (in12_c b w1).mono ?_
    rintro e v2 ⟨rfl, he2⟩
    rw [e2]
    rw [he2]
    clear he2 v2
    go_wp2_with fail
    refine (in10_c c w1).mono ?_
    rintro e v3 ⟨rfl, he3⟩
    rw [e3]
    rw [he3]
    clear he3 v3
    go_wp2_with fail
    refine (in10_c d w1).mono ?_
    rintro e v4 ⟨rfl, he4⟩
    rw [e4]
    rw [he4]
    clear he4 v4
    rw [HW.out]
    clear HW w1
    go_wp2_with fail
    refine bodyPost_ret (RG.result HN Tryz.results27 rfl rfl) rfl ?_
    exact ⟨rfl, HB.out⟩
end Go.Proofs.YtdepkfdceidikaaGreatDoor
