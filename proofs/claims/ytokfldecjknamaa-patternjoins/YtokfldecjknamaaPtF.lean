/-
  pattern.next: what the call does; what its window of 263 bytes tells of an item.
-/
import Derived.Test.YtokfldecjknamaaPtE
namespace Go.Proofs.Ytokfldecjknamaa
open Go.RowKit
set_option linter.unusedVariables false
set_option linter.unusedSimpArgs false

theorem getD_take9 (l : List Nat) {i m : Nat} (h : i < m) : (l.take m).getD i 0 = l.getD i 0 := getD_take8 l h
theorem take_hd (l : List Nat) {m : Nat} (hm : 8 ≤ m) : hdk (l.take m) = hdk l ∧ hdt (l.take m) = hdt l ∧ hdc (l.take m) = hdc l ∧ hdl (l.take m) = hdl l := by
  refine ⟨getD_take9 l (by omega), getD_take9 l (by omega), ?_, ?_⟩
  · unfold hdc
    rw [List.drop_take, List.take_take, Nat.min_eq_left (by omega)]
  · unfold hdl
    rw [List.drop_take, List.take_take, Nat.min_eq_left (by omega)]
theorem dec_len {l : List Nat} (h : decE l = 0) : 8 + hdl l ≤ l.length ∧ hdl l ≤ 255 := by
  by_cases hs : l.length < 8 ∨ l.length < 8 + hdl l
  · rw [decE_short hs] at h; cases h
  · rw [decE_long hs] at h
    have := (ck_ok h).2.2.2.2.2.2
    omega
theorem win_bad {l : List Nat} (h : decE (l.take 263) = 2) : decE l ≠ 0 := by
  intro h0
  obtain ⟨h1, h2⟩ := dec_len h0
  obtain ⟨a, b, c, d⟩ := take_hd l (m := 263) (by decide)
  have hl : (l.take 263).length = min 263 l.length := List.length_take ..
  rw [decE_long (by rw [hl, d]; omega), a, b, c, d] at h
  rw [decE_long (by omega)] at h0
  rw [h0] at h
  cases h
theorem win_same {l : List Nat} (h : decE (l.take 263) ≠ 2) : decE l = decE (l.take 263) := by
  obtain ⟨a, b, c, d⟩ := take_hd l (m := 263) (by decide)
  have hl : (l.take 263).length = min 263 l.length := List.length_take ..
  by_cases hs : (l.take 263).length < 8 ∨ (l.take 263).length < 8 + hdl (l.take 263)
  · exact absurd (decE_short hs) h
  · rw [decE_long hs, a, b, c, d]
    rw [hl, d] at hs
    rw [decE_long (by omega)]
theorem win_ok {l : List Nat} (h : decE (l.take 263) = 0) : ivOf (l.take 263) = ivOf l ∧ (dR (l.take 263)).length + (8 + hdl l) = min 263 l.length ∧ decE l = 0 ∧ dR l = l.drop (8 + hdl l) := by
  obtain ⟨a, b, c, d⟩ := take_hd l (m := 263) (by decide)
  have hE : decE l = 0 := by rw [win_same (by rw [h]; decide)]; exact h
  have hl : (l.take 263).length = min 263 l.length := List.length_take ..
  obtain ⟨h1, h2⟩ := dec_len h
  obtain ⟨e1, e2, e3, e4, e5⟩ := dec_yes h
  obtain ⟨f1, f2, f3, f4, f5⟩ := dec_yes hE
  have hlab : lab (l.take 263) = lab l := by
    unfold lab
    rw [d, List.drop_take, List.take_take, Nat.min_eq_left (by omega)]
  refine ⟨?_, ?_, hE, f5⟩
  · unfold ivOf
    rw [e1, e2, e3, e4, f1, f2, f3, f4, a, b, c, hlab]
  · rw [e5, List.length_drop, hl, d]
    rw [hl, d] at h1
    omega
/-- What is wrong at a place. -/
def nE (j : Nat) (l : List Nat) : Nat := if 1024 ≤ j then 9 else decE l
theorem dR_le (l : List Nat) : (dR l).length ≤ l.length := by
  unfold dR
  split
  · rw [List.length_drop]; omega
  · exact Nat.zero_le _
set_option maxRecDepth 20000 in
set_option maxHeartbeats 2000000 in
theorem next_c (j : Nat) (A : Option Addr) (n c : Nat) (l : List Nat) (w : World) (ha : Rd8 w w.heap.size A n l) (hcap : n ≤ c) (hn6 : n ≤ 1000000) (hj : j ≤ 100000) :
    Calls Try.prog 30 #[.int .i64 (j : Int), .slice A n c] w fun e w' => ∃ (y : IV) (sz : Int), e = .returned (.tuple #[.agg #[.int .i64 y.k, .int .i64 y.t, .int .i64 y.c, .string y.s], .int .i64 sz, .int .i64 (nE j l : Nat)]) ∧ (nE j l = 0 → y = ivOf l ∧ sz = (8 + hdl l : Nat)) ∧ Below w.heap.size w w' := by
  obtain ⟨B0, b0⟩ := new_item w 52
  have hln := ha.len
  obtain ⟨A1, s1, r1⟩ := cut_h ha c (min n 263) (by omega) hcap (min (n : Int) 263) (by omega)
  have e1 : l.take (min n 263) = l.take 263 := by rw [← hln, Nat.min_comm, ← List.take_take, List.take_of_length_le (l := l) (Nat.le_refl _)]
  rw [e1] at r1
  have j0 : (0 : Int) ≤ (j : Int) := by omega
  unfold nE
  by_cases h10 : 1024 ≤ j
  · rw [if_pos h10]
    have h' : (1024 : Int) ≤ (j : Int) := by omega
    have hr := B0.range
    go_enter Try.func30, Try.ntmps30
    go_wp2
    refine bodyPost_ret (results_cell_tmps Try.results30 ⟨w.heap.size, 0, none⟩ _ _ _ rfl (run_loadVar_mid _ w.heap.size 0 52 _ _ hr Try.underlying52 rfl sizeIt) rfl rfl) rfl ?_
    exact ⟨⟨0, 0, 0, ⟨#[]⟩⟩, 0, rfl, (fun h => absurd h (by decide)), b0⟩
  · rw [if_neg h10]
    have h' : ¬ (1024 : Int) ≤ (j : Int) := by omega
    have C1 := idecode_c A1 (min n 263) c (l.take 263) (w.alloc (.cells #[.int .i64 0, .int .i64 0, .int .i64 0, .string ⟨#[]⟩] 52)) ((r1.below b0 (Nat.le_refl _)).more b0.size) (by omega) (by omega)
    have hsl : w.heap.size ≤ w.heap.size := Nat.le_refl _
    go_enter Try.func30, Try.ntmps30
    go_wp2_with fail
    generalize w.alloc (.cells #[.int .i64 0, .int .i64 0, .int .i64 0, .string ⟨#[]⟩] 52) = w1 at *
    refine C1.mono ?_
    rintro e w2 ⟨A5, m, c5, rfl, r5, b2⟩
    have b02 := bchain b0 b2
    have B2 := B0.up b2
    have hm := r5.len
    have hmn : m ≤ min n 263 := by
      have h1 := dR_le (l.take 263)
      rw [List.length_take] at h1
      omega
    have hmi : (m : Int) ≤ min (n : Int) 263 := by omega
    have B8 := BlkV.new w2 52 [.int .i64 (dK (l.take 263) : Nat), .int .i64 (dT (l.take 263) : Nat), .int .i64 (dC (l.take 263) : Nat), .string (sb (dL (l.take 263)))]
    have b8 : Below w2.heap.size w2 (w2.alloc (.cells #[.int .i64 (dK (l.take 263) : Nat), .int .i64 (dT (l.take 263) : Nat), .int .i64 (dC (l.take 263) : Nat), .string (sb (dL (l.take 263)))] 52)) := (Below.refl _ _).alloc (Nat.le_refl _) _
    have b08 := bchain b02 b8
    have B28 := B2.up b8
    have hw : w.heap.size < w2.heap.size := B2.size
    clear C1 B0 b0 b2 r5 r1
    by_cases hE : decE (l.take 263) = 2
    · have C2 := idecode_c A n c l (w2.alloc (.cells #[.int .i64 (dK (l.take 263) : Nat), .int .i64 (dT (l.take 263) : Nat), .int .i64 (dC (l.take 263) : Nat), .string (sb (dL (l.take 263)))] 52)) ((ha.below b08 (Nat.le_refl _)).more b08.size) hcap hn6
      have hbad := win_bad hE
      rw [hE]
      go_wp2_with fail
      generalize w2.alloc (.cells #[.int .i64 (dK (l.take 263) : Nat), .int .i64 (dT (l.take 263) : Nat), .int .i64 (dC (l.take 263) : Nat), .string (sb (dL (l.take 263)))] 52) = w3 at *
      refine C2.mono ?_
      rintro e w4 ⟨A6, m6, c6, rfl, _, b4⟩
      have b04 := bchain b08 b4
      have B4 := B28.up b4
      have X4 := B8.up b4
      have xr := X4.range
      obtain ⟨wz, hwz⟩ : ∃ x, x = w4.setCells w.heap.size 0 [.int .i64 (dK (l.take 263) : Nat), .int .i64 (dT (l.take 263) : Nat), .int .i64 (dC (l.take 263) : Nat), .string (sb (dL (l.take 263)))] := ⟨_, rfl⟩
      obtain ⟨Bz, bz, _, _⟩ := own_whole [.int .i64 (dK (l.take 263) : Nat), .int .i64 (dT (l.take 263) : Nat), .int .i64 (dC (l.take 263) : Nat), .string (sb (dL (l.take 263)))] B4 rfl b04 (Nat.le_refl _)
      rw [← hwz] at Bz bz
      clear C2 b4 b08 b8 B28 B8 B2 b02
      go_wp2_with (first
        | fail
        | refine wpList_load_mid rfl 52 (.tmp 8) rfl w2.heap.size 0 rfl [.int .i64 (dK (l.take 263) : Nat), .int .i64 (dT (l.take 263) : Nat), .int .i64 (dC (l.take 263) : Nat), .string (sb (dL (l.take 263)))] _ (by with_reducible exact xr) Try.underlying52 rfl sizeIt ?_
        | (refine wpList_store_to rfl 52 (.tmp 4) (.tmp 33) rfl w.heap.size 0 [.int .i64 (dK (l.take 263) : Nat), .int .i64 (dT (l.take 263) : Nat), .int .i64 (dC (l.take 263) : Nat), .string (sb (dL (l.take 263)))] wz hwz rfl rfl (B4.there 0 4 (by simp)) sizeIt (oneIt _ _ _ _) ?_; clear hwz))
      refine bodyPost_ret (results_cell_tmps Try.results30 ⟨w.heap.size, 0, none⟩ _ _ _ rfl (run_loadVar_mid _ w.heap.size 0 52 _ _ Bz.range Try.underlying52 rfl sizeIt) rfl rfl) rfl ?_
      exact ⟨ivOf (l.take 263), _, rfl, fun h => absurd h hbad, bz⟩
    · have hsame := win_same hE
      have hE2 : (((decE (l.take 263) : Nat) : Int) == 2) = false := by simp; omega
      have hok : decE l = 0 → ivOf (l.take 263) = ivOf l ∧ ((min n 263 : Nat) : Int) - (m : Int) = (8 + hdl l : Nat) := by
        intro h0
        rw [hsame] at h0
        obtain ⟨q1, q2, q3, q4⟩ := win_ok h0
        exact ⟨q1, by omega⟩
      have xr := B8.range
      obtain ⟨w3, hw3⟩ : ∃ x, x = w2.alloc (.cells #[.int .i64 (dK (l.take 263) : Nat), .int .i64 (dT (l.take 263) : Nat), .int .i64 (dC (l.take 263) : Nat), .string (sb (dL (l.take 263)))] 52) := ⟨_, rfl⟩
      obtain ⟨wz, hwz⟩ : ∃ x, x = (w2.alloc (.cells #[.int .i64 (dK (l.take 263) : Nat), .int .i64 (dT (l.take 263) : Nat), .int .i64 (dC (l.take 263) : Nat), .string (sb (dL (l.take 263)))] 52)).setCells w.heap.size 0 [.int .i64 (dK (l.take 263) : Nat), .int .i64 (dT (l.take 263) : Nat), .int .i64 (dC (l.take 263) : Nat), .string (sb (dL (l.take 263)))] := ⟨_, rfl⟩
      obtain ⟨Bz, bz, _, _⟩ := own_whole [.int .i64 (dK (l.take 263) : Nat), .int .i64 (dT (l.take 263) : Nat), .int .i64 (dC (l.take 263) : Nat), .string (sb (dL (l.take 263)))] B28 rfl b08 (Nat.le_refl _)
      rw [← hwz] at Bz bz
      clear hE
      go_wp2_with (first
        | fail
        | refine wpList_load_mid rfl 52 (.tmp 8) rfl w2.heap.size 0 rfl [.int .i64 (dK (l.take 263) : Nat), .int .i64 (dT (l.take 263) : Nat), .int .i64 (dC (l.take 263) : Nat), .string (sb (dL (l.take 263)))] _ (by with_reducible exact xr) Try.underlying52 rfl sizeIt ?_
        | (refine wpList_store_to rfl 52 (.tmp 4) (.tmp 33) rfl w.heap.size 0 [.int .i64 (dK (l.take 263) : Nat), .int .i64 (dT (l.take 263) : Nat), .int .i64 (dC (l.take 263) : Nat), .string (sb (dL (l.take 263)))] wz hwz rfl rfl (B28.there 0 4 (by simp)) sizeIt (oneIt _ _ _ _) ?_; clear hwz))
      refine bodyPost_ret (results_cell_tmps Try.results30 ⟨w.heap.size, 0, none⟩ _ _ _ rfl (run_loadVar_mid _ w.heap.size 0 52 _ _ Bz.range Try.underlying52 rfl sizeIt) rfl rfl) rfl ?_
      refine ⟨ivOf (l.take 263), ((min n 263 : Nat) : Int) - (m : Int), ?_, fun h => ⟨(hok h).1, (hok h).2⟩, bz⟩
      rw [hsame]
      rfl
end Go.Proofs.Ytokfldecjknamaa
