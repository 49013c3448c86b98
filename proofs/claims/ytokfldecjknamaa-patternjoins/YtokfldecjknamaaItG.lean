/-
  item.Decode: what the call does.
-/
import Derived.Test.YtokfldecjknamaaItF
namespace Go.Proofs.Ytokfldecjknamaa
open Go.RowKit
set_option linter.unusedVariables false
set_option linter.unusedSimpArgs false

/-- What is wrong with bytes that should begin with an item. -/
def decE (l : List Nat) : Nat := if l.length < 8 ∨ l.length < 8 + hdl l then 2 else ck (hdk l) (hdt l) (hdc l) (hdl l)
/-- The label. -/
def lab (l : List Nat) : List Nat := (l.drop 8).take (hdl l)
theorem hdk_take (l : List Nat) : hdk (l.take 8) = hdk l := getD_take8 l (by decide)
theorem hdt_take (l : List Nat) : hdt (l.take 8) = hdt l := getD_take8 l (by decide)
theorem hdc_take (l : List Nat) : hdc (l.take 8) = hdc l := by
  unfold hdc
  rw [List.drop_take, List.take_take]
  rfl
theorem hdl_take (l : List Nat) : hdl (l.take 8) = hdl l := by
  unfold hdl
  rw [List.drop_take, List.take_take]
  rfl
theorem hdl_lt {l : List Nat} (h : allLt8 l) : hdl l < 65536 := by
  have h1 := val_lt8 ((h.drop 6).take 2)
  have h2 : ((l.drop 6).take 2).length ≤ 2 := by rw [List.length_take]; omega
  have h3 : 256 ^ ((l.drop 6).take 2).length ≤ 256 ^ 2 := Nat.pow_le_pow_right (by decide) h2
  unfold hdl
  omega
theorem icut_ni (A : Option Addr) (n c size : Nat) (S : Int) (hS : S = (size : Int)) (w : World) (hs : n < size) : Calls Try.prog 43 #[.slice A n c, .int .i64 S] w fun e w' => e = .returned (.tuple #[.slice none 0 0, .slice none 0 0, .bool false]) ∧ w' = w := by
  subst hS; exact icut_n A n c size w hs
theorem icut_yi {B : Nat} (A : Option Addr) (n c size : Nat) (S : Int) (hS : S = (size : Int)) (l : List Nat) (w : World) (ha : Rd8 w B A n l) (hs : size ≤ n) (hc : n ≤ c) : ∃ A1 A2, Rd8 w B A1 size (l.take size) ∧ Rd8 w B A2 (n - size) (l.drop size) ∧
    Calls Try.prog 43 #[.slice A n c, .int .i64 S] w fun e w' => e = .returned (.tuple #[.slice A1 size size, .slice A2 (n - size) (c - size), .bool true]) ∧ Below w.heap.size w w' := by
  subst hS; exact icut_y A n c size l w ha hs hc
theorem new_item (w : World) (T : TypeId) : BlkV (w.alloc (.cells #[.int .i64 0, .int .i64 0, .int .i64 0, .string ⟨#[]⟩] T)) w.heap.size T [.int .i64 0, .int .i64 0, .int .i64 0, .string ⟨#[]⟩] ∧ Below w.heap.size w (w.alloc (.cells #[.int .i64 0, .int .i64 0, .int .i64 0, .string ⟨#[]⟩] T)) :=
  ⟨BlkV.new w _ _, (Below.refl _ _).alloc (Nat.le_refl _) _⟩

set_option maxRecDepth 100000 in
set_option maxHeartbeats 1000000 in
theorem idecode_s1 (A : Option Addr) (n c : Nat) (w : World) (hn : n < 8) :
    Calls Try.prog 39 #[.slice A n c] w fun e w' => e = .returned (.tuple #[.agg #[.int .i64 0, .int .i64 0, .int .i64 0, .string ⟨#[]⟩], .slice none 0 0, .int .i64 2]) ∧ Below w.heap.size w w' := by
  obtain ⟨B1, b1⟩ := new_item w 52
  go_enter Try.func39, Try.ntmps39
  go_wp2_with fail
  generalize w.alloc (.cells #[.int .i64 0, .int .i64 0, .int .i64 0, .string ⟨#[]⟩] 52) = w1 at *
  refine (icut_ni A n c 8 8 rfl _ hn).mono ?_
  rintro e w2 ⟨rfl, rfl⟩
  obtain ⟨w3, hw3⟩ : ∃ x, x = w2.setCells w.heap.size 0 [.int .i64 0, .int .i64 0, .int .i64 0, .string ⟨#[]⟩] := ⟨_, rfl⟩
  obtain ⟨B3, b3, _, _⟩ := own_whole [.int .i64 0, .int .i64 0, .int .i64 0, .string ⟨#[]⟩] B1 rfl b1 (Nat.le_refl _)
  rw [← hw3] at B3 b3
  go_wp2_with (refine wpList_store_to rfl 52 (.tmp 2) (.tmp 19) rfl w.heap.size 0 [.int .i64 0, .int .i64 0, .int .i64 0, .string ⟨#[]⟩] w3 hw3 rfl rfl (B1.there 0 4 (by simp)) sizeIt (oneIt _ _ _ _) ?_; clear hw3)
  refine bodyPost_ret (results_cell_tmps Try.results39 ⟨w.heap.size, 0, none⟩ _ _ _ rfl (run_loadVar_mid _ w.heap.size 0 52 _ _ B3.range Try.underlying52 rfl sizeIt) rfl rfl) rfl ?_
  exact ⟨rfl, b3⟩
set_option maxRecDepth 100000 in
set_option maxHeartbeats 2000000 in
theorem idecode_s2 (A : Option Addr) (n c : Nat) (l : List Nat) (w : World) (ha : Rd8 w w.heap.size A n l) (hn : 8 ≤ n) (hs : n < 8 + hdl l) (hcap : n ≤ c) :
    Calls Try.prog 39 #[.slice A n c] w fun e w' => e = .returned (.tuple #[.agg #[.int .i64 0, .int .i64 0, .int .i64 0, .string ⟨#[]⟩], .slice none 0 0, .int .i64 2]) ∧ Below w.heap.size w w' := by
  obtain ⟨B1, b1⟩ := new_item w 52
  have hll := ha.len
  have hw8 : 8 ≤ n := by omega
  go_enter Try.func39, Try.ntmps39
  go_wp2_with fail
  generalize w.alloc (.cells #[.int .i64 0, .int .i64 0, .int .i64 0, .string ⟨#[]⟩] 52) = w1 at *
  obtain ⟨A1, A2, r1, r2, C1⟩ := icut_yi A n c 8 8 rfl l w1 (ha.below b1 (Nat.le_refl _)) hw8 hcap
  refine C1.mono ?_
  rintro e w2 ⟨rfl, h2⟩
  clear C1
  have b2 := bchain b1 h2
  have B2 := B1.up h2
  have r1b : Rd8 w2 w2.heap.size A1 8 (l.take 8) := (r1.below h2 b1.size).more b2.size
  have r2b : Rd8 w2 w.heap.size A2 (n - 8) (l.drop 8) := r2.below h2 b1.size
  clear r1 r2 h2 B1 b1
  go_wp2_with fail
  have R := readHead_c A1 8 (l.take 8) w2 r1b (Nat.le_refl _)
  rw [hdk_take, hdt_take, hdc_take, hdl_take] at R
  refine R.mono ?_
  rintro e w3 ⟨rfl, h3⟩
  clear R
  have b3 := bchain b2 h3
  have B3 := B2.up h3
  have r3 := r2b.below h3 b2.size
  clear r1b r2b h3 B2 b2
  obtain ⟨X3, x3⟩ := new_item w3 52
  obtain ⟨w4, hw4⟩ : ∃ x, x = (w3.alloc (.cells #[.int .i64 0, .int .i64 0, .int .i64 0, .string ⟨#[]⟩] 52)).setCells w3.heap.size 0 [.int .i64 (hdk l : Nat), .int .i64 (hdt l : Nat), .int .i64 (hdc l : Nat), .string (sb [])] := ⟨_, rfl⟩
  obtain ⟨X4, x4, _, _⟩ := own_whole [.int .i64 (hdk l : Nat), .int .i64 (hdt l : Nat), .int .i64 (hdc l : Nat), .string (sb [])] X3 rfl x3 (Nat.le_refl _)
  rw [← hw4] at X4 x4
  have b4 := bchain b3 x4
  have B4 := B3.up x4
  have r4 := r3.below x4 b3.size
  have hx4 : w.heap.size ≠ w3.heap.size := by have := B3.size; omega
  go_wp2_with (refine wpList_store_to rfl 52 (.tmp 7) (.tmp 23) rfl w3.heap.size 0 [.int .i64 (hdk l : Nat), .int .i64 (hdt l : Nat), .int .i64 (hdc l : Nat), .string (sb [])] w4 hw4 rfl rfl (X3.there 0 4 (by simp)) sizeIt (oneIt _ _ _ _) ?_; clear hw4 X3)
  refine (icut_n A2 (n - 8) (c - 8) (hdl l) w4 (by omega)).mono ?_
  rintro e w5 ⟨rfl, rfl⟩
  obtain ⟨wz, hwz⟩ : ∃ x, x = w5.setCells w.heap.size 0 [.int .i64 0, .int .i64 0, .int .i64 0, .string ⟨#[]⟩] := ⟨_, rfl⟩
  obtain ⟨Bz, bz, _, _⟩ := own_whole [.int .i64 0, .int .i64 0, .int .i64 0, .string ⟨#[]⟩] B4 rfl b4 (Nat.le_refl _)
  rw [← hwz] at Bz bz
  go_wp2_with (refine wpList_store_to rfl 52 (.tmp 2) (.tmp 34) rfl w.heap.size 0 [.int .i64 0, .int .i64 0, .int .i64 0, .string ⟨#[]⟩] wz hwz rfl rfl ((B4).there 0 4 (by simp)) sizeIt (oneIt _ _ _ _) ?_; clear hwz)
  refine bodyPost_ret (results_cell_tmps Try.results39 ⟨w.heap.size, 0, none⟩ _ _ _ rfl (run_loadVar_mid _ w.heap.size 0 52 _ _ Bz.range Try.underlying52 rfl sizeIt) rfl rfl) rfl ?_
  exact ⟨rfl, bz⟩

set_option maxRecDepth 100000 in
set_option maxHeartbeats 2000000 in
theorem idecode_s3 (A : Option Addr) (n c : Nat) (l : List Nat) (w : World) (ha : Rd8 w w.heap.size A n l) (hn : 8 + hdl l ≤ n) (hcap : n ≤ c) (hne : ck (hdk l) (hdt l) (hdc l) (hdl l) ≠ 0) :
    Calls Try.prog 39 #[.slice A n c] w fun e w' => e = .returned (.tuple #[.agg #[.int .i64 0, .int .i64 0, .int .i64 0, .string ⟨#[]⟩], .slice none 0 0, .int .i64 (ck (hdk l) (hdt l) (hdc l) (hdl l) : Nat)]) ∧ Below w.heap.size w w' := by
  obtain ⟨r, hr0⟩ : ∃ r, r = ck (hdk l) (hdt l) (hdc l) (hdl l) := ⟨_, rfl⟩
  rw [← hr0] at hne ⊢
  have HR0 := hid hr0
  clear hr0
  obtain ⟨B1, b1⟩ := new_item w 52
  have hll := ha.len
  have hw8 : 8 ≤ n := by omega
  go_enter Try.func39, Try.ntmps39
  go_wp2_with fail
  generalize w.alloc (.cells #[.int .i64 0, .int .i64 0, .int .i64 0, .string ⟨#[]⟩] 52) = w1 at *
  obtain ⟨A1, A2, r1, r2, C1⟩ := icut_yi A n c 8 8 rfl l w1 (ha.below b1 (Nat.le_refl _)) hw8 hcap
  refine C1.mono ?_
  rintro e w2 ⟨rfl, h2⟩
  clear C1
  have b2 := bchain b1 h2
  have B2 := B1.up h2
  have r1b : Rd8 w2 w2.heap.size A1 8 (l.take 8) := (r1.below h2 b1.size).more b2.size
  have r2b : Rd8 w2 w.heap.size A2 (n - 8) (l.drop 8) := r2.below h2 b1.size
  clear r1 r2 h2 B1 b1
  go_wp2_with fail
  have R := readHead_c A1 8 (l.take 8) w2 r1b (Nat.le_refl _)
  rw [hdk_take, hdt_take, hdc_take, hdl_take] at R
  refine R.mono ?_
  rintro e w3 ⟨rfl, h3⟩
  clear R
  have b3 := bchain b2 h3
  have B3 := B2.up h3
  have r3 := r2b.below h3 b2.size
  clear r1b r2b h3 B2 b2
  obtain ⟨X3, x3⟩ := new_item w3 52
  obtain ⟨w4, hw4⟩ : ∃ x, x = (w3.alloc (.cells #[.int .i64 0, .int .i64 0, .int .i64 0, .string ⟨#[]⟩] 52)).setCells w3.heap.size 0 [.int .i64 (hdk l : Nat), .int .i64 (hdt l : Nat), .int .i64 (hdc l : Nat), .string (sb [])] := ⟨_, rfl⟩
  obtain ⟨X4, x4, _, _⟩ := own_whole [.int .i64 (hdk l : Nat), .int .i64 (hdt l : Nat), .int .i64 (hdc l : Nat), .string (sb [])] X3 rfl x3 (Nat.le_refl _)
  rw [← hw4] at X4 x4
  have b4 := bchain b3 x4
  have B4 := B3.up x4
  have r4 := r3.below x4 b3.size
  have hx4 : w.heap.size ≠ w3.heap.size := by have := B3.size; omega
  go_wp2_with (refine wpList_store_to rfl 52 (.tmp 7) (.tmp 23) rfl w3.heap.size 0 [.int .i64 (hdk l : Nat), .int .i64 (hdt l : Nat), .int .i64 (hdc l : Nat), .string (sb [])] w4 hw4 rfl rfl (X3.there 0 4 (by simp)) sizeIt (oneIt _ _ _ _) ?_; clear hw4 X3)
  obtain ⟨A3, A4, r5, r6, C5⟩ := icut_y A2 (n - 8) (c - 8) (hdl l) (l.drop 8) w4 r4 (by omega) (by omega)
  refine C5.mono ?_
  rintro e w5 ⟨rfl, h5⟩
  clear C5
  have b5 := bchain b4 h5
  have B5 := B4.up h5
  have X5 := X4.up h5
  have r5b : Rd8 w5 w.heap.size A3 (hdl l) (lab l) := r5.below h5 b4.size
  have r6b : Rd8 w5 w.heap.size A4 (n - 8 - hdl l) (l.drop (8 + hdl l)) := by
    have := r6.below h5 b4.size
    rw [List.drop_drop] at this
    exact this
  have cv := conv_s r5b (hdl l)
  have hfz := X5.frozen 3
  obtain ⟨_, _, _, f3⟩ := X5.four
  have b6 : Below w.heap.size w (w5.setCell ⟨w3.heap.size, 3, none⟩ (.string (sb (lab l)))) := b5.setCell (by have := b3.size; exact this) _
  have X6 : BlkV (w5.setCell ⟨w3.heap.size, 3, none⟩ (.string (sb (lab l)))) w3.heap.size 52 [.int .i64 (hdk l : Nat), .int .i64 (hdt l : Nat), .int .i64 (hdc l : Nat), .string (sb (lab l))] := X5.set 3 (.string (sb (lab l)))
  have B6 : BlkV (w5.setCell ⟨w3.heap.size, 3, none⟩ (.string (sb (lab l)))) w.heap.size 52 [.int .i64 0, .int .i64 0, .int .i64 0, .string ⟨#[]⟩] := B5.other hx4
  have b56 : Below w.heap.size w5 (w5.setCell ⟨w3.heap.size, 3, none⟩ (.string (sb (lab l)))) := (Below.refl _ _).setCell (by have := b3.size; exact this) _
  have r6c := r6b.below b56 (Nat.le_refl _)
  clear r5 r6 r5b r6b b56 h5 B4 X4 B5 b4 r4 r3 x4 B3
  go_wp2_with fail
  generalize w5.setCell ⟨w3.heap.size, 3, none⟩ (.string (sb (lab l))) = w6 at *
  have hsl : (sb (lab l)).size = hdl l := by
    rw [← bl_len, bl_sb (show allLt8 (lab l) from (ha.lt.drop 8).take _)]
    unfold lab
    rw [List.length_take, List.length_drop]
    omega
  have hl16 := hdl_lt ha.lt
  have K := icheck_c (hdk l : Nat) (hdt l : Nat) (hdc l : Nat) (sb (lab l)) w6 (by omega)
  rw [hsl] at K
  rw [← HR0.out] at K
  have hr : ((r : Int) == 0) = false := by simp; omega
  refine K.mono ?_
  rintro e w7 ⟨rfl, h7⟩
  clear K
  have b7 := bchain b6 h7
  have B7 := B6.up h7
  obtain ⟨wz, hwz⟩ : ∃ x, x = w7.setCells w.heap.size 0 [.int .i64 0, .int .i64 0, .int .i64 0, .string ⟨#[]⟩] := ⟨_, rfl⟩
  obtain ⟨Bz, bz, _, _⟩ := own_whole [.int .i64 0, .int .i64 0, .int .i64 0, .string ⟨#[]⟩] B7 rfl b7 (Nat.le_refl _)
  rw [← hwz] at Bz bz
  go_wp2_with (refine wpList_store_to rfl 52 (.tmp 2) (.tmp 42) rfl w.heap.size 0 [.int .i64 0, .int .i64 0, .int .i64 0, .string ⟨#[]⟩] wz hwz rfl rfl ((B7).there 0 4 (by simp)) sizeIt (oneIt _ _ _ _) ?_; clear hwz)
  refine bodyPost_ret (results_cell_tmps Try.results39 ⟨w.heap.size, 0, none⟩ _ _ _ rfl (run_loadVar_mid _ w.heap.size 0 52 _ _ Bz.range Try.underlying52 rfl sizeIt) rfl rfl) rfl ?_
  exact ⟨rfl, bz⟩

set_option maxRecDepth 100000 in
set_option maxHeartbeats 2000000 in
theorem idecode_ok (A : Option Addr) (n c : Nat) (l : List Nat) (w : World) (ha : Rd8 w w.heap.size A n l) (hn : 8 + hdl l ≤ n) (hcap : n ≤ c) (hn6 : n ≤ 1000000) (hz : ck (hdk l) (hdt l) (hdc l) (hdl l) = 0) :
    Calls Try.prog 39 #[.slice A n c] w fun e w' => ∃ A5, e = .returned (.tuple #[.agg #[.int .i64 (hdk l : Nat), .int .i64 (hdt l : Nat), .int .i64 (hdc l : Nat), .string (sb (lab l))], .slice A5 (n - 8 - hdl l) (n - 8 - hdl l), .int .i64 0]) ∧ Rd8 w' w'.heap.size A5 (n - 8 - hdl l) (l.drop (8 + hdl l)) ∧ Below w.heap.size w w' := by
  obtain ⟨B1, b1⟩ := new_item w 52
  have hll := ha.len
  have hw8 : 8 ≤ n := by omega
  go_enter Try.func39, Try.ntmps39
  go_wp2_with fail
  generalize w.alloc (.cells #[.int .i64 0, .int .i64 0, .int .i64 0, .string ⟨#[]⟩] 52) = w1 at *
  obtain ⟨A1, A2, r1, r2, C1⟩ := icut_yi A n c 8 8 rfl l w1 (ha.below b1 (Nat.le_refl _)) hw8 hcap
  refine C1.mono ?_
  rintro e w2 ⟨rfl, h2⟩
  clear C1
  have b2 := bchain b1 h2
  have B2 := B1.up h2
  have r1b : Rd8 w2 w2.heap.size A1 8 (l.take 8) := (r1.below h2 b1.size).more b2.size
  have r2b : Rd8 w2 w.heap.size A2 (n - 8) (l.drop 8) := r2.below h2 b1.size
  clear r1 r2 h2 B1 b1
  go_wp2_with fail
  have R := readHead_c A1 8 (l.take 8) w2 r1b (Nat.le_refl _)
  rw [hdk_take, hdt_take, hdc_take, hdl_take] at R
  refine R.mono ?_
  rintro e w3 ⟨rfl, h3⟩
  clear R
  have b3 := bchain b2 h3
  have B3 := B2.up h3
  have r3 := r2b.below h3 b2.size
  clear r1b r2b h3 B2 b2
  obtain ⟨X3, x3⟩ := new_item w3 52
  obtain ⟨w4, hw4⟩ : ∃ x, x = (w3.alloc (.cells #[.int .i64 0, .int .i64 0, .int .i64 0, .string ⟨#[]⟩] 52)).setCells w3.heap.size 0 [.int .i64 (hdk l : Nat), .int .i64 (hdt l : Nat), .int .i64 (hdc l : Nat), .string (sb [])] := ⟨_, rfl⟩
  obtain ⟨X4, x4, _, _⟩ := own_whole [.int .i64 (hdk l : Nat), .int .i64 (hdt l : Nat), .int .i64 (hdc l : Nat), .string (sb [])] X3 rfl x3 (Nat.le_refl _)
  rw [← hw4] at X4 x4
  have b4 := bchain b3 x4
  have B4 := B3.up x4
  have r4 := r3.below x4 b3.size
  have hx4 : w.heap.size ≠ w3.heap.size := by have := B3.size; omega
  go_wp2_with (refine wpList_store_to rfl 52 (.tmp 7) (.tmp 23) rfl w3.heap.size 0 [.int .i64 (hdk l : Nat), .int .i64 (hdt l : Nat), .int .i64 (hdc l : Nat), .string (sb [])] w4 hw4 rfl rfl (X3.there 0 4 (by simp)) sizeIt (oneIt _ _ _ _) ?_; clear hw4 X3)
  obtain ⟨A3, A4, r5, r6, C5⟩ := icut_y A2 (n - 8) (c - 8) (hdl l) (l.drop 8) w4 r4 (by omega) (by omega)
  refine C5.mono ?_
  rintro e w5 ⟨rfl, h5⟩
  clear C5
  have b5 := bchain b4 h5
  have B5 := B4.up h5
  have X5 := X4.up h5
  have r5b : Rd8 w5 w.heap.size A3 (hdl l) (lab l) := r5.below h5 b4.size
  have r6b : Rd8 w5 w.heap.size A4 (n - 8 - hdl l) (l.drop (8 + hdl l)) := by
    have := r6.below h5 b4.size
    rw [List.drop_drop] at this
    exact this
  have cv := conv_s r5b (hdl l)
  have hfz := X5.frozen 3
  obtain ⟨_, _, _, f3⟩ := X5.four
  have b6 : Below w.heap.size w (w5.setCell ⟨w3.heap.size, 3, none⟩ (.string (sb (lab l)))) := b5.setCell (by have := b3.size; exact this) _
  have X6 : BlkV (w5.setCell ⟨w3.heap.size, 3, none⟩ (.string (sb (lab l)))) w3.heap.size 52 [.int .i64 (hdk l : Nat), .int .i64 (hdt l : Nat), .int .i64 (hdc l : Nat), .string (sb (lab l))] := X5.set 3 (.string (sb (lab l)))
  have B6 : BlkV (w5.setCell ⟨w3.heap.size, 3, none⟩ (.string (sb (lab l)))) w.heap.size 52 [.int .i64 0, .int .i64 0, .int .i64 0, .string ⟨#[]⟩] := B5.other hx4
  have b56 : Below w.heap.size w5 (w5.setCell ⟨w3.heap.size, 3, none⟩ (.string (sb (lab l)))) := (Below.refl _ _).setCell (by have := b3.size; exact this) _
  have r6c := r6b.below b56 (Nat.le_refl _)
  clear r5 r6 r5b r6b b56 h5 B4 X4 B5 b4 r4 r3 x4 B3
  go_wp2_with fail
  generalize w5.setCell ⟨w3.heap.size, 3, none⟩ (.string (sb (lab l))) = w6 at *
  have hsl : (sb (lab l)).size = hdl l := by
    rw [← bl_len, bl_sb (show allLt8 (lab l) from (ha.lt.drop 8).take _)]
    unfold lab
    rw [List.length_take, List.length_drop]
    omega
  have hl16 := hdl_lt ha.lt
  have K := icheck_c (hdk l : Nat) (hdt l : Nat) (hdc l : Nat) (sb (lab l)) w6 (by omega)
  rw [hsl] at K
  rw [hz] at K
  refine K.mono ?_
  rintro e w7 ⟨rfl, h7⟩
  clear K
  have b7 := bchain b6 h7
  have B7 := B6.up h7
  have X7 := X6.up h7
  have r7 := r6c.below h7 b6.size
  have b7d : Below w.heap.size w7 w7.drew := (Below.refl _ _).drew
  clear h7 b6 B6 X6 r6c
  go_wp2
  refine wp_region_held_drew (S := fun v => BlkV v w3.heap.size 52 [.int .i64 (hdk l : Nat), .int .i64 (hdt l : Nat), .int .i64 (hdc l : Nat), .string (sb (lab l))]) (by kernel_rfl) X7.drew (fun hHeld => ?_)
  refine wpAnyH_take (i := 0) (v := .agg ([.int .i64 (hdk l : Nat), .int .i64 (hdt l : Nat), .int .i64 (hdc l : Nat), .string (sb (lab l))]).toArray) rfl (by kernel_rfl) (by kernel_rfl) (by kernel_rfl) (fun _ _ _ h => h) (yieldsIf_load_mid (by rfl) 52 (.tmp 7) rfl (w3.heap.size) 0 rfl ([.int .i64 (hdk l : Nat), .int .i64 (hdt l : Nat), .int .i64 (hdc l : Nat), .string (sb (lab l))]) _ (fun v hv => hv.range) Try.underlying52 rfl sizeIt) (by with_reducible assumption) ?_
  simp only [Act.put, List.setIfInBounds_toArray, List.set_cons_zero, List.set_cons_succ, List.getElem_toArray, List.getElem_cons_zero, List.getElem_cons_succ]
  refine wpAnyH_take (i := 1) (v := ?_) rfl (by kernel_rfl) (by kernel_rfl) (by kernel_rfl) (fun _ _ _ h => h) (Or.inl ⟨by rfl, fun v hv => ?_⟩) (by with_reducible assumption) ?_
  rotate_left
  · go_simp
    try with_reducible rfl
  simp only [Act.put, List.setIfInBounds_toArray, List.set_cons_zero, List.set_cons_succ, List.getElem_toArray, List.getElem_cons_zero, List.getElem_cons_succ]
  refine wpAnyH_ready (rs := [2]) (by kernel_rfl) (by simp) ?_
  refine AllReadyH.cons rfl (fun K hK => ?_) AllReadyH.nil
  go_simp
  go_at_call 45
  with_reducible refine (copyOf_c A4 (n - 8 - hdl l) (c - 8 - hdl l) (l.drop (8 + hdl l)) w7.drew (r7.below b7d (Nat.le_refl _)) (by omega)).mono ?_
  rintro e w8 ⟨A5, rfl, r8, p8, h8⟩
  have X8 := X7.drew.up h8
  have B8 := B7.drew.up h8
  have b8 := bchain b7.drew h8
  dsimp only
  refine hK.out _ _ X8 (fun hHeld => ?_)
  clear hK K
  try simp only [Act.put, List.setIfInBounds_toArray, List.set_cons_zero, List.set_cons_succ, List.getElem_toArray, List.getElem_cons_zero, List.getElem_cons_succ]
  obtain ⟨w9, hw9⟩ : ∃ x, x = w8.setCells w.heap.size 0 [.int .i64 (hdk l : Nat), .int .i64 (hdt l : Nat), .int .i64 (hdc l : Nat), .string (sb (lab l))] := ⟨_, rfl⟩
  obtain ⟨B9, b9, s9, o9⟩ := own_whole [.int .i64 (hdk l : Nat), .int .i64 (hdt l : Nat), .int .i64 (hdc l : Nat), .string (sb (lab l))] B8 rfl b8 (Nat.le_refl _)
  rw [← hw9] at B9 b9 s9 o9
  have X9 : BlkV w9 w3.heap.size 52 [.int .i64 (hdk l : Nat), .int .i64 (hdt l : Nat), .int .i64 (hdc l : Nat), .string (sb (lab l))] := ⟨(o9 _ (Ne.symm hx4)).trans X8.heap⟩
  have r9 := r8.keepO o9 s9 (fun x hx => by have h1 := p8 x hx; have h2 : w7.drew.heap.size = w7.heap.size := rfl; have h3 := B7.size; omega)
  refine wpAnyH_ready (rs := [3]) (by kernel_rfl) (by simp) ?_
  refine AllReadyH.cons rfl (fun K hK => ?_) AllReadyH.nil
  refine ready_go (by rfl) ?_
  refine wp_store_to 52 (.tmp 2) (.tmp 44) rfl w.heap.size 0 [.int .i64 (hdk l : Nat), .int .i64 (hdt l : Nat), .int .i64 (hdc l : Nat), .string (sb (lab l))] w9 hw9 rfl rfl (B8.there 0 4 (by simp)) sizeIt (oneIt _ _ _ _) ?_
  refine hK.out _ _ X9 (fun hHeld => ?_)
  clear hK K
  try simp only [Act.put, List.setIfInBounds_toArray, List.set_cons_zero, List.set_cons_succ, List.getElem_toArray, List.getElem_cons_zero, List.getElem_cons_succ]
  refine wpAnyH_take (i := 4) (v := ?_) rfl (by kernel_rfl) (by kernel_rfl) (by kernel_rfl) (fun _ _ _ h => h) (Or.inl ⟨by rfl, fun v hv => ?_⟩) (by with_reducible assumption) ?_
  rotate_left
  · go_simp
    try with_reducible rfl
  simp only [Act.put, List.setIfInBounds_toArray, List.set_cons_zero, List.set_cons_succ, List.getElem_toArray, List.getElem_cons_zero, List.getElem_cons_succ]
  refine wpAnyH_take (i := 5) (v := ?_) rfl (by kernel_rfl) (by kernel_rfl) (by kernel_rfl) (fun _ _ _ h => h) (Or.inl ⟨by rfl, fun v hv => ?_⟩) (by with_reducible assumption) ?_
  rotate_left
  · go_simp
    try with_reducible rfl
  simp only [Act.put, List.setIfInBounds_toArray, List.set_cons_zero, List.set_cons_succ, List.getElem_toArray, List.getElem_cons_zero, List.getElem_cons_succ]
  refine wpAnyH_done (by kernel_rfl) ?_ _
  clear hw9 X8 B8 b8 r8 p8 hHeld
  go_wp2
  refine bodyPost_ret (results_cell_tmps Try.results39 ⟨w.heap.size, 0, none⟩ _ _ _ rfl (run_loadVar_mid _ w.heap.size 0 52 _ _ B9.range Try.underlying52 rfl sizeIt) rfl rfl) rfl ?_
  exact ⟨A5, rfl, r9, b9⟩
end Go.Proofs.Ytokfldecjknamaa
