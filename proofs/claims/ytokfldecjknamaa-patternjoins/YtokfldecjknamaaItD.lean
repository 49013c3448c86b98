/-
  item.Encode: what the call does.
-/
import Derived.Test.YtokfldecjknamaaItB
import Derived.Test.YtokfldecjknamaaItC
import Derived.Test.YtokfldecjknamaaBlkV
namespace Go.Proofs.Ytokfldecjknamaa
open Go.RowKit
set_option linter.unusedVariables false

/-- An item's bytes. -/
def itb (k t c : Nat) (l : List Nat) : List Nat := [k, t] ++ le 4 c ++ le 2 l.length ++ l
theorem itb_len (k t c : Nat) (l : List Nat) : (itb k t c l).length = 8 + l.length := by
  unfold itb
  rw [List.length_append, List.length_append, List.length_append, le_len, le_len]
  rfl
theorem BlkV.four {w : World} {b : Nat} {t : TypeId} {a0 a1 a2 a3 : Value} (h : BlkV w b t [a0, a1, a2, a3]) :
    w.cell? ⟨b, 0, none⟩ = some a0 ∧ w.cell? ⟨b, 1, none⟩ = some a1 ∧ w.cell? ⟨b, 2, none⟩ = some a2 ∧ w.cell? ⟨b, 3, none⟩ = some a3 :=
  ⟨h.cell (i := 0) (by simp), h.cell (i := 1) (by simp), h.cell (i := 2) (by simp), h.cell (i := 3) (by simp)⟩
theorem wrap8 {k : Nat} (h : k < 256) : IntKind.u8.wrap (k : Int) = (k : Int) := by
  rw [IntKind.wrap_u8]; omega

set_option maxRecDepth 100000 in
set_option maxHeartbeats 2000000 in
theorem iencode_err (k t c : Int) (s : ByteArray) (w : World) (hs : s.size ≤ 9223372036854775807) (h : ck k t c s.size ≠ 0) :
    Calls Try.prog 38 #[.agg #[.int .i64 k, .int .i64 t, .int .i64 c, .string s]] w fun e w' => e = .returned (.tuple #[.slice none 0 0, .int .i64 (ck k t c s.size : Nat)]) ∧ Below w.heap.size w w' := by
  have C := fun w => icheck_c k t c s w hs
  generalize ck k t c s.size = r at *
  have hr : ((r : Int) == 0) = false := by simp; omega
  go_enter Try.func38, Try.ntmps38
  go_wp2_with fail
  refine (C _).mono ?_
  rintro e w1 ⟨rfl, hb⟩
  have hb1 : Below w.heap.size w w1 := ((Below.refl _ _).alloc (Nat.le_refl _) _).trans (hb.mono (by simp))
  clear C
  go_wp2
  go_ret2
  exact ⟨rfl, hb1⟩

set_option maxRecDepth 100000 in
set_option maxHeartbeats 2000000 in
theorem iencode_ok (k t c : Nat) (s : ByteArray) (w : World) (h : ck k t c s.size = 0) :
    Calls Try.prog 38 #[.agg #[.int .i64 (k : Int), .int .i64 (t : Int), .int .i64 (c : Int), .string s]] w fun e w' => ∃ v, e = .returned (.tuple #[v, .int .i64 0]) ∧ OwnB w' w.heap.size v (itb k t c (bl s)) ∧ Below w.heap.size w w' := by
  obtain ⟨h1, h2, h3, h4, h5, h6, h7⟩ := ck_ok h
  have C := fun w => icheck_c k t c s w (by omega)
  rw [h] at C
  have hmk := make8I 0 (8 + s.size) (Nat.zero_le _) (by omega) 0 (8 + (s.size : Int)) rfl (by omega)
  have n0 : 0 ≤ (s.size : Int) := by omega
  have n1 : (s.size : Int) ≤ 255 := by omega
  go_enter Try.func38, Try.ntmps38
  go_wp2_with fail
  refine (C _).mono ?_
  rintro e w1 ⟨rfl, hb⟩
  have B0 : BlkV w1 w.heap.size 52 [.int .i64 (k : Int), .int .i64 (t : Int), .int .i64 (c : Int), .string s] := (BlkV.new w _ _).up hb
  have hb1 : Below w.heap.size w w1 := ((Below.refl _ _).alloc (Nat.le_refl _) _).trans (hb.mono (by simp))
  have hlt := B0.size
  obtain ⟨c0, c1, c2, c3⟩ := B0.four
  have k8 := wrap8 (k := k) (by omega)
  have t8 := wrap8 (k := t) (by omega)
  have O1 := ownB_made w1 (8 + s.size) (by omega)
  clear C hb
  have hkt : allLt8 [k, t] := by intro x hx; simp only [List.mem_cons, List.not_mem_nil, or_false] at hx; omega
  have hcell : ∀ i, i < [k, t].length → ((w1.alloc (.cells (zeros8 (8 + s.size)) 5)).alloc (.cells #[.int .u8 (k : Int), .int .u8 (t : Int)] 5)).cell? ⟨w1.heap.size + 1, i, none⟩ = some (.int .u8 (at64 [k, t] i)) := by
    intro i hi
    have hB := BlkV.new (w1.alloc (.cells (zeros8 (8 + s.size)) 5)) 5 [.int .u8 (k : Int), .int .u8 (t : Int)]
    rw [show (w1.alloc (.cells (zeros8 (8 + s.size)) 5)).heap.size = w1.heap.size + 1 by simp] at hB
    rcases (show i = 0 ∨ i = 1 by simp at hi; omega) with rfl | rfl
    · exact hB.cell (i := 0) (by simp)
    · exact hB.cell (i := 1) (by simp)
  have A1 := O1.alloc (.cells #[.int .u8 (k : Int), .int .u8 (t : Int)] 5)
  go_wp2_with (at_builtin; refine append_bytes rfl (.tmp 16) (.tmp 23) rfl w1.heap.size _ [] rfl A1 (w1.heap.size + 1) 2 [k, t] hkt rfl hcell (by simp) (by simp; omega) ?_)
  intro v2 w2 O2 b2
  have hb2 : Below w1.heap.size w1 w2 := (((Below.refl _ _).alloc (Nat.le_refl _) _).alloc (by simp) _).trans b2
  have B2 := B0.up hb2
  obtain ⟨c0, c1, c2, c3⟩ := B2.four
  have hs2 := hb2.size
  clear A1 O1 hcell hkt k8 t8 b2 hmk B0
  go_wp2_with fail
  refine (appendNumber_c c 4 v2 _ w1.heap.size w2 (by omega) (by decide) (by simp) O2 hs2).mono ?_
  rintro e w3 ⟨v3, rfl, O3, b3⟩
  have B3 := B2.below b3 hlt
  obtain ⟨c0, c1, c2, c3⟩ := B3.four
  have hb3 := hb2.trans b3
  have hs3 := hb3.size
  clear O2 B2 b3 hb2 hs2
  go_wp2_with fail
  refine (appendNumber_c s.size 2 v3 _ w1.heap.size w3 (by omega) (by decide) (by rw [List.length_append, le_len]; simp) O3 hs3).mono ?_
  rintro e w4 ⟨v4, rfl, O4, b4⟩
  have B4 := B3.below b4 hlt
  obtain ⟨c0, c1, c2, c3⟩ := B4.four
  have hb4 := hb3.trans b4
  have hs4 := hb4.size
  have hl4 : (([] ++ [k, t] ++ le 4 c) ++ le 2 s.size).length + s.size ≤ 1000000 := by rw [List.length_append, List.length_append, le_len, le_len]; simp; omega
  clear O3 B3 b4 hb3 hs3
  go_wp2_with (at_builtin; refine append_str rfl (.tmp 34) (.tmp 36) rfl w1.heap.size _ _ rfl O4 s rfl hl4 hs4 ?_)
  intro v5 w5 O5 b5
  have E : k :: t :: (le 4 c ++ (le 2 s.size ++ bl s)) = itb k t c (bl s) := by unfold itb; rw [bl_len]; simp
  rw [E] at O5
  have hb5 := hb1.trans ((hb4.trans b5).mono hb1.size)
  have O6 := O5.more hb1.size
  clear O4 O5 B4 b5 hl4 hs4 E
  go_wp2
  go_ret2
  exact ⟨_, rfl, O6, hb5⟩
end Go.Proofs.Ytokfldecjknamaa
