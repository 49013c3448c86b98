/-
  avouchref12.Encode: what the call does.
-/
import Derived.Test.YtokfldecjknamaaItD
import Derived.Deep.RegionHeld3
namespace Go.Proofs.Ytokfldecjknamaa
open Go.RowKit
set_option linter.unusedVariables false
set_option linter.unusedSimpArgs false

theorem BlkV.keptG {w w' : World} {b : Nat} {t : TypeId} {vs : List Value} {row : Option Nat} (h : BlkV w b t vs) (hg : w.grownBy w' row) (hr : ∀ k, row = some k → k ≠ b) : BlkV w' b t vs :=
  ⟨(hg.block b h.size fun e => hr b e.symm rfl).trans h.heap⟩
theorem OwnB.eq {w : World} {base : Nat} {v : Value} {l l' : List Nat} (h : OwnB w base v l) (e : l = l') : OwnB w base v l' := e ▸ h
theorem refNumber_i (N width : Nat) (V : Int) (hV : V = (width : Int)) (w : World) (hN : N < 9223372036854775808) (hw : width ≤ 8) :
    Calls Try.prog 34 #[.int .i64 (N : Int), .int .i64 V] w fun e w' => ∃ v, e = .returned v ∧ OwnB w' w.heap.size v (le width N) ∧ Below w.heap.size w w' := hV ▸ refNumber_c N width w hN hw
theorem rencode_err (k t c : Int) (s : ByteArray) (w : World) (hs : s.size ≤ 9223372036854775807) (h : ck k t c s.size ≠ 0) :
    Calls Try.prog 21 #[.agg #[.int .i64 k, .int .i64 t, .int .i64 c, .string s]] w fun e w' => e = .returned (.tuple #[.slice none 0 0, .int .i64 (ck k t c s.size : Nat)]) ∧ Below w.heap.size w w' := by
  have C := fun w => rcheck_c k t c s w hs
  generalize ck k t c s.size = r at *
  have hr : ((r : Int) == 0) = false := by simp; omega
  go_enter Try.func21, Try.ntmps21
  go_wp2_with fail
  refine (C _).mono ?_
  rintro e w1 ⟨rfl, hb⟩
  have hb1 : Below w.heap.size w w1 := ((Below.refl _ _).alloc (Nat.le_refl _) _).trans (hb.mono (by simp))
  clear C
  go_wp2
  go_ret2
  exact ⟨rfl, hb1⟩

set_option maxRecDepth 100000 in
set_option maxHeartbeats 2000000 in
theorem rencode_ok (k t c : Nat) (s : ByteArray) (w : World) (h : ck k t c s.size = 0) :
    Calls Try.prog 21 #[.agg #[.int .i64 (k : Int), .int .i64 (t : Int), .int .i64 (c : Int), .string s]] w fun e w' => ∃ v, e = .returned (.tuple #[v, .int .i64 0]) ∧ OwnB w' w.heap.size v (itb k t c (bl s)) ∧ Below w.heap.size w w' := by
  obtain ⟨h1, h2, h3, h4, h5, h6, h7⟩ := ck_ok h
  have C := fun w => rcheck_c k t c s w (by omega)
  rw [h] at C
  have n0 : 0 ≤ (s.size : Int) := by omega
  have n1 : (s.size : Int) ≤ 255 := by omega
  go_enter Try.func21, Try.ntmps21
  go_wp2_with fail
  refine (C _).mono ?_
  rintro e w1 ⟨rfl, hb⟩
  have B0 : BlkV w1 w.heap.size 25 [.int .i64 (k : Int), .int .i64 (t : Int), .int .i64 (c : Int), .string s] := (BlkV.new w _ _).up hb
  have hb1 : Below w.heap.size w w1 := ((Below.refl _ _).alloc (Nat.le_refl _) _).trans (hb.mono (by simp))
  have hlt := B0.size
  clear C hb
  go_wp2
  have zD := B0.drew
  have bD := hb1.drew
  refine wp_region_held_drew (S := fun v => BlkV v w.heap.size 25 [.int .i64 (k : Int), .int .i64 (t : Int), .int .i64 (c : Int), .string s]) (by kernel_rfl) zD (fun hHeld => ?_)
  refine wpAnyH_take (i := 0) (v := ?_) rfl (by kernel_rfl) (by kernel_rfl) (by kernel_rfl) (fun _ _ _ h => h) (Or.inl ⟨by rfl, fun v hv => ?_⟩) (by with_reducible assumption) ?_
  rotate_left
  · go_simp
    try with_reducible rfl
  simp only [Act.put, List.setIfInBounds_toArray, List.set_cons_zero, List.set_cons_succ, List.getElem_toArray, List.getElem_cons_zero, List.getElem_cons_succ]
  refine wpAnyH_take (i := 1) (v := ?_) rfl (by kernel_rfl) (by kernel_rfl) (by kernel_rfl) (fun _ _ _ h => h) (Or.inl ⟨by rfl, fun v hv => ?_⟩) (by with_reducible assumption) ?_
  rotate_left
  · have hcc := (BlkV.four hv).1
    go_simp
    try with_reducible rfl
  simp only [Act.put, List.setIfInBounds_toArray, List.set_cons_zero, List.set_cons_succ, List.getElem_toArray, List.getElem_cons_zero, List.getElem_cons_succ]
  refine wpAnyH_take (i := 3) (v := ?_) rfl (by kernel_rfl) (by kernel_rfl) (by kernel_rfl) (fun _ _ _ h => h) (Or.inl ⟨by rfl, fun v hv => ?_⟩) (by with_reducible assumption) ?_
  rotate_left
  · go_simp
    try with_reducible rfl
  simp only [Act.put, List.setIfInBounds_toArray, List.set_cons_zero, List.set_cons_succ, List.getElem_toArray, List.getElem_cons_zero, List.getElem_cons_succ]
  refine wpAnyH_take (i := 4) (v := ?_) rfl (by kernel_rfl) (by kernel_rfl) (by kernel_rfl) (fun _ _ _ h => h) (Or.inl ⟨by rfl, fun v hv => ?_⟩) (by with_reducible assumption) ?_
  rotate_left
  · have hcc := (BlkV.four hv).2.1
    go_simp
    try with_reducible rfl
  simp only [Act.put, List.setIfInBounds_toArray, List.set_cons_zero, List.set_cons_succ, List.getElem_toArray, List.getElem_cons_zero, List.getElem_cons_succ]
  refine wpAnyH_ready (rs := [2]) (by kernel_rfl) (by simp) ?_
  refine (AllReadyH.cons rfl (fun K hK => ?_) AllReadyH.nil)
  have ll131 : w.heap.size + 1 ≤ (w1.drew).heap.size := (zD).size
  go_simp
  go_at_call 34
  with_reducible refine (refNumber_i k 1 1 rfl w1.drew (by omega) (by decide)).mono ?_
  rintro e u1 ⟨v13, rfl, o1, b1⟩
  have le1 := (bD).size
  have z_1 := (zD).up b1
  have b_1 := bchain bD b1
  dsimp only
  refine hK.out _ _ z_1 (fun hHeld => ?_)
  clear hK K
  try simp only [Act.put, List.setIfInBounds_toArray, List.set_cons_zero, List.set_cons_succ, List.getElem_toArray, List.getElem_cons_zero, List.getElem_cons_succ]
  refine wpAnyH_ready (rs := [5]) (by kernel_rfl) (by simp) ?_
  refine (AllReadyH.cons rfl (fun K hK => ?_) AllReadyH.nil)
  have lt132 := (o1).blk_lt
  have ll162 : w.heap.size + 1 ≤ (u1).heap.size := (z_1).size
  go_simp
  go_at_call 34
  with_reducible refine (refNumber_i t 1 1 rfl u1 (by omega) (by decide)).mono ?_
  rintro e u2 ⟨v16, rfl, o2, b2⟩
  have le2 := (b_1).size
  have z_2 := (z_1).up b2
  have b_2 := bchain b_1 b2
  have o13_2 := (o1).up b2
  dsimp only
  refine hK.out _ _ z_2 (fun hHeld => ?_)
  clear hK K
  try simp only [Act.put, List.setIfInBounds_toArray, List.set_cons_zero, List.set_cons_succ, List.getElem_toArray, List.getElem_cons_zero, List.getElem_cons_succ]
  refine wpAnyH_ready (rs := [6]) (by kernel_rfl) (by simp) ?_
  refine (AllReadyH.cons rfl (fun K hK => ?_) AllReadyH.nil)
  obtain ⟨A3, c3, e3, _, r3⟩ := (o2).rd
  have hx3 := (by simp [le_len] : (le 1 k).length + (le 1 t).length ≤ 1000000)
  have hs3 := (o13_2).own.1
  refine ready_go (by rfl) ?_
  refine wp_append_rd (.tmp 13) (.tmp 16) rfl (w1.drew.heap.size) v13 _ rfl o13_2 A3 _ c3 _ _ r3 e3 hx3 (Nat.le_trans b1.size b2.size) ?_
  intro v17 u3 o3 g3
  have b3 := (OwnB.below (row := none) o13_2 g3 (Nat.le_trans (Nat.le_succ _) (ll131)) (b_2).size)
  have z_3 := (z_2).keptG g3 (fun q hq => by have := ((o13_2).own.lt q hq).1; have := ll131; omega)
  have b_3 := (b_2).trans b3
  skip
  refine hK.out _ _ z_3 (fun hHeld => ?_)
  clear hK K
  try simp only [Act.put, List.setIfInBounds_toArray, List.set_cons_zero, List.set_cons_succ, List.getElem_toArray, List.getElem_cons_zero, List.getElem_cons_succ]
  refine wpAnyH_take (i := 7) (v := ?_) rfl (by kernel_rfl) (by kernel_rfl) (by kernel_rfl) (fun _ _ _ h => h) (Or.inl ⟨by rfl, fun v hv => ?_⟩) (by with_reducible assumption) ?_
  rotate_left
  · go_simp
    try with_reducible rfl
  simp only [Act.put, List.setIfInBounds_toArray, List.set_cons_zero, List.set_cons_succ, List.getElem_toArray, List.getElem_cons_zero, List.getElem_cons_succ]
  refine wpAnyH_done (by kernel_rfl) ?_ _
  have Z := z_3
  have B := b_3
  have O : OwnB u3 (w.heap.size + 1) v17 [k, t] := (o3.more ll131).eq (by simp [le]; omega)
  clear hHeld
  generalize u3 = x4 at *
  clear z_1 o2 o3 b_1 z_3 b_2 o1 z_2 b_3
  go_wp2
  have ZD := Z.drew
  have BD := B.drew
  have OD := O.drew
  refine wp_region_held_drew (S := fun v => BlkV v w.heap.size 25 [.int .i64 (k : Int), .int .i64 (t : Int), .int .i64 (c : Int), .string s]) (by kernel_rfl) ZD (fun hHeld => ?_)
  refine wpAnyH_take (i := 0) (v := ?_) rfl (by kernel_rfl) (by kernel_rfl) (by kernel_rfl) (fun _ _ _ h => h) (Or.inl ⟨by rfl, fun v hv => ?_⟩) (by with_reducible assumption) ?_
  rotate_left
  · go_simp
    try with_reducible rfl
  simp only [Act.put, List.setIfInBounds_toArray, List.set_cons_zero, List.set_cons_succ, List.getElem_toArray, List.getElem_cons_zero, List.getElem_cons_succ]
  refine wpAnyH_take (i := 1) (v := ?_) rfl (by kernel_rfl) (by kernel_rfl) (by kernel_rfl) (fun _ _ _ h => h) (Or.inl ⟨by rfl, fun v hv => ?_⟩) (by with_reducible assumption) ?_
  rotate_left
  · go_simp
    try with_reducible rfl
  simp only [Act.put, List.setIfInBounds_toArray, List.set_cons_zero, List.set_cons_succ, List.getElem_toArray, List.getElem_cons_zero, List.getElem_cons_succ]
  refine wpAnyH_take (i := 2) (v := ?_) rfl (by kernel_rfl) (by kernel_rfl) (by kernel_rfl) (fun _ _ _ h => h) (Or.inl ⟨by rfl, fun v hv => ?_⟩) (by with_reducible assumption) ?_
  rotate_left
  · have hcc := (BlkV.four hv).2.2.1
    go_simp
    try with_reducible rfl
  simp only [Act.put, List.setIfInBounds_toArray, List.set_cons_zero, List.set_cons_succ, List.getElem_toArray, List.getElem_cons_zero, List.getElem_cons_succ]
  refine wpAnyH_take (i := 5) (v := ?_) rfl (by kernel_rfl) (by kernel_rfl) (by kernel_rfl) (fun _ _ _ h => h) (Or.inl ⟨by rfl, fun v hv => ?_⟩) (by with_reducible assumption) ?_
  rotate_left
  · go_simp
    try with_reducible rfl
  simp only [Act.put, List.setIfInBounds_toArray, List.set_cons_zero, List.set_cons_succ, List.getElem_toArray, List.getElem_cons_zero, List.getElem_cons_succ]
  refine wpAnyH_take (i := 6) (v := ?_) rfl (by kernel_rfl) (by kernel_rfl) (by kernel_rfl) (fun _ _ _ h => h) (Or.inl ⟨by rfl, fun v hv => ?_⟩) (by with_reducible assumption) ?_
  rotate_left
  · have hcc := (BlkV.four hv).2.2.2
    go_simp
    try with_reducible rfl
  simp only [Act.put, List.setIfInBounds_toArray, List.set_cons_zero, List.set_cons_succ, List.getElem_toArray, List.getElem_cons_zero, List.getElem_cons_succ]
  refine wpAnyH_take (i := 7) (v := ?_) rfl (by kernel_rfl) (by kernel_rfl) (by kernel_rfl) (fun _ _ _ h => h) (Or.inl ⟨by rfl, fun v hv => ?_⟩) (by with_reducible assumption) ?_
  rotate_left
  · go_simp
    try with_reducible rfl
  simp only [Act.put, List.setIfInBounds_toArray, List.set_cons_zero, List.set_cons_succ, List.getElem_toArray, List.getElem_cons_zero, List.getElem_cons_succ]
  refine wpAnyH_ready (rs := [3]) (by kernel_rfl) (by simp) ?_
  refine (AllReadyH.cons rfl (fun K hK => ?_) AllReadyH.nil)
  have lt511 := (OD).blk_lt
  have ll2111 : w.heap.size + 1 ≤ (x4.drew).heap.size := (ZD).size
  go_simp
  go_at_call 34
  with_reducible refine (refNumber_i c 4 4 rfl x4.drew (by omega) (by decide)).mono ?_
  rintro e u11 ⟨v21, rfl, o11, b11⟩
  have le11 := (BD).size
  have z_11 := (ZD).up b11
  have b_11 := bchain BD b11
  have o5_11 := (OD).up b11
  dsimp only
  refine hK.out _ _ z_11 (fun hHeld => ?_)
  clear hK K
  try simp only [Act.put, List.setIfInBounds_toArray, List.set_cons_zero, List.set_cons_succ, List.getElem_toArray, List.getElem_cons_zero, List.getElem_cons_succ]
  refine wpAnyH_ready (rs := [4]) (by kernel_rfl) (by simp) ?_
  refine (AllReadyH.cons rfl (fun K hK => ?_) AllReadyH.nil)
  obtain ⟨A12, c12, e12, _, r12⟩ := (o11).rd
  have hx12 := (by simp [le_len] : ([k, t] : List Nat).length + (le 4 c).length ≤ 1000000)
  have hs12 := (o5_11).own.1
  refine ready_go (by rfl) ?_
  refine wp_append_rd (.tmp 18) (.tmp 21) rfl ((w.heap.size + 1)) v17 _ rfl o5_11 A12 _ c12 _ _ r12 e12 hx12 (Nat.le_trans ZD.size b11.size) ?_
  intro v22 u12 o12 g12
  have b12 := (OwnB.below (row := none) o5_11 g12 (Nat.le_trans (Nat.le_succ _) ((Nat.le_refl (w.heap.size + 1)))) (b_11).size)
  have z_12 := (z_11).keptG g12 (fun q hq => by have := ((o5_11).own.lt q hq).1; have := (Nat.le_refl (w.heap.size + 1)); omega)
  have b_12 := (b_11).trans b12
  skip
  refine hK.out _ _ z_12 (fun hHeld => ?_)
  clear hK K
  try simp only [Act.put, List.setIfInBounds_toArray, List.set_cons_zero, List.set_cons_succ, List.getElem_toArray, List.getElem_cons_zero, List.getElem_cons_succ]
  refine wpAnyH_ready (rs := [8]) (by kernel_rfl) (by simp) ?_
  refine (AllReadyH.cons rfl (fun K hK => ?_) AllReadyH.nil)
  have lt2213 := (o12).blk_lt
  have ll2613 : w.heap.size + 1 ≤ (u12).heap.size := (z_12).size
  go_simp
  go_at_call 34
  with_reducible refine (refNumber_i s.size 2 2 rfl u12 (by omega) (by decide)).mono ?_
  rintro e u13 ⟨v26, rfl, o13, b13⟩
  have le13 := (b_12).size
  have z_13 := (z_12).up b13
  have b_13 := bchain b_12 b13
  have o22_13 := (o12).up b13
  dsimp only
  refine hK.out _ _ z_13 (fun hHeld => ?_)
  clear hK K
  try simp only [Act.put, List.setIfInBounds_toArray, List.set_cons_zero, List.set_cons_succ, List.getElem_toArray, List.getElem_cons_zero, List.getElem_cons_succ]
  refine wpAnyH_ready (rs := [9]) (by kernel_rfl) (by simp) ?_
  refine (AllReadyH.cons rfl (fun K hK => ?_) AllReadyH.nil)
  obtain ⟨A14, c14, e14, _, r14⟩ := (o13).rd
  have hx14 := (by simp [le_len] : ([k, t] ++ le 4 c).length + (le 2 s.size).length ≤ 1000000)
  have hs14 := (o22_13).own.1
  refine ready_go (by rfl) ?_
  refine wp_append_rd (.tmp 22) (.tmp 26) rfl ((w.heap.size + 1)) v22 _ rfl o22_13 A14 _ c14 _ _ r14 e14 hx14 (Nat.le_trans (Nat.le_trans (Nat.le_trans ZD.size b11.size) g12.size) b13.size) ?_
  intro v27 u14 o14 g14
  have b14 := (OwnB.below (row := none) o22_13 g14 (Nat.le_trans (Nat.le_succ _) ((Nat.le_refl (w.heap.size + 1)))) (b_13).size)
  have z_14 := (z_13).keptG g14 (fun q hq => by have := ((o22_13).own.lt q hq).1; have := (Nat.le_refl (w.heap.size + 1)); omega)
  have b_14 := (b_13).trans b14
  skip
  refine hK.out _ _ z_14 (fun hHeld => ?_)
  clear hK K
  try simp only [Act.put, List.setIfInBounds_toArray, List.set_cons_zero, List.set_cons_succ, List.getElem_toArray, List.getElem_cons_zero, List.getElem_cons_succ]
  refine wpAnyH_take (i := 10) (v := ?_) rfl (by kernel_rfl) (by kernel_rfl) (by kernel_rfl) (fun _ _ _ h => h) (Or.inl ⟨by rfl, fun v hv => ?_⟩) (by with_reducible assumption) ?_
  rotate_left
  · go_simp
    try with_reducible rfl
  simp only [Act.put, List.setIfInBounds_toArray, List.set_cons_zero, List.set_cons_succ, List.getElem_toArray, List.getElem_cons_zero, List.getElem_cons_succ]
  refine wpAnyH_done (by kernel_rfl) ?_ _
  have Z5 := z_14
  have B5 := b_14
  have O5 : OwnB u14 (w.heap.size + 1) v27 ([k, t] ++ le 4 c ++ le 2 s.size) := o14
  clear hHeld
  generalize u14 = x5 at *
  clear Z B O ZD BD OD
  obtain ⟨d0, d1, d2, d3⟩ := Z5.four
  obtain ⟨cc, x6, hcv, r6, b6⟩ := conv_b s x5
  have O6 := O5.up b6
  have B6 := bchain B5 b6
  have s6 := Nat.le_trans Z5.size b6.size
  have l6 : ([k, t] ++ le 4 c ++ le 2 s.size).length + s.size ≤ 1000000 := by rw [List.length_append, List.length_append, le_len, le_len]; simp; omega
  go_wp2_with (at_builtin; refine append_rd rfl (.tmp 28) (.tmp 31) rfl (w.heap.size + 1) v27 _ rfl O6 (some ⟨x5.heap.size, 0, none⟩) s.size cc _ _ r6 rfl l6 s6 ?_)
  intro v7 x7 O7 b7
  have B7 := B6.trans (b7.mono (Nat.le_succ _))
  have E : k :: t :: (le 4 c ++ (le 2 s.size ++ bl s)) = itb k t c (bl s) := by unfold itb; rw [bl_len]; simp
  clear O5 O6 r6 hcv b6 b7 B6 B5 Z5
  go_wp2
  go_ret2
  exact ⟨_, rfl, (O7.eq E).more (Nat.le_succ _), B7⟩
end Go.Proofs.Ytokfldecjknamaa
