/-
  avouchref12.Decode: what the call does.
-/
import Derived.Test.YtokfldecjknamaaItG
namespace Go.Proofs.Ytokfldecjknamaa
open Go.RowKit
set_option linter.unusedVariables false
set_option linter.unusedSimpArgs false

set_option maxRecDepth 100000 in
set_option maxHeartbeats 1000000 in
theorem rdecode_s1 (A : Option Addr) (n c : Nat) (w : World) (hn : n < 8) :
    Calls Try.prog 32 #[.slice A n c] w fun e w' => e = .returned (.tuple #[.agg #[.int .i64 0, .int .i64 0, .int .i64 0, .string ⟨#[]⟩], .slice none 0 0, .int .i64 2]) ∧ Below w.heap.size w w' := by
  obtain ⟨B1, b1⟩ := new_item w 25
  have hn' : (n : Int) < 8 := by omega
  obtain ⟨w3, hw3⟩ : ∃ x, x = (w.alloc (.cells #[.int .i64 0, .int .i64 0, .int .i64 0, .string ⟨#[]⟩] 25)).setCells w.heap.size 0 [.int .i64 0, .int .i64 0, .int .i64 0, .string ⟨#[]⟩] := ⟨_, rfl⟩
  obtain ⟨B3, b3, _, _⟩ := own_whole [.int .i64 0, .int .i64 0, .int .i64 0, .string ⟨#[]⟩] B1 rfl b1 (Nat.le_refl _)
  rw [← hw3] at B3 b3
  have HW3 := hid hw3
  clear hw3
  go_enter Try.func32, Try.ntmps32
  go_wp2_with (refine wpList_store_to rfl 25 (.tmp 2) (.tmp 20) rfl w.heap.size 0 [.int .i64 0, .int .i64 0, .int .i64 0, .string ⟨#[]⟩] w3 HW3.out rfl rfl (B1.there 0 4 (by simp)) sizeRt (oneIt _ _ _ _) ?_; clear HW3)
  refine bodyPost_ret (results_cell_tmps Try.results32 ⟨w.heap.size, 0, none⟩ _ _ _ rfl (run_loadVar_mid _ w.heap.size 0 25 _ _ B3.range Try.underlying25 rfl sizeRt) rfl rfl) rfl ?_
  exact ⟨rfl, b3⟩
set_option maxRecDepth 100000 in
set_option maxHeartbeats 1000000 in
theorem rdecode_s2 (A : Option Addr) (n c : Nat) (l : List Nat) (w : World) (ha : Rd8 w w.heap.size A n l) (hn : 8 ≤ n) (hs : n < 8 + hdl l) (hcap : n ≤ c) :
    Calls Try.prog 32 #[.slice A n c] w fun e w' => e = .returned (.tuple #[.agg #[.int .i64 0, .int .i64 0, .int .i64 0, .string ⟨#[]⟩], .slice none 0 0, .int .i64 2]) ∧ Below w.heap.size w w' := by
  obtain ⟨B1, b1⟩ := new_item w 25
  have hl16 := hdl_lt ha.lt
  have hn' : ¬ (n : Int) < 8 := by omega
  obtain ⟨A1, s1, r1⟩ := cut_lh ha c 6 8 (by decide) hn hcap 6 8 rfl rfl
  have r1 : Rd8 w w.heap.size A1 2 ((l.drop 6).take 2) := r1
  have s1 : ∀ v, (Instr.slice 28 (.slice A n c) (some (.int .i64 6)) (some (.int .i64 8)) none).run Try.prog v = .ok (.slice A1 2 (c - 6)) v := s1
  go_enter Try.func32, Try.ntmps32
  go_wp2_with fail
  generalize w.alloc (.cells #[.int .i64 0, .int .i64 0, .int .i64 0, .string ⟨#[]⟩] 25) = w1 at *
  have R := refOf_c A1 2 (c - 6) _ w1 ((r1.below b1 (Nat.le_refl _)).more b1.size) (by decide)
  refine R.mono ?_
  rintro e w2 ⟨rfl, rfl⟩
  clear R
  have hd : (n : Int) < 8 + (hdl l : Nat) := by omega
  change _ at hd
  obtain ⟨w3, hw3⟩ : ∃ x, x = w2.setCells w.heap.size 0 [.int .i64 0, .int .i64 0, .int .i64 0, .string ⟨#[]⟩] := ⟨_, rfl⟩
  obtain ⟨B3, b3, _, _⟩ := own_whole [.int .i64 0, .int .i64 0, .int .i64 0, .string ⟨#[]⟩] B1 rfl b1 (Nat.le_refl _)
  rw [← hw3] at B3 b3
  rw [show val 256 ((l.drop 6).take 2) = hdl l from rfl]
  go_wp2_with (refine wpList_store_to rfl 25 (.tmp 2) (.tmp 20) rfl w.heap.size 0 [.int .i64 0, .int .i64 0, .int .i64 0, .string ⟨#[]⟩] w3 hw3 rfl rfl (B1.there 0 4 (by simp)) sizeRt (oneIt _ _ _ _) ?_; clear hw3)
  refine bodyPost_ret (results_cell_tmps Try.results32 ⟨w.heap.size, 0, none⟩ _ _ _ rfl (run_loadVar_mid _ w.heap.size 0 25 _ _ B3.range Try.underlying25 rfl sizeRt) rfl rfl) rfl ?_
  exact ⟨rfl, b3⟩
set_option maxRecDepth 100000 in
set_option maxHeartbeats 4000000 in
theorem rdecode_err (A : Option Addr) (n c : Nat) (l : List Nat) (w : World) (ha : Rd8 w w.heap.size A n l) (hn : 8 + hdl l ≤ n) (hcap : n ≤ c) (hne : ck (hdk l) (hdt l) (hdc l) (hdl l) ≠ 0) :
    Calls Try.prog 32 #[.slice A n c] w fun e w' => e = .returned (.tuple #[.agg #[.int .i64 0, .int .i64 0, .int .i64 0, .string ⟨#[]⟩], .slice none 0 0, .int .i64 (ck (hdk l) (hdt l) (hdc l) (hdl l) : Nat)]) ∧ Below w.heap.size w w' := by
  obtain ⟨r, hr0⟩ : ∃ r, r = ck (hdk l) (hdt l) (hdc l) (hdl l) := ⟨_, rfl⟩
  rw [← hr0] at hne ⊢
  have HR0 := hid hr0
  clear hr0
  have hr : ((r : Int) == 0) = false := by simp; omega
  obtain ⟨B1, b1⟩ := new_item w 25
  have hl16 := hdl_lt ha.lt
  have hll := ha.len
  have hn' : ¬ (n : Int) < 8 := by omega
  obtain ⟨A1, s1, r1⟩ := cut_lh ha c 6 8 (by decide) (by omega) hcap 6 8 rfl rfl
  have r1 : Rd8 w w.heap.size A1 2 ((l.drop 6).take 2) := r1
  have s1 : ∀ v, (Instr.slice 28 (.slice A n c) (some (.int .i64 6)) (some (.int .i64 8)) none).run Try.prog v = .ok (.slice A1 2 (c - 6)) v := s1
  obtain ⟨A2, s2, r2⟩ := cut_lh ha c 2 6 (by decide) (by omega) hcap 2 6 rfl rfl
  have r2 : Rd8 w w.heap.size A2 4 ((l.drop 2).take 4) := r2
  have s2 : ∀ v, (Instr.slice 28 (.slice A n c) (some (.int .i64 2)) (some (.int .i64 6)) none).run Try.prog v = .ok (.slice A2 4 (c - 2)) v := s2
  obtain ⟨A3, s3, r3⟩ := cut_lh ha c 8 (8 + hdl l) (by omega) hn hcap 8 (8 + (hdl l : Nat)) rfl (by omega)
  have e3 : 8 + hdl l - 8 = hdl l := by omega
  rw [e3] at s3 r3
  have r3 : Rd8 w w.heap.size A3 (hdl l) (lab l) := r3
  have hsl : (sb (lab l)).size = hdl l := by
    rw [← bl_len, bl_sb (show allLt8 (lab l) from (ha.lt.drop 8).take _)]
    unfold lab
    rw [List.length_take, List.length_drop]
    omega
  obtain ⟨bb, off, rfl, hb, hcell⟩ := ha.cells (by omega)
  have y0 : ∀ v, Below w.heap.size w v → v.cell? ⟨bb, off, none⟩ = some (.int .u8 (hdk l : Nat)) := fun v hv => (hv.cell (p := ⟨bb, off, none⟩) hb).trans (by have := hcell 0 (by omega); exact this)
  have y1 : ∀ v, Below w.heap.size w v → v.cell? ⟨bb, off + 1, none⟩ = some (.int .u8 (hdt l : Nat)) := fun v hv => (hv.cell (p := ⟨bb, off + 1, none⟩) hb).trans (by have := hcell 1 (by omega); exact this)
  have y3 : ∀ v, Below w.heap.size w v → (convert 28 9 (.slice A3 (hdl l) (c - 8))).run Try.prog v = .ok (.string (sb (lab l))) v := fun v hv => conv_s (r3.below hv (Nat.le_refl _)) _
  have K1 : hdk l < 256 := getD_lt 256 (by decide) l ha.lt 0
  have K2 : hdt l < 256 := getD_lt 256 (by decide) l ha.lt 1
  have k1 : IntKind.i64.wrap (hdk l : Nat) = (hdk l : Nat) := by rw [IntKind.wrap_i64]; omega
  have k2 : IntKind.i64.wrap (hdt l : Nat) = (hdt l : Nat) := by rw [IntKind.wrap_i64]; omega
  go_enter Try.func32, Try.ntmps32
  go_wp2_with fail
  generalize w.alloc (.cells #[.int .i64 0, .int .i64 0, .int .i64 0, .string ⟨#[]⟩] 25) = w1 at *
  have R := refOf_c A1 2 (c - 6) _ w1 ((r1.below b1 (Nat.le_refl _)).more b1.size) (by decide)
  rw [show val 256 ((l.drop 6).take 2) = hdl l from rfl] at R
  refine R.mono ?_
  rintro e w2 ⟨rfl, rfl⟩
  have hd : ¬ (n : Int) < 8 + (hdl l : Nat) := by omega
  go_wp2_with fail
  refine R.mono ?_
  rintro e w3 ⟨rfl, rfl⟩
  clear R
  go_wp2
  have i0 : 0 < n := by omega
  have i1 : (1 : Int) < (n : Int) := by omega
  have i2 : 1 < n := by omega
  have bD := b1.drew
  have BD := B1.drew
  refine wp_region_held_drew (S := fun v => Below w.heap.size w v) (by kernel_rfl) bD (fun hHeld => ?_)
  generalize w3.drew = w4 at *
  refine wpAnyH_take (i := 0) (v := ?_) rfl (by kernel_rfl) (by kernel_rfl) (by kernel_rfl) (fun _ _ _ h => h) (Or.inl ⟨by rfl, fun v hv => ?_⟩) (by with_reducible assumption) ?_
  rotate_left
  · go_simp
    try with_reducible rfl
  simp only [Act.put, List.setIfInBounds_toArray, List.set_cons_zero, List.set_cons_succ, List.getElem_toArray, List.getElem_cons_zero, List.getElem_cons_succ]
  refine wpAnyH_take (i := 1) (v := ?_) rfl (by kernel_rfl) (by kernel_rfl) (by kernel_rfl) (fun _ _ _ h => h) (Or.inl ⟨by rfl, fun v hv => ?_⟩) (by with_reducible assumption) ?_
  rotate_left
  · go_simp
    try with_reducible rfl
  simp only [Act.put, List.setIfInBounds_toArray, List.set_cons_zero, List.set_cons_succ, List.getElem_toArray, List.getElem_cons_zero, List.getElem_cons_succ]
  refine wpAnyH_take (i := 2) (v := ?_) rfl (by kernel_rfl) (by kernel_rfl) (by kernel_rfl) (fun _ _ _ h => h) (Or.inl ⟨by rfl, fun v hv => ?_⟩) (by with_reducible assumption) ?_
  rotate_left
  · have hcc := y0 v hv
    go_simp
    try with_reducible rfl
  simp only [Act.put, List.setIfInBounds_toArray, List.set_cons_zero, List.set_cons_succ, List.getElem_toArray, List.getElem_cons_zero, List.getElem_cons_succ]
  refine wpAnyH_take (i := 3) (v := ?_) rfl (by kernel_rfl) (by kernel_rfl) (by kernel_rfl) (fun _ _ _ h => h) (Or.inl ⟨by rfl, fun v hv => ?_⟩) (by with_reducible assumption) ?_
  rotate_left
  · have hcc := k1
    go_simp
    try with_reducible rfl
  simp only [Act.put, List.setIfInBounds_toArray, List.set_cons_zero, List.set_cons_succ, List.getElem_toArray, List.getElem_cons_zero, List.getElem_cons_succ]
  refine wpAnyH_take (i := 4) (v := ?_) rfl (by kernel_rfl) (by kernel_rfl) (by kernel_rfl) (fun _ _ _ h => h) (Or.inl ⟨by rfl, fun v hv => ?_⟩) (by with_reducible assumption) ?_
  rotate_left
  · go_simp
    try with_reducible rfl
  simp only [Act.put, List.setIfInBounds_toArray, List.set_cons_zero, List.set_cons_succ, List.getElem_toArray, List.getElem_cons_zero, List.getElem_cons_succ]
  refine wpAnyH_take (i := 5) (v := ?_) rfl (by kernel_rfl) (by kernel_rfl) (by kernel_rfl) (fun _ _ _ h => h) (Or.inl ⟨by rfl, fun v hv => ?_⟩) (by with_reducible assumption) ?_
  rotate_left
  · go_simp
    try with_reducible rfl
  simp only [Act.put, List.setIfInBounds_toArray, List.set_cons_zero, List.set_cons_succ, List.getElem_toArray, List.getElem_cons_zero, List.getElem_cons_succ]
  refine wpAnyH_take (i := 6) (v := ?_) rfl (by kernel_rfl) (by kernel_rfl) (by kernel_rfl) (fun _ _ _ h => h) (Or.inl ⟨by rfl, fun v hv => ?_⟩) (by with_reducible assumption) ?_
  rotate_left
  · have hcc := y1 v hv
    go_simp
    try with_reducible rfl
  simp only [Act.put, List.setIfInBounds_toArray, List.set_cons_zero, List.set_cons_succ, List.getElem_toArray, List.getElem_cons_zero, List.getElem_cons_succ]
  refine wpAnyH_take (i := 7) (v := ?_) rfl (by kernel_rfl) (by kernel_rfl) (by kernel_rfl) (fun _ _ _ h => h) (Or.inl ⟨by rfl, fun v hv => ?_⟩) (by with_reducible assumption) ?_
  rotate_left
  · have hcc := k2
    go_simp
    try with_reducible rfl
  simp only [Act.put, List.setIfInBounds_toArray, List.set_cons_zero, List.set_cons_succ, List.getElem_toArray, List.getElem_cons_zero, List.getElem_cons_succ]
  refine wpAnyH_take (i := 8) (v := ?_) rfl (by kernel_rfl) (by kernel_rfl) (by kernel_rfl) (fun _ _ _ h => h) (Or.inl ⟨by rfl, fun v hv => ?_⟩) (by with_reducible assumption) ?_
  rotate_left
  · go_simp
    try with_reducible rfl
  simp only [Act.put, List.setIfInBounds_toArray, List.set_cons_zero, List.set_cons_succ, List.getElem_toArray, List.getElem_cons_zero, List.getElem_cons_succ]
  refine wpAnyH_take (i := 9) (v := ?_) rfl (by kernel_rfl) (by kernel_rfl) (by kernel_rfl) (fun _ _ _ h => h) (Or.inl ⟨by rfl, fun v hv => ?_⟩) (by with_reducible assumption) ?_
  rotate_left
  · have hcc := s2
    go_simp
    try with_reducible rfl
  simp only [Act.put, List.setIfInBounds_toArray, List.set_cons_zero, List.set_cons_succ, List.getElem_toArray, List.getElem_cons_zero, List.getElem_cons_succ]
  refine wpAnyH_take (i := 11) (v := ?_) rfl (by kernel_rfl) (by kernel_rfl) (by kernel_rfl) (fun _ _ _ h => h) (Or.inl ⟨by rfl, fun v hv => ?_⟩) (by with_reducible assumption) ?_
  rotate_left
  · go_simp
    try with_reducible rfl
  simp only [Act.put, List.setIfInBounds_toArray, List.set_cons_zero, List.set_cons_succ, List.getElem_toArray, List.getElem_cons_zero, List.getElem_cons_succ]
  refine wpAnyH_take (i := 12) (v := ?_) rfl (by kernel_rfl) (by kernel_rfl) (by kernel_rfl) (fun _ _ _ h => h) (Or.inl ⟨by rfl, fun v hv => ?_⟩) (by with_reducible assumption) ?_
  rotate_left
  · go_simp
    try with_reducible rfl
  simp only [Act.put, List.setIfInBounds_toArray, List.set_cons_zero, List.set_cons_succ, List.getElem_toArray, List.getElem_cons_zero, List.getElem_cons_succ]
  refine wpAnyH_take (i := 13) (v := ?_) rfl (by kernel_rfl) (by kernel_rfl) (by kernel_rfl) (fun _ _ _ h => h) (Or.inl ⟨by rfl, fun v hv => ?_⟩) (by with_reducible assumption) ?_
  rotate_left
  · have hcc := s3
    go_simp
    try with_reducible rfl
  simp only [Act.put, List.setIfInBounds_toArray, List.set_cons_zero, List.set_cons_succ, List.getElem_toArray, List.getElem_cons_zero, List.getElem_cons_succ]
  refine wpAnyH_take (i := 14) (v := ?_) rfl (by kernel_rfl) (by kernel_rfl) (by kernel_rfl) (fun _ _ _ h => h) (Or.inl ⟨by rfl, fun v hv => ?_⟩) (by with_reducible assumption) ?_
  rotate_left
  · have hcc := y3 v hv
    go_simp
    try with_reducible rfl
  simp only [Act.put, List.setIfInBounds_toArray, List.set_cons_zero, List.set_cons_succ, List.getElem_toArray, List.getElem_cons_zero, List.getElem_cons_succ]
  refine wpAnyH_ready (rs := [10, 16]) (by kernel_rfl) (by simp) ?_
  refine (AllReadyH.cons rfl (fun K hK => ?_) (AllReadyH.cons rfl (fun K hK => ?_) AllReadyH.nil))
  · go_simp
    go_at_call 40
    with_reducible refine (refOf_c A2 4 (c - 2) ((l.drop 2).take 4) w4 ((r2.below bD (Nat.le_refl _)).more (bD).size) (by decide)).mono ?_
    rintro e u1 ⟨rfl, q1⟩
    have h1 : Below w4.heap.size w4 u1 := q1 ▸ Below.refl _ _
    clear q1
    have b1 := bchain bD h1
    have B1 := (BD).up h1
    dsimp only
    refine hK.out _ _ b1 (fun hHeld => ?_)
    clear hK K
    try simp only [Act.put, List.setIfInBounds_toArray, List.set_cons_zero, List.set_cons_succ, List.getElem_toArray, List.getElem_cons_zero, List.getElem_cons_succ]
    refine wpAnyH_take (i := 15) (v := ?_) rfl (by kernel_rfl) (by kernel_rfl) (by kernel_rfl) (fun _ _ _ h => h) (Or.inl ⟨by rfl, fun v hv => ?_⟩) (by with_reducible assumption) ?_
    rotate_left
    · go_simp
      try with_reducible rfl
    simp only [Act.put, List.setIfInBounds_toArray, List.set_cons_zero, List.set_cons_succ, List.getElem_toArray, List.getElem_cons_zero, List.getElem_cons_succ]
    refine wpAnyH_ready (rs := [16]) (by kernel_rfl) (by simp) ?_
    refine (AllReadyH.cons rfl (fun K hK => ?_) AllReadyH.nil)
    obtain ⟨X2, h2⟩ := new_item u1 25
    have b2 := bchain b1 h2
    have B2 := (B1).up h2
    have n2 : w.heap.size ≠ u1.heap.size := by have := (B1).size; omega
    have l2 : w.heap.size ≤ u1.heap.size := (b1).size
    go_simp
    refine hK.out _ _ b2 (fun hHeld => ?_)
    clear hK K
    try simp only [Act.put, List.setIfInBounds_toArray, List.set_cons_zero, List.set_cons_succ, List.getElem_toArray, List.getElem_cons_zero, List.getElem_cons_succ]
    generalize (u1).alloc (.cells #[.int .i64 0, .int .i64 0, .int .i64 0, .string ⟨#[]⟩] 25) = u2 at *
    generalize (u1).heap.size = p2 at *
    refine wpAnyH_ready (rs := [17]) (by kernel_rfl) (by simp) ?_
    refine (AllReadyH.cons rfl (fun K hK => ?_) AllReadyH.nil)
    obtain ⟨u3, hw3⟩ : ∃ y, y = u2.setCells p2 0 [.int .i64 (hdk l : Nat), .int .i64 (hdt l : Nat), .int .i64 (hdc l : Nat), .string (sb (lab l))] := ⟨_, rfl⟩
    obtain ⟨X3, b3, s3, o3⟩ := own_whole [.int .i64 (hdk l : Nat), .int .i64 (hdt l : Nat), .int .i64 (hdc l : Nat), .string (sb (lab l))] X2 rfl b2 l2
    rw [← hw3] at X3 b3 s3 o3
    have B3 : BlkV u3 w.heap.size 25 [.int .i64 0, .int .i64 0, .int .i64 0, .string ⟨#[]⟩] := ⟨(o3 _ n2).trans (B2).heap⟩
    refine ready_go (by rfl) ?_
    refine wp_store_to 25 (.tmp 6) (.tmp 40) rfl p2 0 [.int .i64 (hdk l : Nat), .int .i64 (hdt l : Nat), .int .i64 (hdc l : Nat), .string (sb (lab l))] u3 hw3 rfl rfl ((X2).there 0 4 (by simp)) sizeRt (oneIt _ _ _ _) ?_
    refine hK.out _ _ b3 (fun hHeld => ?_)
    clear hK K
    try simp only [Act.put, List.setIfInBounds_toArray, List.set_cons_zero, List.set_cons_succ, List.getElem_toArray, List.getElem_cons_zero, List.getElem_cons_succ]
    clear hw3 s3 o3
    refine wpAnyH_done (by kernel_rfl) ?_ _
    clear hHeld
    have x1 := (X3).range
    have K := rcheck_c (hdk l : Nat) (hdt l : Nat) (hdc l : Nat) (sb (lab l)) u3 (by omega)
    rw [hsl] at K
    rw [← HR0.out] at K
    go_wp2_with (first | fail | (refine wpList_load_mid rfl 25 (.tmp 6) rfl p2 0 rfl ([.int .i64 (hdk l : Nat), .int .i64 (hdt l : Nat), .int .i64 (hdc l : Nat), .string (sb (lab l))]) _ (by with_reducible exact x1) Try.underlying25 rfl sizeRt ?_))
    refine K.mono ?_
    rintro e x6 ⟨rfl, h6⟩
    clear K
    have b6 := bchain b3 h6
    have B6 := (B3).up h6
    have X6 := (X3).up h6
    obtain ⟨wz, hwz⟩ : ∃ x, x = x6.setCells w.heap.size 0 [.int .i64 0, .int .i64 0, .int .i64 0, .string ⟨#[]⟩] := ⟨_, rfl⟩
    obtain ⟨Bz, bz, _, _⟩ := own_whole [.int .i64 0, .int .i64 0, .int .i64 0, .string ⟨#[]⟩] B6 rfl b6 (Nat.le_refl _)
    rw [← hwz] at Bz bz
    go_wp2_with (refine wpList_store_to rfl 25 (.tmp 2) (.tmp 45) rfl w.heap.size 0 [.int .i64 0, .int .i64 0, .int .i64 0, .string ⟨#[]⟩] wz hwz rfl rfl ((B6).there 0 4 (by simp)) sizeRt (oneIt _ _ _ _) ?_; clear hwz)
    refine bodyPost_ret (results_cell_tmps Try.results32 ⟨w.heap.size, 0, none⟩ _ _ _ rfl (run_loadVar_mid _ w.heap.size 0 25 _ _ Bz.range Try.underlying25 rfl sizeRt) rfl rfl) rfl ?_
    exact ⟨rfl, bz⟩
  · obtain ⟨X4, h4⟩ := new_item w4 25
    have b4 := bchain bD h4
    have B4 := (BD).up h4
    have n4 : w.heap.size ≠ w4.heap.size := by have := (BD).size; omega
    have l4 : w.heap.size ≤ w4.heap.size := (bD).size
    go_simp
    refine hK.out _ _ b4 (fun hHeld => ?_)
    clear hK K
    try simp only [Act.put, List.setIfInBounds_toArray, List.set_cons_zero, List.set_cons_succ, List.getElem_toArray, List.getElem_cons_zero, List.getElem_cons_succ]
    generalize (w4).alloc (.cells #[.int .i64 0, .int .i64 0, .int .i64 0, .string ⟨#[]⟩] 25) = u4 at *
    generalize (w4).heap.size = p4 at *
    refine wpAnyH_ready (rs := [10]) (by kernel_rfl) (by simp) ?_
    refine (AllReadyH.cons rfl (fun K hK => ?_) AllReadyH.nil)
    go_simp
    go_at_call 40
    with_reducible refine (refOf_c A2 4 (c - 2) ((l.drop 2).take 4) u4 ((r2.below b4 (Nat.le_refl _)).more (b4).size) (by decide)).mono ?_
    rintro e u5 ⟨rfl, q5⟩
    have h5 : Below u4.heap.size u4 u5 := q5 ▸ Below.refl _ _
    clear q5
    have b5 := bchain b4 h5
    have B5 := (B4).up h5
    have X5 := (X4).up h5
    dsimp only
    refine hK.out _ _ b5 (fun hHeld => ?_)
    clear hK K
    try simp only [Act.put, List.setIfInBounds_toArray, List.set_cons_zero, List.set_cons_succ, List.getElem_toArray, List.getElem_cons_zero, List.getElem_cons_succ]
    refine wpAnyH_take (i := 15) (v := ?_) rfl (by kernel_rfl) (by kernel_rfl) (by kernel_rfl) (fun _ _ _ h => h) (Or.inl ⟨by rfl, fun v hv => ?_⟩) (by with_reducible assumption) ?_
    rotate_left
    · go_simp
      try with_reducible rfl
    simp only [Act.put, List.setIfInBounds_toArray, List.set_cons_zero, List.set_cons_succ, List.getElem_toArray, List.getElem_cons_zero, List.getElem_cons_succ]
    refine wpAnyH_ready (rs := [17]) (by kernel_rfl) (by simp) ?_
    refine (AllReadyH.cons rfl (fun K hK => ?_) AllReadyH.nil)
    obtain ⟨u6, hw6⟩ : ∃ y, y = u5.setCells p4 0 [.int .i64 (hdk l : Nat), .int .i64 (hdt l : Nat), .int .i64 (hdc l : Nat), .string (sb (lab l))] := ⟨_, rfl⟩
    obtain ⟨X6, b6, s6, o6⟩ := own_whole [.int .i64 (hdk l : Nat), .int .i64 (hdt l : Nat), .int .i64 (hdc l : Nat), .string (sb (lab l))] X5 rfl b5 l4
    rw [← hw6] at X6 b6 s6 o6
    have B6 : BlkV u6 w.heap.size 25 [.int .i64 0, .int .i64 0, .int .i64 0, .string ⟨#[]⟩] := ⟨(o6 _ n4).trans (B5).heap⟩
    refine ready_go (by rfl) ?_
    refine wp_store_to 25 (.tmp 6) (.tmp 40) rfl p4 0 [.int .i64 (hdk l : Nat), .int .i64 (hdt l : Nat), .int .i64 (hdc l : Nat), .string (sb (lab l))] u6 hw6 rfl rfl ((X5).there 0 4 (by simp)) sizeRt (oneIt _ _ _ _) ?_
    refine hK.out _ _ b6 (fun hHeld => ?_)
    clear hK K
    try simp only [Act.put, List.setIfInBounds_toArray, List.set_cons_zero, List.set_cons_succ, List.getElem_toArray, List.getElem_cons_zero, List.getElem_cons_succ]
    clear hw6 s6 o6
    refine wpAnyH_done (by kernel_rfl) ?_ _
    clear hHeld
    have x1 := (X6).range
    have K := rcheck_c (hdk l : Nat) (hdt l : Nat) (hdc l : Nat) (sb (lab l)) u6 (by omega)
    rw [hsl] at K
    rw [← HR0.out] at K
    go_wp2_with (first | fail | (refine wpList_load_mid rfl 25 (.tmp 6) rfl p4 0 rfl ([.int .i64 (hdk l : Nat), .int .i64 (hdt l : Nat), .int .i64 (hdc l : Nat), .string (sb (lab l))]) _ (by with_reducible exact x1) Try.underlying25 rfl sizeRt ?_))
    refine K.mono ?_
    rintro e x6 ⟨rfl, h6⟩
    clear K
    have b6 := bchain b6 h6
    have B6 := (B6).up h6
    have X6 := (X6).up h6
    obtain ⟨wz, hwz⟩ : ∃ x, x = x6.setCells w.heap.size 0 [.int .i64 0, .int .i64 0, .int .i64 0, .string ⟨#[]⟩] := ⟨_, rfl⟩
    obtain ⟨Bz, bz, _, _⟩ := own_whole [.int .i64 0, .int .i64 0, .int .i64 0, .string ⟨#[]⟩] B6 rfl b6 (Nat.le_refl _)
    rw [← hwz] at Bz bz
    go_wp2_with (refine wpList_store_to rfl 25 (.tmp 2) (.tmp 45) rfl w.heap.size 0 [.int .i64 0, .int .i64 0, .int .i64 0, .string ⟨#[]⟩] wz hwz rfl rfl ((B6).there 0 4 (by simp)) sizeRt (oneIt _ _ _ _) ?_; clear hwz)
    refine bodyPost_ret (results_cell_tmps Try.results32 ⟨w.heap.size, 0, none⟩ _ _ _ rfl (run_loadVar_mid _ w.heap.size 0 25 _ _ Bz.range Try.underlying25 rfl sizeRt) rfl rfl) rfl ?_
    exact ⟨rfl, bz⟩

set_option maxRecDepth 100000 in
set_option maxHeartbeats 4000000 in
theorem rdecode_okB {B : Nat} (A : Option Addr) (n c : Nat) (l : List Nat) (w : World) (haB : Rd8 w B A n l) (hB : B ≤ w.heap.size) (hn : 8 + hdl l ≤ n) (hcap : n ≤ c) (hn6 : n ≤ 1000000) (hz : ck (hdk l) (hdt l) (hdc l) (hdl l) = 0) :
    Calls Try.prog 32 #[.slice A n c] w fun e w' => ∃ A5, e = .returned (.tuple #[.agg #[.int .i64 (hdk l : Nat), .int .i64 (hdt l : Nat), .int .i64 (hdc l : Nat), .string (sb (lab l))], .slice A5 (n - (8 + hdl l)) (c - (8 + hdl l)), .int .i64 0]) ∧ Rd8 w' B A5 (n - (8 + hdl l)) (l.drop (8 + hdl l)) ∧ Below w.heap.size w w' := by
  have ha := haB.more hB
  obtain ⟨B1, b1⟩ := new_item w 25
  have hl16 := hdl_lt ha.lt
  have hll := ha.len
  have hn' : ¬ (n : Int) < 8 := by omega
  obtain ⟨A1, s1, r1⟩ := cut_lh ha c 6 8 (by decide) (by omega) hcap 6 8 rfl rfl
  have r1 : Rd8 w w.heap.size A1 2 ((l.drop 6).take 2) := r1
  have s1 : ∀ v, (Instr.slice 28 (.slice A n c) (some (.int .i64 6)) (some (.int .i64 8)) none).run Try.prog v = .ok (.slice A1 2 (c - 6)) v := s1
  obtain ⟨A2, s2, r2⟩ := cut_lh ha c 2 6 (by decide) (by omega) hcap 2 6 rfl rfl
  have r2 : Rd8 w w.heap.size A2 4 ((l.drop 2).take 4) := r2
  have s2 : ∀ v, (Instr.slice 28 (.slice A n c) (some (.int .i64 2)) (some (.int .i64 6)) none).run Try.prog v = .ok (.slice A2 4 (c - 2)) v := s2
  obtain ⟨A3, s3, r3⟩ := cut_lh ha c 8 (8 + hdl l) (by omega) hn hcap 8 (8 + (hdl l : Nat)) rfl (by omega)
  have e3 : 8 + hdl l - 8 = hdl l := by omega
  rw [e3] at s3 r3
  have r3 : Rd8 w w.heap.size A3 (hdl l) (lab l) := r3
  have hsl : (sb (lab l)).size = hdl l := by
    rw [← bl_len, bl_sb (show allLt8 (lab l) from (ha.lt.drop 8).take _)]
    unfold lab
    rw [List.length_take, List.length_drop]
    omega
  obtain ⟨bb, off, rfl, hb, hcell⟩ := ha.cells (by omega)
  have y0 : ∀ v, Below w.heap.size w v → v.cell? ⟨bb, off, none⟩ = some (.int .u8 (hdk l : Nat)) := fun v hv => (hv.cell (p := ⟨bb, off, none⟩) hb).trans (by have := hcell 0 (by omega); exact this)
  have y1 : ∀ v, Below w.heap.size w v → v.cell? ⟨bb, off + 1, none⟩ = some (.int .u8 (hdt l : Nat)) := fun v hv => (hv.cell (p := ⟨bb, off + 1, none⟩) hb).trans (by have := hcell 1 (by omega); exact this)
  have y3 : ∀ v, Below w.heap.size w v → (convert 28 9 (.slice A3 (hdl l) (c - 8))).run Try.prog v = .ok (.string (sb (lab l))) v := fun v hv => conv_s (r3.below hv (Nat.le_refl _)) _
  have K1 : hdk l < 256 := getD_lt 256 (by decide) l ha.lt 0
  have K2 : hdt l < 256 := getD_lt 256 (by decide) l ha.lt 1
  have k1 : IntKind.i64.wrap (hdk l : Nat) = (hdk l : Nat) := by rw [IntKind.wrap_i64]; omega
  have k2 : IntKind.i64.wrap (hdt l : Nat) = (hdt l : Nat) := by rw [IntKind.wrap_i64]; omega
  go_enter Try.func32, Try.ntmps32
  go_wp2_with fail
  generalize w.alloc (.cells #[.int .i64 0, .int .i64 0, .int .i64 0, .string ⟨#[]⟩] 25) = w1 at *
  have R := refOf_c A1 2 (c - 6) _ w1 ((r1.below b1 (Nat.le_refl _)).more b1.size) (by decide)
  rw [show val 256 ((l.drop 6).take 2) = hdl l from rfl] at R
  refine R.mono ?_
  rintro e w2 ⟨rfl, rfl⟩
  have hd : ¬ (n : Int) < 8 + (hdl l : Nat) := by omega
  go_wp2_with fail
  refine R.mono ?_
  rintro e w3 ⟨rfl, rfl⟩
  clear R
  go_wp2
  have i0 : 0 < n := by omega
  have i1 : (1 : Int) < (n : Int) := by omega
  have i2 : 1 < n := by omega
  have bD := b1.drew
  have BD := B1.drew
  refine wp_region_held_drew (S := fun v => Below w.heap.size w v) (by kernel_rfl) bD (fun hHeld => ?_)
  generalize w3.drew = w4 at *
  refine wpAnyH_take (i := 0) (v := ?_) rfl (by kernel_rfl) (by kernel_rfl) (by kernel_rfl) (fun _ _ _ h => h) (Or.inl ⟨by rfl, fun v hv => ?_⟩) (by with_reducible assumption) ?_
  rotate_left
  · go_simp
    try with_reducible rfl
  simp only [Act.put, List.setIfInBounds_toArray, List.set_cons_zero, List.set_cons_succ, List.getElem_toArray, List.getElem_cons_zero, List.getElem_cons_succ]
  refine wpAnyH_take (i := 1) (v := ?_) rfl (by kernel_rfl) (by kernel_rfl) (by kernel_rfl) (fun _ _ _ h => h) (Or.inl ⟨by rfl, fun v hv => ?_⟩) (by with_reducible assumption) ?_
  rotate_left
  · go_simp
    try with_reducible rfl
  simp only [Act.put, List.setIfInBounds_toArray, List.set_cons_zero, List.set_cons_succ, List.getElem_toArray, List.getElem_cons_zero, List.getElem_cons_succ]
  refine wpAnyH_take (i := 2) (v := ?_) rfl (by kernel_rfl) (by kernel_rfl) (by kernel_rfl) (fun _ _ _ h => h) (Or.inl ⟨by rfl, fun v hv => ?_⟩) (by with_reducible assumption) ?_
  rotate_left
  · have hcc := y0 v hv
    go_simp
    try with_reducible rfl
  simp only [Act.put, List.setIfInBounds_toArray, List.set_cons_zero, List.set_cons_succ, List.getElem_toArray, List.getElem_cons_zero, List.getElem_cons_succ]
  refine wpAnyH_take (i := 3) (v := ?_) rfl (by kernel_rfl) (by kernel_rfl) (by kernel_rfl) (fun _ _ _ h => h) (Or.inl ⟨by rfl, fun v hv => ?_⟩) (by with_reducible assumption) ?_
  rotate_left
  · have hcc := k1
    go_simp
    try with_reducible rfl
  simp only [Act.put, List.setIfInBounds_toArray, List.set_cons_zero, List.set_cons_succ, List.getElem_toArray, List.getElem_cons_zero, List.getElem_cons_succ]
  refine wpAnyH_take (i := 4) (v := ?_) rfl (by kernel_rfl) (by kernel_rfl) (by kernel_rfl) (fun _ _ _ h => h) (Or.inl ⟨by rfl, fun v hv => ?_⟩) (by with_reducible assumption) ?_
  rotate_left
  · go_simp
    try with_reducible rfl
  simp only [Act.put, List.setIfInBounds_toArray, List.set_cons_zero, List.set_cons_succ, List.getElem_toArray, List.getElem_cons_zero, List.getElem_cons_succ]
  refine wpAnyH_take (i := 5) (v := ?_) rfl (by kernel_rfl) (by kernel_rfl) (by kernel_rfl) (fun _ _ _ h => h) (Or.inl ⟨by rfl, fun v hv => ?_⟩) (by with_reducible assumption) ?_
  rotate_left
  · go_simp
    try with_reducible rfl
  simp only [Act.put, List.setIfInBounds_toArray, List.set_cons_zero, List.set_cons_succ, List.getElem_toArray, List.getElem_cons_zero, List.getElem_cons_succ]
  refine wpAnyH_take (i := 6) (v := ?_) rfl (by kernel_rfl) (by kernel_rfl) (by kernel_rfl) (fun _ _ _ h => h) (Or.inl ⟨by rfl, fun v hv => ?_⟩) (by with_reducible assumption) ?_
  rotate_left
  · have hcc := y1 v hv
    go_simp
    try with_reducible rfl
  simp only [Act.put, List.setIfInBounds_toArray, List.set_cons_zero, List.set_cons_succ, List.getElem_toArray, List.getElem_cons_zero, List.getElem_cons_succ]
  refine wpAnyH_take (i := 7) (v := ?_) rfl (by kernel_rfl) (by kernel_rfl) (by kernel_rfl) (fun _ _ _ h => h) (Or.inl ⟨by rfl, fun v hv => ?_⟩) (by with_reducible assumption) ?_
  rotate_left
  · have hcc := k2
    go_simp
    try with_reducible rfl
  simp only [Act.put, List.setIfInBounds_toArray, List.set_cons_zero, List.set_cons_succ, List.getElem_toArray, List.getElem_cons_zero, List.getElem_cons_succ]
  refine wpAnyH_take (i := 8) (v := ?_) rfl (by kernel_rfl) (by kernel_rfl) (by kernel_rfl) (fun _ _ _ h => h) (Or.inl ⟨by rfl, fun v hv => ?_⟩) (by with_reducible assumption) ?_
  rotate_left
  · go_simp
    try with_reducible rfl
  simp only [Act.put, List.setIfInBounds_toArray, List.set_cons_zero, List.set_cons_succ, List.getElem_toArray, List.getElem_cons_zero, List.getElem_cons_succ]
  refine wpAnyH_take (i := 9) (v := ?_) rfl (by kernel_rfl) (by kernel_rfl) (by kernel_rfl) (fun _ _ _ h => h) (Or.inl ⟨by rfl, fun v hv => ?_⟩) (by with_reducible assumption) ?_
  rotate_left
  · have hcc := s2
    go_simp
    try with_reducible rfl
  simp only [Act.put, List.setIfInBounds_toArray, List.set_cons_zero, List.set_cons_succ, List.getElem_toArray, List.getElem_cons_zero, List.getElem_cons_succ]
  refine wpAnyH_take (i := 11) (v := ?_) rfl (by kernel_rfl) (by kernel_rfl) (by kernel_rfl) (fun _ _ _ h => h) (Or.inl ⟨by rfl, fun v hv => ?_⟩) (by with_reducible assumption) ?_
  rotate_left
  · go_simp
    try with_reducible rfl
  simp only [Act.put, List.setIfInBounds_toArray, List.set_cons_zero, List.set_cons_succ, List.getElem_toArray, List.getElem_cons_zero, List.getElem_cons_succ]
  refine wpAnyH_take (i := 12) (v := ?_) rfl (by kernel_rfl) (by kernel_rfl) (by kernel_rfl) (fun _ _ _ h => h) (Or.inl ⟨by rfl, fun v hv => ?_⟩) (by with_reducible assumption) ?_
  rotate_left
  · go_simp
    try with_reducible rfl
  simp only [Act.put, List.setIfInBounds_toArray, List.set_cons_zero, List.set_cons_succ, List.getElem_toArray, List.getElem_cons_zero, List.getElem_cons_succ]
  refine wpAnyH_take (i := 13) (v := ?_) rfl (by kernel_rfl) (by kernel_rfl) (by kernel_rfl) (fun _ _ _ h => h) (Or.inl ⟨by rfl, fun v hv => ?_⟩) (by with_reducible assumption) ?_
  rotate_left
  · have hcc := s3
    go_simp
    try with_reducible rfl
  simp only [Act.put, List.setIfInBounds_toArray, List.set_cons_zero, List.set_cons_succ, List.getElem_toArray, List.getElem_cons_zero, List.getElem_cons_succ]
  refine wpAnyH_take (i := 14) (v := ?_) rfl (by kernel_rfl) (by kernel_rfl) (by kernel_rfl) (fun _ _ _ h => h) (Or.inl ⟨by rfl, fun v hv => ?_⟩) (by with_reducible assumption) ?_
  rotate_left
  · have hcc := y3 v hv
    go_simp
    try with_reducible rfl
  simp only [Act.put, List.setIfInBounds_toArray, List.set_cons_zero, List.set_cons_succ, List.getElem_toArray, List.getElem_cons_zero, List.getElem_cons_succ]
  refine wpAnyH_ready (rs := [10, 16]) (by kernel_rfl) (by simp) ?_
  refine (AllReadyH.cons rfl (fun K hK => ?_) (AllReadyH.cons rfl (fun K hK => ?_) AllReadyH.nil))
  · go_simp
    go_at_call 40
    with_reducible refine (refOf_c A2 4 (c - 2) ((l.drop 2).take 4) w4 ((r2.below bD (Nat.le_refl _)).more (bD).size) (by decide)).mono ?_
    rintro e u1 ⟨rfl, q1⟩
    have h1 : Below w4.heap.size w4 u1 := q1 ▸ Below.refl _ _
    clear q1
    have b1 := bchain bD h1
    have B1 := (BD).up h1
    dsimp only
    refine hK.out _ _ b1 (fun hHeld => ?_)
    clear hK K
    try simp only [Act.put, List.setIfInBounds_toArray, List.set_cons_zero, List.set_cons_succ, List.getElem_toArray, List.getElem_cons_zero, List.getElem_cons_succ]
    refine wpAnyH_take (i := 15) (v := ?_) rfl (by kernel_rfl) (by kernel_rfl) (by kernel_rfl) (fun _ _ _ h => h) (Or.inl ⟨by rfl, fun v hv => ?_⟩) (by with_reducible assumption) ?_
    rotate_left
    · go_simp
      try with_reducible rfl
    simp only [Act.put, List.setIfInBounds_toArray, List.set_cons_zero, List.set_cons_succ, List.getElem_toArray, List.getElem_cons_zero, List.getElem_cons_succ]
    refine wpAnyH_ready (rs := [16]) (by kernel_rfl) (by simp) ?_
    refine (AllReadyH.cons rfl (fun K hK => ?_) AllReadyH.nil)
    obtain ⟨X2, h2⟩ := new_item u1 25
    have b2 := bchain b1 h2
    have B2 := (B1).up h2
    have n2 : w.heap.size ≠ u1.heap.size := by have := (B1).size; omega
    have l2 : w.heap.size ≤ u1.heap.size := (b1).size
    go_simp
    refine hK.out _ _ b2 (fun hHeld => ?_)
    clear hK K
    try simp only [Act.put, List.setIfInBounds_toArray, List.set_cons_zero, List.set_cons_succ, List.getElem_toArray, List.getElem_cons_zero, List.getElem_cons_succ]
    generalize (u1).alloc (.cells #[.int .i64 0, .int .i64 0, .int .i64 0, .string ⟨#[]⟩] 25) = u2 at *
    generalize (u1).heap.size = p2 at *
    refine wpAnyH_ready (rs := [17]) (by kernel_rfl) (by simp) ?_
    refine (AllReadyH.cons rfl (fun K hK => ?_) AllReadyH.nil)
    obtain ⟨u3, hw3⟩ : ∃ y, y = u2.setCells p2 0 [.int .i64 (hdk l : Nat), .int .i64 (hdt l : Nat), .int .i64 (hdc l : Nat), .string (sb (lab l))] := ⟨_, rfl⟩
    obtain ⟨X3, b3, s3, o3⟩ := own_whole [.int .i64 (hdk l : Nat), .int .i64 (hdt l : Nat), .int .i64 (hdc l : Nat), .string (sb (lab l))] X2 rfl b2 l2
    rw [← hw3] at X3 b3 s3 o3
    have B3 : BlkV u3 w.heap.size 25 [.int .i64 0, .int .i64 0, .int .i64 0, .string ⟨#[]⟩] := ⟨(o3 _ n2).trans (B2).heap⟩
    refine ready_go (by rfl) ?_
    refine wp_store_to 25 (.tmp 6) (.tmp 40) rfl p2 0 [.int .i64 (hdk l : Nat), .int .i64 (hdt l : Nat), .int .i64 (hdc l : Nat), .string (sb (lab l))] u3 hw3 rfl rfl ((X2).there 0 4 (by simp)) sizeRt (oneIt _ _ _ _) ?_
    refine hK.out _ _ b3 (fun hHeld => ?_)
    clear hK K
    try simp only [Act.put, List.setIfInBounds_toArray, List.set_cons_zero, List.set_cons_succ, List.getElem_toArray, List.getElem_cons_zero, List.getElem_cons_succ]
    clear hw3 s3 o3
    refine wpAnyH_done (by kernel_rfl) ?_ _
    clear hHeld
    have x1 := (X3).range
    have K := rcheck_c (hdk l : Nat) (hdt l : Nat) (hdc l : Nat) (sb (lab l)) u3 (by omega)
    rw [hsl] at K
    rw [hz] at K
    go_wp2_with (first | fail | (refine wpList_load_mid rfl 25 (.tmp 6) rfl p2 0 rfl ([.int .i64 (hdk l : Nat), .int .i64 (hdt l : Nat), .int .i64 (hdc l : Nat), .string (sb (lab l))]) _ (by with_reducible exact x1) Try.underlying25 rfl sizeRt ?_))
    refine K.mono ?_
    rintro e x6 ⟨rfl, h6⟩
    clear K
    have b6 := bchain b3 h6
    have B6 := (B3).up h6
    have X6 := (X3).up h6
    obtain ⟨A5, s5, r5⟩ := cut_l haB c (8 + hdl l) hn hcap (8 + (hdl l : Nat)) (by omega)
    have r5b := r5.below b6 hB
    go_wp2
    have XD := X6.drew
    have YD := B6.drew
    have ZD := b6.drew
    have RD := r5.below ZD hB
    refine wp_region_held_drew (S := fun v => BlkV v p2 25 [.int .i64 (hdk l : Nat), .int .i64 (hdt l : Nat), .int .i64 (hdc l : Nat), .string (sb (lab l))]) (by kernel_rfl) XD (fun hHeld => ?_)
    generalize x6.drew = x7 at *
    refine wpAnyH_take (i := 0) (v := .agg ([.int .i64 (hdk l : Nat), .int .i64 (hdt l : Nat), .int .i64 (hdc l : Nat), .string (sb (lab l))]).toArray) rfl (by kernel_rfl) (by kernel_rfl) (by kernel_rfl) (fun _ _ _ h => h) (yieldsIf_load_mid (by rfl) 25 (.tmp 6) rfl (p2) 0 rfl ([.int .i64 (hdk l : Nat), .int .i64 (hdt l : Nat), .int .i64 (hdc l : Nat), .string (sb (lab l))]) _ (fun v hv => hv.range) Try.underlying25 rfl sizeRt) (by with_reducible assumption) ?_
    simp only [Act.put, List.setIfInBounds_toArray, List.set_cons_zero, List.set_cons_succ, List.getElem_toArray, List.getElem_cons_zero, List.getElem_cons_succ]
    refine wpAnyH_take (i := 1) (v := ?_) rfl (by kernel_rfl) (by kernel_rfl) (by kernel_rfl) (fun _ _ _ h => h) (Or.inl ⟨by rfl, fun v hv => ?_⟩) (by with_reducible assumption) ?_
    rotate_left
    · go_simp
      try with_reducible rfl
    simp only [Act.put, List.setIfInBounds_toArray, List.set_cons_zero, List.set_cons_succ, List.getElem_toArray, List.getElem_cons_zero, List.getElem_cons_succ]
    refine wpAnyH_take (i := 2) (v := ?_) rfl (by kernel_rfl) (by kernel_rfl) (by kernel_rfl) (fun _ _ _ h => h) (Or.inl ⟨by rfl, fun v hv => ?_⟩) (by with_reducible assumption) ?_
    rotate_left
    · go_simp
      try with_reducible rfl
    simp only [Act.put, List.setIfInBounds_toArray, List.set_cons_zero, List.set_cons_succ, List.getElem_toArray, List.getElem_cons_zero, List.getElem_cons_succ]
    refine wpAnyH_take (i := 3) (v := ?_) rfl (by kernel_rfl) (by kernel_rfl) (by kernel_rfl) (fun _ _ _ h => h) (Or.inl ⟨by rfl, fun v hv => ?_⟩) (by with_reducible assumption) ?_
    rotate_left
    · have hcc := s5
      go_simp
      try with_reducible rfl
    simp only [Act.put, List.setIfInBounds_toArray, List.set_cons_zero, List.set_cons_succ, List.getElem_toArray, List.getElem_cons_zero, List.getElem_cons_succ]
    obtain ⟨w9, hw9⟩ : ∃ y, y = x7.setCells w.heap.size 0 [.int .i64 (hdk l : Nat), .int .i64 (hdt l : Nat), .int .i64 (hdc l : Nat), .string (sb (lab l))] := ⟨_, rfl⟩
    obtain ⟨B9, b9, s9, o9⟩ := own_whole [.int .i64 (hdk l : Nat), .int .i64 (hdt l : Nat), .int .i64 (hdc l : Nat), .string (sb (lab l))] YD rfl ZD (Nat.le_refl _)
    rw [← hw9] at B9 b9 s9 o9
    have X9 : BlkV w9 p2 25 [.int .i64 (hdk l : Nat), .int .i64 (hdt l : Nat), .int .i64 (hdc l : Nat), .string (sb (lab l))] := ⟨(o9 _ (Ne.symm n2)).trans XD.heap⟩
    have r9 := r5.below b9 hB
    refine wpAnyH_ready (rs := [4]) (by kernel_rfl) (by simp) ?_
    refine AllReadyH.cons rfl (fun K hK => ?_) AllReadyH.nil
    refine ready_go (by rfl) ?_
    refine wp_store_to 25 (.tmp 2) (.tmp 47) rfl w.heap.size 0 [.int .i64 (hdk l : Nat), .int .i64 (hdt l : Nat), .int .i64 (hdc l : Nat), .string (sb (lab l))] w9 hw9 rfl rfl (YD.there 0 4 (by simp)) sizeRt (oneIt _ _ _ _) ?_
    refine hK.out _ _ X9 (fun hHeld => ?_)
    clear hK K
    try simp only [Act.put, List.setIfInBounds_toArray, List.set_cons_zero, List.set_cons_succ, List.getElem_toArray, List.getElem_cons_zero, List.getElem_cons_succ]
    refine wpAnyH_take (i := 5) (v := ?_) rfl (by kernel_rfl) (by kernel_rfl) (by kernel_rfl) (fun _ _ _ h => h) (Or.inl ⟨by rfl, fun v hv => ?_⟩) (by with_reducible assumption) ?_
    rotate_left
    · go_simp
      try with_reducible rfl
    simp only [Act.put, List.setIfInBounds_toArray, List.set_cons_zero, List.set_cons_succ, List.getElem_toArray, List.getElem_cons_zero, List.getElem_cons_succ]
    refine wpAnyH_take (i := 6) (v := ?_) rfl (by kernel_rfl) (by kernel_rfl) (by kernel_rfl) (fun _ _ _ h => h) (Or.inl ⟨by rfl, fun v hv => ?_⟩) (by with_reducible assumption) ?_
    rotate_left
    · go_simp
      try with_reducible rfl
    simp only [Act.put, List.setIfInBounds_toArray, List.set_cons_zero, List.set_cons_succ, List.getElem_toArray, List.getElem_cons_zero, List.getElem_cons_succ]
    refine wpAnyH_done (by kernel_rfl) ?_ _
    clear hw9 hHeld
    go_wp2
    refine bodyPost_ret (results_cell_tmps Try.results32 ⟨w.heap.size, 0, none⟩ _ _ _ rfl (run_loadVar_mid _ w.heap.size 0 25 _ _ B9.range Try.underlying25 rfl sizeRt) rfl rfl) rfl ?_
    exact ⟨A5, rfl, r9, b9⟩
  · obtain ⟨X4, h4⟩ := new_item w4 25
    have b4 := bchain bD h4
    have B4 := (BD).up h4
    have n4 : w.heap.size ≠ w4.heap.size := by have := (BD).size; omega
    have l4 : w.heap.size ≤ w4.heap.size := (bD).size
    go_simp
    refine hK.out _ _ b4 (fun hHeld => ?_)
    clear hK K
    try simp only [Act.put, List.setIfInBounds_toArray, List.set_cons_zero, List.set_cons_succ, List.getElem_toArray, List.getElem_cons_zero, List.getElem_cons_succ]
    generalize (w4).alloc (.cells #[.int .i64 0, .int .i64 0, .int .i64 0, .string ⟨#[]⟩] 25) = u4 at *
    generalize (w4).heap.size = p4 at *
    refine wpAnyH_ready (rs := [10]) (by kernel_rfl) (by simp) ?_
    refine (AllReadyH.cons rfl (fun K hK => ?_) AllReadyH.nil)
    go_simp
    go_at_call 40
    with_reducible refine (refOf_c A2 4 (c - 2) ((l.drop 2).take 4) u4 ((r2.below b4 (Nat.le_refl _)).more (b4).size) (by decide)).mono ?_
    rintro e u5 ⟨rfl, q5⟩
    have h5 : Below u4.heap.size u4 u5 := q5 ▸ Below.refl _ _
    clear q5
    have b5 := bchain b4 h5
    have B5 := (B4).up h5
    have X5 := (X4).up h5
    dsimp only
    refine hK.out _ _ b5 (fun hHeld => ?_)
    clear hK K
    try simp only [Act.put, List.setIfInBounds_toArray, List.set_cons_zero, List.set_cons_succ, List.getElem_toArray, List.getElem_cons_zero, List.getElem_cons_succ]
    refine wpAnyH_take (i := 15) (v := ?_) rfl (by kernel_rfl) (by kernel_rfl) (by kernel_rfl) (fun _ _ _ h => h) (Or.inl ⟨by rfl, fun v hv => ?_⟩) (by with_reducible assumption) ?_
    rotate_left
    · go_simp
      try with_reducible rfl
    simp only [Act.put, List.setIfInBounds_toArray, List.set_cons_zero, List.set_cons_succ, List.getElem_toArray, List.getElem_cons_zero, List.getElem_cons_succ]
    refine wpAnyH_ready (rs := [17]) (by kernel_rfl) (by simp) ?_
    refine (AllReadyH.cons rfl (fun K hK => ?_) AllReadyH.nil)
    obtain ⟨u6, hw6⟩ : ∃ y, y = u5.setCells p4 0 [.int .i64 (hdk l : Nat), .int .i64 (hdt l : Nat), .int .i64 (hdc l : Nat), .string (sb (lab l))] := ⟨_, rfl⟩
    obtain ⟨X6, b6, s6, o6⟩ := own_whole [.int .i64 (hdk l : Nat), .int .i64 (hdt l : Nat), .int .i64 (hdc l : Nat), .string (sb (lab l))] X5 rfl b5 l4
    rw [← hw6] at X6 b6 s6 o6
    have B6 : BlkV u6 w.heap.size 25 [.int .i64 0, .int .i64 0, .int .i64 0, .string ⟨#[]⟩] := ⟨(o6 _ n4).trans (B5).heap⟩
    refine ready_go (by rfl) ?_
    refine wp_store_to 25 (.tmp 6) (.tmp 40) rfl p4 0 [.int .i64 (hdk l : Nat), .int .i64 (hdt l : Nat), .int .i64 (hdc l : Nat), .string (sb (lab l))] u6 hw6 rfl rfl ((X5).there 0 4 (by simp)) sizeRt (oneIt _ _ _ _) ?_
    refine hK.out _ _ b6 (fun hHeld => ?_)
    clear hK K
    try simp only [Act.put, List.setIfInBounds_toArray, List.set_cons_zero, List.set_cons_succ, List.getElem_toArray, List.getElem_cons_zero, List.getElem_cons_succ]
    clear hw6 s6 o6
    refine wpAnyH_done (by kernel_rfl) ?_ _
    clear hHeld
    have x1 := (X6).range
    have K := rcheck_c (hdk l : Nat) (hdt l : Nat) (hdc l : Nat) (sb (lab l)) u6 (by omega)
    rw [hsl] at K
    rw [hz] at K
    go_wp2_with (first | fail | (refine wpList_load_mid rfl 25 (.tmp 6) rfl p4 0 rfl ([.int .i64 (hdk l : Nat), .int .i64 (hdt l : Nat), .int .i64 (hdc l : Nat), .string (sb (lab l))]) _ (by with_reducible exact x1) Try.underlying25 rfl sizeRt ?_))
    refine K.mono ?_
    rintro e x6 ⟨rfl, h6⟩
    clear K
    have b6 := bchain b6 h6
    have B6 := (B6).up h6
    have X6 := (X6).up h6
    obtain ⟨A5, s5, r5⟩ := cut_l haB c (8 + hdl l) hn hcap (8 + (hdl l : Nat)) (by omega)
    have r5b := r5.below b6 hB
    go_wp2
    have XD := X6.drew
    have YD := B6.drew
    have ZD := b6.drew
    have RD := r5.below ZD hB
    refine wp_region_held_drew (S := fun v => BlkV v p4 25 [.int .i64 (hdk l : Nat), .int .i64 (hdt l : Nat), .int .i64 (hdc l : Nat), .string (sb (lab l))]) (by kernel_rfl) XD (fun hHeld => ?_)
    generalize x6.drew = x7 at *
    refine wpAnyH_take (i := 0) (v := .agg ([.int .i64 (hdk l : Nat), .int .i64 (hdt l : Nat), .int .i64 (hdc l : Nat), .string (sb (lab l))]).toArray) rfl (by kernel_rfl) (by kernel_rfl) (by kernel_rfl) (fun _ _ _ h => h) (yieldsIf_load_mid (by rfl) 25 (.tmp 6) rfl (p4) 0 rfl ([.int .i64 (hdk l : Nat), .int .i64 (hdt l : Nat), .int .i64 (hdc l : Nat), .string (sb (lab l))]) _ (fun v hv => hv.range) Try.underlying25 rfl sizeRt) (by with_reducible assumption) ?_
    simp only [Act.put, List.setIfInBounds_toArray, List.set_cons_zero, List.set_cons_succ, List.getElem_toArray, List.getElem_cons_zero, List.getElem_cons_succ]
    refine wpAnyH_take (i := 1) (v := ?_) rfl (by kernel_rfl) (by kernel_rfl) (by kernel_rfl) (fun _ _ _ h => h) (Or.inl ⟨by rfl, fun v hv => ?_⟩) (by with_reducible assumption) ?_
    rotate_left
    · go_simp
      try with_reducible rfl
    simp only [Act.put, List.setIfInBounds_toArray, List.set_cons_zero, List.set_cons_succ, List.getElem_toArray, List.getElem_cons_zero, List.getElem_cons_succ]
    refine wpAnyH_take (i := 2) (v := ?_) rfl (by kernel_rfl) (by kernel_rfl) (by kernel_rfl) (fun _ _ _ h => h) (Or.inl ⟨by rfl, fun v hv => ?_⟩) (by with_reducible assumption) ?_
    rotate_left
    · go_simp
      try with_reducible rfl
    simp only [Act.put, List.setIfInBounds_toArray, List.set_cons_zero, List.set_cons_succ, List.getElem_toArray, List.getElem_cons_zero, List.getElem_cons_succ]
    refine wpAnyH_take (i := 3) (v := ?_) rfl (by kernel_rfl) (by kernel_rfl) (by kernel_rfl) (fun _ _ _ h => h) (Or.inl ⟨by rfl, fun v hv => ?_⟩) (by with_reducible assumption) ?_
    rotate_left
    · have hcc := s5
      go_simp
      try with_reducible rfl
    simp only [Act.put, List.setIfInBounds_toArray, List.set_cons_zero, List.set_cons_succ, List.getElem_toArray, List.getElem_cons_zero, List.getElem_cons_succ]
    obtain ⟨w9, hw9⟩ : ∃ y, y = x7.setCells w.heap.size 0 [.int .i64 (hdk l : Nat), .int .i64 (hdt l : Nat), .int .i64 (hdc l : Nat), .string (sb (lab l))] := ⟨_, rfl⟩
    obtain ⟨B9, b9, s9, o9⟩ := own_whole [.int .i64 (hdk l : Nat), .int .i64 (hdt l : Nat), .int .i64 (hdc l : Nat), .string (sb (lab l))] YD rfl ZD (Nat.le_refl _)
    rw [← hw9] at B9 b9 s9 o9
    have X9 : BlkV w9 p4 25 [.int .i64 (hdk l : Nat), .int .i64 (hdt l : Nat), .int .i64 (hdc l : Nat), .string (sb (lab l))] := ⟨(o9 _ (Ne.symm n4)).trans XD.heap⟩
    have r9 := r5.below b9 hB
    refine wpAnyH_ready (rs := [4]) (by kernel_rfl) (by simp) ?_
    refine AllReadyH.cons rfl (fun K hK => ?_) AllReadyH.nil
    refine ready_go (by rfl) ?_
    refine wp_store_to 25 (.tmp 2) (.tmp 47) rfl w.heap.size 0 [.int .i64 (hdk l : Nat), .int .i64 (hdt l : Nat), .int .i64 (hdc l : Nat), .string (sb (lab l))] w9 hw9 rfl rfl (YD.there 0 4 (by simp)) sizeRt (oneIt _ _ _ _) ?_
    refine hK.out _ _ X9 (fun hHeld => ?_)
    clear hK K
    try simp only [Act.put, List.setIfInBounds_toArray, List.set_cons_zero, List.set_cons_succ, List.getElem_toArray, List.getElem_cons_zero, List.getElem_cons_succ]
    refine wpAnyH_take (i := 5) (v := ?_) rfl (by kernel_rfl) (by kernel_rfl) (by kernel_rfl) (fun _ _ _ h => h) (Or.inl ⟨by rfl, fun v hv => ?_⟩) (by with_reducible assumption) ?_
    rotate_left
    · go_simp
      try with_reducible rfl
    simp only [Act.put, List.setIfInBounds_toArray, List.set_cons_zero, List.set_cons_succ, List.getElem_toArray, List.getElem_cons_zero, List.getElem_cons_succ]
    refine wpAnyH_take (i := 6) (v := ?_) rfl (by kernel_rfl) (by kernel_rfl) (by kernel_rfl) (fun _ _ _ h => h) (Or.inl ⟨by rfl, fun v hv => ?_⟩) (by with_reducible assumption) ?_
    rotate_left
    · go_simp
      try with_reducible rfl
    simp only [Act.put, List.setIfInBounds_toArray, List.set_cons_zero, List.set_cons_succ, List.getElem_toArray, List.getElem_cons_zero, List.getElem_cons_succ]
    refine wpAnyH_done (by kernel_rfl) ?_ _
    clear hw9 hHeld
    go_wp2
    refine bodyPost_ret (results_cell_tmps Try.results32 ⟨w.heap.size, 0, none⟩ _ _ _ rfl (run_loadVar_mid _ w.heap.size 0 25 _ _ B9.range Try.underlying25 rfl sizeRt) rfl rfl) rfl ?_
    exact ⟨A5, rfl, r9, b9⟩
theorem rdecode_ok (A : Option Addr) (n c : Nat) (l : List Nat) (w : World) (ha : Rd8 w w.heap.size A n l) (hn : 8 + hdl l ≤ n) (hcap : n ≤ c) (hn6 : n ≤ 1000000) (hz : ck (hdk l) (hdt l) (hdc l) (hdl l) = 0) :
    Calls Try.prog 32 #[.slice A n c] w fun e w' => ∃ A5, e = .returned (.tuple #[.agg #[.int .i64 (hdk l : Nat), .int .i64 (hdt l : Nat), .int .i64 (hdc l : Nat), .string (sb (lab l))], .slice A5 (n - (8 + hdl l)) (c - (8 + hdl l)), .int .i64 0]) ∧ Rd8 w' w'.heap.size A5 (n - (8 + hdl l)) (l.drop (8 + hdl l)) ∧ Below w.heap.size w w' := by
  refine (rdecode_okB A n c l w ha (Nat.le_refl _) hn hcap hn6 hz).mono ?_
  rintro e w' ⟨A5, rfl, r, b⟩
  exact ⟨A5, rfl, r.more b.size, b⟩
end Go.Proofs.Ytokfldecjknamaa
