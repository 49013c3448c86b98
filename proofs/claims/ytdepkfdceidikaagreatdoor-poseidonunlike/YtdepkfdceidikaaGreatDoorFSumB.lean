import Derived.Test.YtdepkfdceidikaaGreatDoorMxD
import Derived.Test.YtdepkfdceidikaaGreatDoorFldJ
import Derived.Test.YtdepkfdceidikaaGreatDoorLNew
import Derived.Laws.OwnMore
/-
  matrix.Matrix.without: what the call does.
-/
namespace Go.Proofs.YtdepkfdceidikaaGreatDoor
open Go.RowKit
set_option linter.unusedVariables false
set_option linter.unusedSimpArgs false


theorem otL_lt {i : Nat} (h : i < 3) : otL i < 3 := by unfold otL; split <;> omega
theorem otR_lt {i : Nat} (h : i < 3) : otR i < 3 := by unfold otR; split <;> omega
/-- The determinant of what is left without a row and a column. -/
def mzWo (M : MZ) (i j : Nat) : Int := M (otL i) (otL j) * M (otR i) (otR j) - M (otL i) (otR j) * M (otR i) (otL j)
end Go.Proofs.YtdepkfdceidikaaGreatDoor
/-
  matrix.Matrix.Determinant: what the call does.
-/
namespace Go.Proofs.YtdepkfdceidikaaGreatDoor
open Go.RowKit
set_option linter.unusedVariables false
set_option linter.unusedSimpArgs false


/-- The three products of the first row. -/
def mzP (M : MZ) (j : Nat) : Int := M 0 j * mzWo M 0 j
theorem mzDet_P (M : MZ) : mzP M 0 - mzP M 1 + mzP M 2 = mzDet M := rfl
end Go.Proofs.YtdepkfdceidikaaGreatDoor
/-
  matrix.filled: what the call does, whatever the function that tells the elements.
-/
namespace Go.Proofs.YtdepkfdceidikaaGreatDoor
open Go.RowKit
set_option linter.unusedVariables false
set_option linter.unusedSimpArgs false


/-- The elements ahead of row i and column j stand. -/
def MP (X : MZ) (i j : Nat) (s : Nat → Int) : Prop := ∀ i' j', i' < 3 → j' < 3 → i' * 3 + j' < i * 3 + j → Ef s (i' * 12 + j' * 4) (X i' j')
theorem MP.zero (X : MZ) (s : Nat → Int) : MP X 0 0 s := fun i j _ _ h => absurd h (by omega)
theorem MP.put {X : MZ} {i j : Nat} {s g : Nat → Int} (h : MP X i j s) (hi : i < 3) (hj : j < 3) (hg : Ez (.agg (wds 4 g).toArray) (X i j)) : MP X i (j + 1) (fput s (i * 12 + j * 4) 4 g) := by
  intro i' j' hi' hj' hl
  by_cases e : i' * 3 + j' < i * 3 + j
  · exact (h i' j' hi' hj' e).putO (by omega)
  · obtain rfl : i' = i := by omega
    obtain rfl : j' = j := by omega
    exact Ef.put _ hg
theorem MP.turn {X : MZ} {i : Nat} {s : Nat → Int} (h : MP X i 3 s) : MP X (i + 1) 0 s := fun i' j' hi' hj' hl => h i' j' hi' hj' (by omega)
theorem MP.end_ {X : MZ} {s : Nat → Int} (h : MP X 3 0 s) : MatZ s X := ⟨fun i j hi hj => h i j hi hj (by omega)⟩
/-- A call of a function's value. -/
theorem wp_call_func {op : Oper} {a : Act} {w : World} {K : Act → World → Prop} {Q : Exit → Act → World → Prop} (x : Operand) {args : Array Operand} {ats : Array TypeId} (ho : op.op = .call { callee := .value x, args := args, argTypes := ats })
    (n : Nat) (first cap : Array Value) (hx : a.eval x = .func (.func n) first cap) (hf : ∀ A v, (callFunc n A).run Tryz.prog v = .ok (.enter n A) v) (xs : Array Value) (has : args.map a.eval = xs)
    (h : Calls Tryz.prog n (first ++ xs ++ cap) w fun e w' => ∃ r, e = .returned r ∧ K (a.put op.dst r) w') : op.wp Tryz.prog a w K Q := by
  unfold Oper.wp execOp
  simp only [ho, resolve, Deferred.ofValue, hx, has, invoke, Sem.run_bind, Sem.run_pure, Result.andThen_ok, hf]
  refine Calls.mono h ?_
  rintro e w' ⟨r, rfl, hr⟩
  exact hr
set_option maxRecDepth 20000 in
set_option maxHeartbeats 1000000 in
theorem filled_c (n : Nat) (first cap : Array Value) (X : MZ) (w : World) (hf : ∀ A v, (callFunc n A).run Tryz.prog v = .ok (.enter n A) v)
    (HC : ∀ v i j, i < 3 → j < 3 → Below w.heap.size w v → Calls Tryz.prog n (first ++ #[.int .i64 ((i : Nat) : Int), .int .i64 ((j : Nat) : Int)] ++ cap) v fun e v' => ∃ r, e = .returned r ∧ Ez r (X i j) ∧ Below v.heap.size v v') :
    Calls Tryz.prog 46 #[.func (.func n) first cap] w fun e w' => ∃ g, e = .returned (.agg (wds 36 g).toArray) ∧ MatZ g X ∧ Below w.heap.size w w' := by
  have hz := zeroM
  have hlz := wds_len 36 z0
  have e1 : (w.alloc (oF 57 36 z0)).heap.size = w.heap.size + 1 := by simp
  have h1 := (oF_new w 57 36 z0).alloc (oF 57 36 z0)
  have h2 := oF_new (w.alloc (oF 57 36 z0)) 57 36 z0
  rw [e1] at h2
  have hb := ((Below.refl w.heap.size w).alloc (Nat.le_refl _) (oF 57 36 z0)).alloc (by omega) (oF 57 36 z0)
  have R0 := hid (show FRel w (w.heap.size + 1) 57 36 (MP X 0 0) w.heap.size 57 36 w.heap.size 57 (wds 36 z0) _ from ⟨⟨z0, h2, MP.zero _ _⟩, h1, h1, hb⟩)
  have HF := hid hf
  have HCC := hid HC
  clear h1 h2 e1 hb hf HC
  unfold oF at R0
  go_enter Tryz.func46, Tryz.ntmps46
  go_wp2_with fail
  generalize ((w.alloc _).alloc _) = w0 at *
  go_loopw [6] (fun i wr => ∃ k : Nat, k ≤ 3 ∧ i = .int .i64 k ∧ FRel w (w.heap.size + 1) 57 36 (MP X k 0) w.heap.size 57 36 w.heap.size 57 (wds 36 z0) wr) (fun i _ => 3 - (intOf i).toNat)
  case atStart => exact ⟨0, by omega, rfl, R0.out⟩
  case round =>
    clear R0
    obtain ⟨k, hk, rfl, hrel⟩ := hrel
    by_cases hlt : k < 3
    · have i0 : (0 : Int) ≤ (k : Int) := by omega
      have i2 : (k : Int) < 3 := by omega
      have HR := hid hrel
      clear hrel
      go_wp2_with fail
      obtain ⟨w1, rfl⟩ : ∃ x, x = wr := ⟨wr, rfl⟩
      go_loopw [9] (fun i wr => ∃ m : Nat, m ≤ 3 ∧ i = .int .i64 m ∧ FRel w (w.heap.size + 1) 57 36 (MP X k m) w.heap.size 57 36 w.heap.size 57 (wds 36 z0) wr) (fun i _ => 3 - (intOf i).toNat)
      case atStart => exact ⟨0, by omega, rfl, HR.out⟩
      case round =>
        clear HR
        obtain ⟨m, hm, rfl, hrel⟩ := hrel
        by_cases hltm : m < 3
        · have j0 : (0 : Int) ≤ (m : Int) := by omega
          have j2 : (m : Int) < 3 := by omega
          have HR := hid hrel
          clear hrel
          go_wp2_with fail
          have hr0 := FRel.up HR.out (Below.refl _ _).drew
          refine wp_region_held_drew (S := fun v => True) (by kernel_rfl) trivial (fun hHeld => ?_)
          refine wpAnyH_take (i := 0) (v := ?_) rfl (by kernel_rfl) (by kernel_rfl) (by kernel_rfl) (fun _ _ _ h => h) (Or.inl ⟨by rfl, fun v hv => ?_⟩) (by with_reducible assumption) ?_
          rotate_left
          · go_simp
            try with_reducible rfl
          simp only [Act.put, List.setIfInBounds_toArray, List.set_cons_zero, List.set_cons_succ, List.getElem_toArray, List.getElem_cons_zero, List.getElem_cons_succ]
          refine wpAnyH_take (i := 1) (v := ?_) rfl (by kernel_rfl) (by kernel_rfl) (by kernel_rfl) (fun _ _ _ h => h) (Or.inl ⟨by rfl, fun v hv => ?_⟩) (by with_reducible assumption) ?_
          rotate_left
          · go_simp
            try with_reducible rfl
          simp only [Act.put, List.setIfInBounds_toArray, List.set_cons_zero, List.set_cons_succ, List.getElem_toArray, List.getElem_cons_zero, List.getElem_cons_succ]
          refine wpAnyH_take (i := 2) (v := ?_) rfl (by kernel_rfl) (by kernel_rfl) (by kernel_rfl) (fun _ _ _ h => h) (Or.inl ⟨by rfl, fun v hv => ?_⟩) (by with_reducible assumption) ?_
          rotate_left
          · go_simp
            try with_reducible rfl
          simp only [Act.put, List.setIfInBounds_toArray, List.set_cons_zero, List.set_cons_succ, List.getElem_toArray, List.getElem_cons_zero, List.getElem_cons_succ]
          refine wpAnyH_take (i := 3) (v := ?_) rfl (by kernel_rfl) (by kernel_rfl) (by kernel_rfl) (fun _ _ _ h => h) (Or.inl ⟨by rfl, fun v hv => ?_⟩) (by with_reducible assumption) ?_
          rotate_left
          · go_simp
            try with_reducible rfl
          simp only [Act.put, List.setIfInBounds_toArray, List.set_cons_zero, List.set_cons_succ, List.getElem_toArray, List.getElem_cons_zero, List.getElem_cons_succ]
          refine wpAnyH_take (i := 4) (v := ?_) rfl (by kernel_rfl) (by kernel_rfl) (by kernel_rfl) (fun _ _ _ h => h) (Or.inl ⟨by rfl, fun v hv => ?_⟩) (by with_reducible assumption) ?_
          rotate_left
          · go_simp
            try with_reducible rfl
          simp only [Act.put, List.setIfInBounds_toArray, List.set_cons_zero, List.set_cons_succ, List.getElem_toArray, List.getElem_cons_zero, List.getElem_cons_succ]
          refine wpAnyH_take (i := 6) (v := ?_) rfl (by kernel_rfl) (by kernel_rfl) (by kernel_rfl) (fun _ _ _ h => h) (Or.inl ⟨by rfl, fun v hv => ?_⟩) (by with_reducible assumption) ?_
          rotate_left
          · go_simp
            try with_reducible rfl
          simp only [Act.put, List.setIfInBounds_toArray, List.set_cons_zero, List.set_cons_succ, List.getElem_toArray, List.getElem_cons_zero, List.getElem_cons_succ]
          refine wpAnyH_ready (rs := [5]) (by kernel_rfl) (by simp) ?_
          refine (AllReadyH.cons rfl (fun K hK => ?_) AllReadyH.nil)
          refine ready_go (by rfl) ?_
          refine wp_call_func (.tmp 14) rfl _ _ _ rfl (HF.out) (#[.int .i64 (k : Int), .int .i64 (m : Int)]) (by simp [Act.eval]) ((HCC.out wr.drew k m hlt hltm (hr0).b).mono ?_)
          rintro e wq1 ⟨_, rfl, he1, hbq1⟩
          refine ⟨_, rfl, ?_⟩
          have hr_q1 := (hr0).up hbq1
          obtain ⟨gr, rfl⟩ := he1.fn
          refine hK.out _ _ (trivial) (fun hHeld => ?_)
          clear hK K
          try simp only [Act.put, List.setIfInBounds_toArray, List.set_cons_zero, List.set_cons_succ, List.getElem_toArray, List.getElem_cons_zero, List.getElem_cons_succ]
          refine wpAnyH_take (i := 7) (v := ?_) rfl (by kernel_rfl) (by kernel_rfl) (by kernel_rfl) (fun _ _ _ h => h) (Or.inl ⟨by rfl, fun v hv => ?_⟩) (by with_reducible assumption) ?_
          rotate_left
          · go_simp
            try with_reducible rfl
          simp only [Act.put, List.setIfInBounds_toArray, List.set_cons_zero, List.set_cons_succ, List.getElem_toArray, List.getElem_cons_zero, List.getElem_cons_succ]
          refine wpAnyH_ready (rs := [8]) (by kernel_rfl) (by simp) ?_
          refine (AllReadyH.cons rfl (fun K hK => ?_) AllReadyH.nil)
          refine ready_go (by rfl) ?_
          refine wp_store_mid 37 (.tmp 19) (.tmp 17) rfl (w.heap.size + 1) (k * 12 + m * 4) (wds 4 gr).toArray rfl rfl ((hr_q1).there (k * 12 + m * 4) 4 gr (by omega)) (sizeEA _) (wds_all _ _) ?_
          have hstq2 := (hr_q1).set (P' := MP X k (m + 1)) (k * 12 + m * 4) 4 gr (by omega) (by omega) (by omega) (by omega) (fun _ hs => MP.put hs hlt hltm he1)
          refine hK.out _ _ (trivial) (fun hHeld => ?_)
          clear hK K
          try simp only [Act.put, List.setIfInBounds_toArray, List.set_cons_zero, List.set_cons_succ, List.getElem_toArray, List.getElem_cons_zero, List.getElem_cons_succ]
          refine wpAnyH_done (by kernel_rfl) ?_ _
          go_wp2_with fail
          go_roundw
          case rel => exact ⟨m + 1, by omega, by go_num, hstq2⟩
          case measure => simp [intOf]; omega
        · obtain rfl : m = 3 := by omega
          have HR := hid (hrel.weak (P' := MP X (k + 1) 0) (fun _ hs => hs.turn))
          clear hrel
          go_wp2_with fail
          go_roundw
          case rel => exact ⟨k + 1, by omega, by go_num, HR.out⟩
          case measure => simp [intOf]; omega
    · obtain rfl : k = 3 := by omega
      obtain ⟨⟨g, h1, h2⟩, h3, h4, h5⟩ := hrel
      have HO := hid h1.range
      have HV := hid (MP.end_ h2)
      have HT := hid (h3.thereW 0 36 g (by decide))
      have HR := hid (h3.lay0 g).range
      have HB := hid (below_cells (show w.heap.size ≤ w.heap.size by omega) (wds 36 g) 0 _ h5)
      clear h1 h2 h3 h4 h5
      go_wp2_with (first
    | with_reducible refine wpList_load_mid rfl 57 (.tmp 3) rfl (w.heap.size + 1) (0) rfl (wds 36 g) _ (by with_reducible exact HO.out) Tryz.underlying57 rfl (sizeM _) ?_
    | with_reducible refine wpList_store_mid rfl 57 (.tmp 2) (.tmp 22) rfl (w.heap.size) (0) (wds 36 g).toArray rfl rfl (by with_reducible exact HT.out) (sizeMA _) (wds_all _ _) ?_)
      refine bodyPost_ret (results_cell1 Tryz.results46 ⟨w.heap.size, 0, none⟩ _ rfl (run_loadVar_mid _ w.heap.size 0 57 (wds 36 g) _ HR.out Tryz.underlying57 rfl (sizeM _))) rfl ?_
      exact ⟨_, rfl, HV.out, HB.out⟩
end Go.Proofs.YtdepkfdceidikaaGreatDoor
/-
  matrix.Mul, Cauchy, Unit and their functions: what each call does.
-/
namespace Go.Proofs.YtdepkfdceidikaaGreatDoor
open Go.RowKit
set_option linter.unusedVariables false
set_option linter.unusedSimpArgs false


theorem dotZ_mul (X Y : MZ) (i j : Nat) : dotZ (X i) (fun k => Y k j) 3 = mzMul X Y i j := by
  show 0 + X i 0 * Y 0 j + X i 1 * Y 1 j + X i 2 * Y 2 j = X i 0 * Y 0 j + X i 1 * Y 1 j + X i 2 * Y 2 j
  rw [Int.zero_add]
/-- Cauchy's matrix. -/
def mzCauchy : MZ := fun i j => invZ ((i + j + 3 : Nat) : Int)
set_option maxRecDepth 20000 in
set_option maxHeartbeats 1000000 in
theorem cauchy1_c (i j : Nat) (hi : i < 3) (hj : j < 3) (w : World) (hG : Glob w) :
    Calls Tryz.prog 47 #[.int .i64 (i : Int), .int .i64 (j : Int)] w fun e w' => ∃ r, e = .returned r ∧ Ez r (mzCauchy i j) ∧ Below w.heap.size w w' := by
  have hz := zeroE
  have hlz := wds_len 4 z0
  have HN := hid (oF_new w 37 4 z0)
  have HW := hid ((Below.refl w.heap.size w).alloc (Nat.le_refl _) (oF 37 4 z0))
  have HG := hid hG
  have hw1 : IntKind.u64.wrap ((i : Int) + (j : Int) + 3) = ((i + j + 3 : Nat) : Int) := by rw [IntKind.wrap_u64]; omega
  obtain ⟨n, hn⟩ : ∃ n, n = i + j + 3 := ⟨_, rfl⟩
  have HX : Hid (mzCauchy i j = invZ ((n : Nat) : Int)) := by rw [hn]; exact rfl
  rw [HX.out]
  rw [← hn] at hw1
  have hn64 : n < 18446744073709551616 := by omega
  have i2 : (i : Int) < 3 := by omega
  have j2 : (j : Int) < 3 := by omega
  clear hG HX hn
  unfold oF at HN HW
  go_enter Tryz.func47, Tryz.ntmps47
  go_wp2_with fail
  generalize (w.alloc _) = w0 at *
  refine (fromUint64Z_c n w0 hn64 (HG.out.up HW.out)).mono ?_
  rintro e w1 ⟨r1, rfl, he1, b1⟩
  have HE := hid he1
  have B1 := hid b1
  clear he1 b1
  go_wp2_with fail
  refine (einverseZ_c r1 _ w1 HE.out (HG.out.up (bchain HW.out B1.out))).mono ?_
  rintro e w2 ⟨r2, rfl, he2, b2⟩
  obtain ⟨gr, rfl⟩ := he2.fn
  have h3 := (HN.out.up B1.out).up b2
  have HT := hid (h3.thereW 0 4 gr (by decide))
  have HR := hid (h3.lay0 gr).range
  have HV := hid he2
  have HB1 := hid (below_cells (Nat.le_refl w.heap.size) (wds 4 gr) 0 _ (bchain HW.out (bchain B1.out b2)))
  clear h3 he2 b2
  go_wp2_with (first
    | with_reducible refine wpList_store_mid rfl 37 (.tmp 4) (.tmp 11) rfl (w.heap.size) (0) (wds 4 gr).toArray rfl rfl (by with_reducible exact HT.out) (sizeEA _) (wds_all _ _) ?_)
  refine bodyPost_ret (results_cell1 Tryz.results47 ⟨w.heap.size, 0, none⟩ _ rfl (run_loadVar_mid _ w.heap.size 0 37 (wds 4 gr) _ HR.out Tryz.underlying37 rfl (sizeE _))) rfl ?_
  exact ⟨_, rfl, HV.out, HB1.out⟩
set_option maxRecDepth 20000 in
set_option maxHeartbeats 1000000 in
theorem cauchy_c (w : World) (hG : Glob w) :
    Calls Tryz.prog 23 #[] w fun e w' => ∃ r, e = .returned (.agg (wds 36 r).toArray) ∧ MatZ r mzCauchy ∧ Below w.heap.size w w' := by
  have hz := zeroM
  have hlz := wds_len 36 z0
  have HN := hid (oF_new w 57 36 z0)
  have HW := hid ((Below.refl w.heap.size w).alloc (Nat.le_refl _) (oF 57 36 z0))
  have HG := hid hG
  clear hG
  unfold oF at HN HW
  go_enter Tryz.func23, Tryz.ntmps23
  go_wp2_with fail
  generalize (w.alloc _) = w0 at *
  refine (filled_c 47 #[] #[] mzCauchy w0 (fun A v => by kernel_rfl) (fun v i j hi hj hv => cauchy1_c i j hi hj v (HG.out.up (bchain HW.out hv)))).mono ?_
  rintro e w1 ⟨r, rfl, hr, b1⟩
  have h3 := HN.out.up b1
  have HT := hid (h3.thereW 0 36 r (by decide))
  have HR := hid (h3.lay0 r).range
  have HV := hid hr
  have HB1 := hid (below_cells (Nat.le_refl w.heap.size) (wds 36 r) 0 _ (bchain HW.out b1))
  clear h3 hr b1
  go_wp2_with (first
    | with_reducible refine wpList_store_mid rfl 57 (.tmp 0) (.tmp 1) rfl (w.heap.size) (0) (wds 36 r).toArray rfl rfl (by with_reducible exact HT.out) (sizeMA _) (wds_all _ _) ?_)
  refine bodyPost_ret (results_cell1 Tryz.results23 ⟨w.heap.size, 0, none⟩ _ rfl (run_loadVar_mid _ w.heap.size 0 57 (wds 36 r) _ HR.out Tryz.underlying57 rfl (sizeM _))) rfl ?_
  exact ⟨_, rfl, HV.out, HB1.out⟩
end Go.Proofs.YtdepkfdceidikaaGreatDoor
/-
  Rows of field elements that a call makes and appends to.
-/
namespace Go.Proofs.YtdepkfdceidikaaGreatDoor
open Go.RowKit
set_option linter.unusedVariables false

/-- An element's four words, and its number. -/
abbrev Qd := Int × Int × Int × Int × Nat
def qc (q : Qd) : List Value := [.int .u64 q.1, .int .u64 q.2.1, .int .u64 q.2.2.1, .int .u64 q.2.2.2.1]
def qv (q : Qd) : Value := .agg #[.int .u64 q.1, .int .u64 q.2.1, .int .u64 q.2.2.1, .int .u64 q.2.2.2.1]
def qn (q : Qd) : Nat := q.2.2.2.2
def flat : List Qd → List Value
  | [] => []
  | q :: L => qc q ++ flat L
theorem flat_append (L M : List Qd) : flat (L ++ M) = flat L ++ flat M := by
  induction L with
  | nil => rfl
  | cons q L ih => simp [flat, ih]
theorem flat_length (L : List Qd) : (flat L).length = L.length * 4 := by
  induction L with
  | nil => rfl
  | cons q L ih => simp [flat, qc, ih]; omega
theorem flat_one (L : List Qd) : ∀ u ∈ flat L, u.oneCell' = true := by
  induction L with
  | nil => intro u hu; simp [flat] at hu
  | cons q L ih =>
    intro u hu
    simp only [flat, List.mem_append] at hu
    rcases hu with h | h
    · simp only [qc, List.mem_cons, List.not_mem_nil, or_false] at h
      rcases h with rfl | rfl | rfl | rfl <;> rfl
    · exact ih u h
theorem flat_get (L : List Qd) : ∀ (i : Nat) (q : Qd), L[i]? = some q → ∀ k, k < 4 → (flat L)[i * 4 + k]? = (qc q)[k]? := by
  induction L with
  | nil => intro i q h; simp at h
  | cons p L ih =>
    intro i q h k hk
    cases i with
    | zero =>
      simp only [List.getElem?_cons_zero, Option.some.injEq] at h
      subst h
      simp only [flat, Nat.zero_mul, Nat.zero_add]
      exact List.getElem?_append_left (by simp [qc]; exact hk)
    | succ i =>
      simp only [List.getElem?_cons_succ] at h
      have h1 := ih i q h k hk
      simp only [flat]
      rw [List.getElem?_append_right (by simp [qc]; omega), ← h1]
      congr 1
      simp [qc]
      omega

/-- The slice value v owns the elements L, among the blocks from base on. -/
abbrev OwnE (w : World) (base : Nat) (v : Value) (L : List Qd) : Prop := w.ownsRow base 37 4 v L.length (flat L)

theorem OwnE.rd {w : World} {base : Nat} {v : Value} {L : List Qd} (h : OwnE w base v L) (hel : ∀ q ∈ L, El (qv q) (qn q)) : ∃ A c, v = .slice A L.length c ∧ L.length ≤ c ∧ (c ≤ maxLen) ∧ RdE w w.heap.size A L.length (L.map qn) := by
  rcases h.2 with ⟨rfl, hn⟩ | ⟨g, cap, cur, rfl, hb, hg, hc, hm, _, ht⟩
  · rw [hn]
    have : L = [] := List.eq_nil_of_length_eq_zero hn
    subst this
    exact ⟨none, 0, rfl, Nat.le_refl _, by decide, rfl, fun h => absurd h (by decide)⟩
  · refine ⟨some ⟨g, 0, none⟩, cap, rfl, hc, hm, by simp, fun _ => ⟨g, 0, rfl, (Array.getElem?_eq_some_iff.1 hg).1, fun i hi => ?_⟩⟩
    have hq : L[i]? = some L[i] := List.getElem?_eq_getElem hi
    have hcell : ∀ k, k < 4 → w.cell? ⟨g, 0 + i * 4 + k, none⟩ = (qc L[i])[k]? := by
      intro k hk
      rw [Nat.zero_add, h.cellAt (i * 4 + k) (by omega)]
      exact flat_get L i _ hq k hk
    refine ⟨L[i].1, L[i].2.1, L[i].2.2.1, L[i].2.2.2.1, ?_, hcell 0 (by decide), hcell 1 (by decide), hcell 2 (by decide), hcell 3 (by decide)⟩
    have := hel L[i] (List.getElem_mem hi)
    simp only [List.getD_eq_getElem?_getD, List.getElem?_map, hq, Option.map_some, Option.getD_some]
    exact this

theorem OwnE.mono {w : World} {base base' : Nat} {v : Value} {L : List Qd} (h : OwnE w base v L) (hb : base' ≤ base) : OwnE w base' v L := by
  refine ⟨h.1, ?_⟩
  rcases h.2 with h' | ⟨g, cap, cur, h1, h2, h3⟩
  · exact Or.inl h'
  · exact Or.inr ⟨g, cap, cur, h1, Nat.le_trans hb h2, h3⟩
theorem OwnE.below {w w' : World} {base B : Nat} {v : Value} {L : List Qd} (h : OwnE w base v L) (hb : Below B w w') (hB : w.heap.size ≤ B) : OwnE w' base v L := by
  refine ⟨h.1, ?_⟩
  rcases h.2 with h' | ⟨g, cap, cur, h1, h2, h3, h4⟩
  · exact Or.inl h'
  · exact Or.inr ⟨g, cap, cur, h1, h2, by rw [hb.block g (Nat.lt_of_lt_of_le (Array.getElem?_eq_some_iff.1 h3).1 hB)]; exact h3, h4⟩

theorem el_info : (Tryz.prog.info? 37).map (fun i => (i.zero, i.size, i.bytes)) = some (some (.agg #[.int .u64 0, .int .u64 0, .int .u64 0, .int .u64 0]), 4, 32) := by kernel_rfl

end Go.Proofs.YtdepkfdceidikaaGreatDoor
/-
  Two rows of elements, one grown behind and one grown in front, as avouchlaw02.FieldSums makes them.
-/
namespace Go.Proofs.YtdepkfdceidikaaGreatDoor
open Go.RowKit
set_option linter.unusedVariables false

structure Two (w0 w : World) (va vt : Value) (L : List Qd) : Prop where
  a : OwnE w w0.heap.size va L
  t : OwnE w w0.heap.size vt L.reverse
  ne : vt.ownBlock = none ∨ vt.ownBlock ≠ va.ownBlock
  z : L.length = 0 → vt = .slice none 0 0
  b : Below w0.heap.size w0 w
structure Mid (w0 w : World) (va vt : Value) (L : List Qd) (q : Qd) (be : Nat) : Prop where
  a : OwnE w w0.heap.size va (L ++ [q])
  t : OwnE w w0.heap.size vt L.reverse
  ne : vt.ownBlock = none ∨ vt.ownBlock ≠ va.ownBlock
  z : L.length = 0 → vt = .slice none 0 0
  e : B4 w be q.1 q.2.1 q.2.2.1 q.2.2.2.1
  b : Below w0.heap.size w0 w
theorem Two.up {w0 w w' : World} {va vt : Value} {L : List Qd} (h : Two w0 w va vt L) (hb : Below w.heap.size w w') : Two w0 w' va vt L :=
  ⟨h.a.below hb (Nat.le_refl _), h.t.below hb (Nat.le_refl _), h.ne, h.z, h.b.trans (hb.mono h.b.size)⟩
theorem two_nil (w : World) : Two w w (.slice none 0 0) (.slice none 0 0) [] := ⟨World.ownsRow_nil w _ _ 4, World.ownsRow_nil w _ _ 4, Or.inl rfl, fun _ => rfl, Below.refl _ _⟩
theorem B4.grownBy {w w' : World} {b : Nat} {row : Option Nat} {a0 a1 a2 a3 : Int} (h : B4 w b a0 a1 a2 a3) (hg : w.grownBy w' row) (hne : row ≠ some b) : B4 w' b a0 a1 a2 a3 := by
  have hs := h.size
  obtain ⟨t, h⟩ := h.heap
  exact ⟨t, (hg.block b hs (fun e => hne e.symm)).trans h⟩
theorem lit_cells (w : World) (q : Qd) : ∀ j u, (flat [q])[j]? = some u → (w.alloc (.cells #[.int .u64 q.1, .int .u64 q.2.1, .int .u64 q.2.2.1, .int .u64 q.2.2.2.1] 37)).cell? ((⟨w.heap.size, 0, none⟩ : Addr).add j) = some u := by
  intro j u hj
  have hadd : (⟨w.heap.size, 0, none⟩ : Addr).add j = ⟨w.heap.size, j, none⟩ := by unfold Addr.add; split <;> simp_all
  rw [hadd, cell_of_row _ _ j _ _ (0, 0) (heap_alloc_new w _), ← hj]
  simp [flat, qc]

end Go.Proofs.YtdepkfdceidikaaGreatDoor
