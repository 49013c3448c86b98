/-
  matrix.filled: what the call does, whatever the function that tells the elements.
-/
import Derived.Test.YtdepkfdceidikaaDoorMxF
namespace Go.Proofs.YtdepkfdceidikaaDoor
open Go.RowKit
set_option linter.unusedVariables false
set_option linter.unusedSimpArgs false


/-- The elements ahead of row i and column j stand. -/
def MP (X : MZ) (i j : Nat) (s : Nat → Int) : Prop := ∀ i' j', i' < 3 → j' < 3 → i' * 3 + j' < i * 3 + j → Ef s (i' * 12 + j' * 4) (X i' j')
theorem MP.zero (X : MZ) (s : Nat → Int) : MP X 0 0 s := fun i j _ _ h => absurd h (by omega)
theorem MP.put {X : MZ} {i j : Nat} {s g : Nat → Int} (h : MP X i j s) (hi : i < 3) (hj : j < 3) (hg : Ez (.agg (wds 4 g).toArray) (X i j)) : MP X i (j + 1) (fput s (i * 12 + j * 4) 4 g) := by
  intro i' j' hi' hj' hl
  by_cases e : i' * 3 + j' < i * 3 + j
  · exact (h i' j' hi' hj' e).putO (by omega)
  · obtain rfl : i' = i := by omega
    obtain rfl : j' = j := by omega
    exact Ef.put _ hg
theorem MP.turn {X : MZ} {i : Nat} {s : Nat → Int} (h : MP X i 3 s) : MP X (i + 1) 0 s := fun i' j' hi' hj' hl => h i' j' hi' hj' (by omega)
theorem MP.end_ {X : MZ} {s : Nat → Int} (h : MP X 3 0 s) : MatZ s X := ⟨fun i j hi hj => h i j hi hj (by omega)⟩
/-- A call of a function's value. -/
theorem wp_call_func {op : Oper} {a : Act} {w : World} {K : Act → World → Prop} {Q : Exit → Act → World → Prop} (x : Operand) {args : Array Operand} {ats : Array TypeId} (ho : op.op = .call { callee := .value x, args := args, argTypes := ats })
    (n : Nat) (first cap : Array Value) (hx : a.eval x = .func (.func n) first cap) (hf : ∀ A v, (callFunc n A).run Tryd.prog v = .ok (.enter n A) v) (xs : Array Value) (has : args.map a.eval = xs)
    (h : Calls Tryd.prog n (first ++ xs ++ cap) w fun e w' => ∃ r, e = .returned r ∧ K (a.put op.dst r) w') : op.wp Tryd.prog a w K Q := by
  unfold Oper.wp execOp
  simp only [ho, resolve, Deferred.ofValue, hx, has, invoke, Sem.run_bind, Sem.run_pure, Result.andThen_ok, hf]
  refine Calls.mono h ?_
  rintro e w' ⟨r, rfl, hr⟩
  exact hr
set_option maxRecDepth 20000 in
set_option maxHeartbeats 1000000 in
theorem filled_c (n : Nat) (first cap : Array Value) (X : MZ) (w : World) (hf : ∀ A v, (callFunc n A).run Tryd.prog v = .ok (.enter n A) v)
    (HC : ∀ v i j, i < 3 → j < 3 → Below w.heap.size w v → Calls Tryd.prog n (first ++ #[.int .i64 ((i : Nat) : Int), .int .i64 ((j : Nat) : Int)] ++ cap) v fun e v' => ∃ r, e = .returned r ∧ Ez r (X i j) ∧ Below v.heap.size v v') :
    Calls Tryd.prog 32 #[.func (.func n) first cap] w fun e w' => ∃ g, e = .returned (.agg (wds 36 g).toArray) ∧ MatZ g X ∧ Below w.heap.size w w' := by
  have hz := zeroM
  have hlz := wds_len 36 z0
  have e1 : (w.alloc (oF 40 36 z0)).heap.size = w.heap.size + 1 := by simp
  have h1 := (oF_new w 40 36 z0).alloc (oF 40 36 z0)
  have h2 := oF_new (w.alloc (oF 40 36 z0)) 40 36 z0
  rw [e1] at h2
  have hb := ((Below.refl w.heap.size w).alloc (Nat.le_refl _) (oF 40 36 z0)).alloc (by omega) (oF 40 36 z0)
  have R0 := hid (show FRel w (w.heap.size + 1) 40 36 (MP X 0 0) w.heap.size 40 36 w.heap.size 40 (wds 36 z0) _ from ⟨⟨z0, h2, MP.zero _ _⟩, h1, h1, hb⟩)
  have HF := hid hf
  have HCC := hid HC
  clear h1 h2 e1 hb hf HC
  unfold oF at R0
  go_enter Tryd.func32, Tryd.ntmps32
  go_wp2_with fail
  generalize ((w.alloc _).alloc _) = w0 at *
  go_loopw [6] (fun i wr => ∃ k : Nat, k ≤ 3 ∧ i = .int .i64 k ∧ FRel w (w.heap.size + 1) 40 36 (MP X k 0) w.heap.size 40 36 w.heap.size 40 (wds 36 z0) wr) (fun i _ => 3 - (intOf i).toNat)
  case atStart => exact ⟨0, by omega, rfl, R0.out⟩
  case round =>
    clear R0
    obtain ⟨k, hk, rfl, hrel⟩ := hrel
    by_cases hlt : k < 3
    · have i0 : (0 : Int) ≤ (k : Int) := by omega
      have i2 : (k : Int) < 3 := by omega
      have HR := hid hrel
      clear hrel
      go_wp2_with fail
      obtain ⟨w1, rfl⟩ : ∃ x, x = wr := ⟨wr, rfl⟩
      go_loopw [9] (fun i wr => ∃ m : Nat, m ≤ 3 ∧ i = .int .i64 m ∧ FRel w (w.heap.size + 1) 40 36 (MP X k m) w.heap.size 40 36 w.heap.size 40 (wds 36 z0) wr) (fun i _ => 3 - (intOf i).toNat)
      case atStart => exact ⟨0, by omega, rfl, HR.out⟩
      case round =>
        clear HR
        obtain ⟨m, hm, rfl, hrel⟩ := hrel
        by_cases hltm : m < 3
        · have j0 : (0 : Int) ≤ (m : Int) := by omega
          have j2 : (m : Int) < 3 := by omega
          have HR := hid hrel
          clear hrel
          go_wp2_with fail
          have hr0 := FRel.up HR.out (Below.refl _ _).drew
          refine wp_region_held_drew (S := fun v => True) (by kernel_rfl) trivial (fun hHeld => ?_)
          refine wpAnyH_take (i := 0) (v := ?_) rfl (by kernel_rfl) (by kernel_rfl) (by kernel_rfl) (fun _ _ _ h => h) (Or.inl ⟨by rfl, fun v hv => ?_⟩) (by with_reducible assumption) ?_
          rotate_left
          · go_simp
            try with_reducible rfl
          simp only [Act.put, List.setIfInBounds_toArray, List.set_cons_zero, List.set_cons_succ, List.getElem_toArray, List.getElem_cons_zero, List.getElem_cons_succ]
          refine wpAnyH_take (i := 1) (v := ?_) rfl (by kernel_rfl) (by kernel_rfl) (by kernel_rfl) (fun _ _ _ h => h) (Or.inl ⟨by rfl, fun v hv => ?_⟩) (by with_reducible assumption) ?_
          rotate_left
          · go_simp
            try with_reducible rfl
          simp only [Act.put, List.setIfInBounds_toArray, List.set_cons_zero, List.set_cons_succ, List.getElem_toArray, List.getElem_cons_zero, List.getElem_cons_succ]
          refine wpAnyH_take (i := 2) (v := ?_) rfl (by kernel_rfl) (by kernel_rfl) (by kernel_rfl) (fun _ _ _ h => h) (Or.inl ⟨by rfl, fun v hv => ?_⟩) (by with_reducible assumption) ?_
          rotate_left
          · go_simp
            try with_reducible rfl
          simp only [Act.put, List.setIfInBounds_toArray, List.set_cons_zero, List.set_cons_succ, List.getElem_toArray, List.getElem_cons_zero, List.getElem_cons_succ]
          refine wpAnyH_take (i := 3) (v := ?_) rfl (by kernel_rfl) (by kernel_rfl) (by kernel_rfl) (fun _ _ _ h => h) (Or.inl ⟨by rfl, fun v hv => ?_⟩) (by with_reducible assumption) ?_
          rotate_left
          · go_simp
            try with_reducible rfl
          simp only [Act.put, List.setIfInBounds_toArray, List.set_cons_zero, List.set_cons_succ, List.getElem_toArray, List.getElem_cons_zero, List.getElem_cons_succ]
          refine wpAnyH_take (i := 4) (v := ?_) rfl (by kernel_rfl) (by kernel_rfl) (by kernel_rfl) (fun _ _ _ h => h) (Or.inl ⟨by rfl, fun v hv => ?_⟩) (by with_reducible assumption) ?_
          rotate_left
          · go_simp
            try with_reducible rfl
          simp only [Act.put, List.setIfInBounds_toArray, List.set_cons_zero, List.set_cons_succ, List.getElem_toArray, List.getElem_cons_zero, List.getElem_cons_succ]
          refine wpAnyH_take (i := 6) (v := ?_) rfl (by kernel_rfl) (by kernel_rfl) (by kernel_rfl) (fun _ _ _ h => h) (Or.inl ⟨by rfl, fun v hv => ?_⟩) (by with_reducible assumption) ?_
          rotate_left
          · go_simp
            try with_reducible rfl
          simp only [Act.put, List.setIfInBounds_toArray, List.set_cons_zero, List.set_cons_succ, List.getElem_toArray, List.getElem_cons_zero, List.getElem_cons_succ]
          refine wpAnyH_ready (rs := [5]) (by kernel_rfl) (by simp) ?_
          refine (AllReadyH.cons rfl (fun K hK => ?_) AllReadyH.nil)
          refine ready_go (by rfl) ?_
          refine wp_call_func (.tmp 14) rfl _ _ _ rfl (HF.out) (#[.int .i64 (k : Int), .int .i64 (m : Int)]) (by simp [Act.eval]) ((HCC.out wr.drew k m hlt hltm (hr0).b).mono ?_)
          rintro e wq1 ⟨_, rfl, he1, hbq1⟩
          refine ⟨_, rfl, ?_⟩
          have hr_q1 := (hr0).up hbq1
          obtain ⟨gr, rfl⟩ := he1.fn
          refine hK.out _ _ (trivial) (fun hHeld => ?_)
          clear hK K
          try simp only [Act.put, List.setIfInBounds_toArray, List.set_cons_zero, List.set_cons_succ, List.getElem_toArray, List.getElem_cons_zero, List.getElem_cons_succ]
          refine wpAnyH_take (i := 7) (v := ?_) rfl (by kernel_rfl) (by kernel_rfl) (by kernel_rfl) (fun _ _ _ h => h) (Or.inl ⟨by rfl, fun v hv => ?_⟩) (by with_reducible assumption) ?_
          rotate_left
          · go_simp
            try with_reducible rfl
          simp only [Act.put, List.setIfInBounds_toArray, List.set_cons_zero, List.set_cons_succ, List.getElem_toArray, List.getElem_cons_zero, List.getElem_cons_succ]
          refine wpAnyH_ready (rs := [8]) (by kernel_rfl) (by simp) ?_
          refine (AllReadyH.cons rfl (fun K hK => ?_) AllReadyH.nil)
          refine ready_go (by rfl) ?_
          refine wp_store_mid 27 (.tmp 19) (.tmp 17) rfl (w.heap.size + 1) (k * 12 + m * 4) (wds 4 gr).toArray rfl rfl ((hr_q1).there (k * 12 + m * 4) 4 gr (by omega)) (sizeEA _) (wds_all _ _) ?_
          have hstq2 := (hr_q1).set (P' := MP X k (m + 1)) (k * 12 + m * 4) 4 gr (by omega) (by omega) (by omega) (by omega) (fun _ hs => MP.put hs hlt hltm he1)
          refine hK.out _ _ (trivial) (fun hHeld => ?_)
          clear hK K
          try simp only [Act.put, List.setIfInBounds_toArray, List.set_cons_zero, List.set_cons_succ, List.getElem_toArray, List.getElem_cons_zero, List.getElem_cons_succ]
          refine wpAnyH_done (by kernel_rfl) ?_ _
          go_wp2_with fail
          go_roundw
          case rel => exact ⟨m + 1, by omega, by go_num, hstq2⟩
          case measure => simp [intOf]; omega
        · obtain rfl : m = 3 := by omega
          have HR := hid (hrel.weak (P' := MP X (k + 1) 0) (fun _ hs => hs.turn))
          clear hrel
          go_wp2_with fail
          go_roundw
          case rel => exact ⟨k + 1, by omega, by go_num, HR.out⟩
          case measure => simp [intOf]; omega
    · obtain rfl : k = 3 := by omega
      obtain ⟨⟨g, h1, h2⟩, h3, h4, h5⟩ := hrel
      have HO := hid h1.range
      have HV := hid (MP.end_ h2)
      have HT := hid (h3.thereW 0 36 g (by decide))
      have HR := hid (h3.lay0 g).range
      have HB := hid (below_cells (show w.heap.size ≤ w.heap.size by omega) (wds 36 g) 0 _ h5)
      clear h1 h2 h3 h4 h5
      go_wp2_with (first
    | with_reducible refine wpList_load_mid rfl 40 (.tmp 3) rfl (w.heap.size + 1) (0) rfl (wds 36 g) _ (by with_reducible exact HO.out) Tryd.underlying40 rfl (sizeM _) ?_
    | with_reducible refine wpList_store_mid rfl 40 (.tmp 2) (.tmp 22) rfl (w.heap.size) (0) (wds 36 g).toArray rfl rfl (by with_reducible exact HT.out) (sizeMA _) (wds_all _ _) ?_)
      refine bodyPost_ret (results_cell1 Tryd.results32 ⟨w.heap.size, 0, none⟩ _ rfl (run_loadVar_mid _ w.heap.size 0 40 (wds 36 g) _ HR.out Tryd.underlying40 rfl (sizeM _))) rfl ?_
      exact ⟨_, rfl, HV.out, HB.out⟩
end Go.Proofs.YtdepkfdceidikaaDoor
