/-
  Nine slices of bytes (N9); avouchlaw09.few; what avouchlaw09.of keeps (OfR).
-/
import Derived.Test.YtdepkfdceidikaaDoorMnA
import Derived.Test.YtdepkfdceidikaaDoorMrB
import Derived.Test.YtdepkfdceidikaaDoorOnlyW
namespace Go.Proofs.YtdepkfdceidikaaDoor
open Go.RowKit
set_option linter.unusedVariables false
set_option linter.unusedSimpArgs false


/-- Nine slices, as cells. -/
noncomputable def sls (A : Nat → Option Addr) (n c : Nat → Nat) : List Value := Classical.choose (p := fun l : List Value => l = (List.range 9).map fun i => .slice (A i) (n i) (c i)) ⟨_, rfl⟩
theorem sls_eq (A : Nat → Option Addr) (n c : Nat → Nat) : sls A n c = (List.range 9).map fun i => .slice (A i) (n i) (c i) := Classical.choose_spec (p := fun l : List Value => l = (List.range 9).map fun i => .slice (A i) (n i) (c i)) ⟨_, rfl⟩
theorem sls_len (A : Nat → Option Addr) (n c : Nat → Nat) : (sls A n c).length = 9 := by simp [sls_eq]
theorem sls_get {A : Nat → Option Addr} {n c : Nat → Nat} {i : Nat} (h : i < 9) : (sls A n c)[i]? = some (.slice (A i) (n i) (c i)) := by
  rw [sls_eq, List.getElem?_map, List.getElem?_range h]
  rfl
structure N9 (w : World) (B : Nat) (A : Nat → Option Addr) (n : Nat → Nat) (l : Nat → List Nat) : Prop where
  at_ : ∀ i, i < 9 → Rd8 w B (A i) (n i) (l i)
theorem N9.below {w w' : World} {B B' : Nat} {A : Nat → Option Addr} {n : Nat → Nat} {l : Nat → List Nat} (h : N9 w B A n l) (hb : Below B' w w') (hB : B ≤ B') : N9 w' B A n l := ⟨fun i hi => (h.at_ i hi).below hb hB⟩
theorem N9.more {w : World} {B B' : Nat} {A : Nat → Option Addr} {n : Nat → Nat} {l : Nat → List Nat} (h : N9 w B A n l) (hB : B ≤ B') : N9 w B' A n l := ⟨fun i hi => (h.at_ i hi).more hB⟩
theorem sizeN : (Tryd.prog.info? 35).map (·.size) = some 9 := by kernel_rfl
theorem sizeNA (A : Nat → Option Addr) (n c : Nat → Nat) : (Tryd.prog.info? 35).map (·.size) = some (sls A n c).length := sizeN.trans (congrArg some (sls_len A n c).symm)
theorem szRunS (w : World) : (sizeOf 22).run Tryd.prog w = .ok 1 w := by kernel_rfl
theorem index_9 (w : World) (A : Nat → Option Addr) (n c : Nat → Nat) {k : Nat} (hk : k < 9) : (Instr.index 35 (.agg (sls A n c).toArray) (.int .i64 (k : Int))).run Tryd.prog w = .ok (.slice (A k) (n k) (c k)) w := by
  have h1 : (0 : Int) ≤ (k : Int) ∧ (k : Int) < ((9 : Nat) : Int) := by omega
  have px : (part 22 (sls A n c).toArray (k * 1)).run Tryd.prog w = .ok (.slice (A k) (n k) (c k)) w := by
    have hag : (isAgg 22).run Tryd.prog w = .ok false w := by kernel_rfl
    have hg : (sls A n c).toArray[k * 1]? = some (.slice (A k) (n k) (c k)) := by
      rw [Nat.mul_one, List.getElem?_toArray]
      exact sls_get hk
    unfold part
    rw [Sem.run_bind, hag]
    simp only [Result.andThen_ok, Bool.false_eq_true, if_false, hg, Sem.run_pure]
  unfold Instr.index
  simp only [asIntOf, Sem.run_bind, Sem.run_pure, Result.andThen_ok, run_underlying Tryd.underlying35, szRunS, h1, and_self, if_true, Int.toNat_natCast, px]
/-- None of the nine is longer than 40 bytes. -/
def Few (n : Nat → Nat) : Prop := ∀ i, i < 9 → n i ≤ 40
noncomputable def few9 (n : Nat → Nat) : Bool := @decide (Few n) (Classical.propDecidable _)
theorem few9_t {n : Nat → Nat} (h : Few n) : few9 n = true := @decide_eq_true _ (Classical.propDecidable _) h
theorem few9_f {n : Nat → Nat} (h : ¬ Few n) : few9 n = false := @decide_eq_false _ (Classical.propDecidable _) h
set_option maxRecDepth 20000 in
set_option maxHeartbeats 1000000 in
theorem few_c (A : Nat → Option Addr) (n c : Nat → Nat) (w : World) :
    Calls Tryd.prog 11 #[.agg (sls A n c).toArray] w fun e w' => e = .returned (.bool (few9 n)) ∧ Below w.heap.size w w' := by
  have hls := sls_len A n c
  have HO := hid (BlkV.new w 35 (sls A n c)).range
  have HB := hid ((Below.refl w.heap.size w).alloc (Nat.le_refl _) (.cells (sls A n c).toArray 35))
  go_enter Tryd.func11, Tryd.ntmps11
  go_wp2_with (with_reducible refine wpList_load_mid rfl 35 (.tmp 1) rfl w.heap.size 0 rfl (sls A n c) _ (by with_reducible exact HO.out) Tryd.underlying35 rfl (sizeNA _ _ _) ?_)
  clear HO
  generalize (w.alloc _) = w0 at *
  go_loopw [6] (fun i wr => ∃ k : Nat, k ≤ 9 ∧ i = .int .i64 k ∧ Hid (∀ j, j < k → n j ≤ 40) ∧ Below w.heap.size w wr) (fun i _ => 9 - (intOf i).toNat)
  case atStart => exact ⟨0, by omega, rfl, hid (fun j hj => absurd hj (Nat.not_lt_zero j)), HB.out⟩
  case round =>
    clear HB
    obtain ⟨k, hk, rfl, HF, hb⟩ := hrel
    by_cases hlt : k < 9
    · have i0 : (0 : Int) ≤ (k : Int) := by omega
      have i2 : (k : Int) < 9 := by omega
      have hix := index_9 wr A n c hlt
      have HB := hid hb
      clear hb
      obtain ⟨nk, hnk⟩ : ∃ x, x = n k := ⟨_, rfl⟩
      rw [← hnk] at hix
      by_cases h40 : nk ≤ 40
      · have hd : decide ((nk : Int) > 40) = false := by simp; omega
        have hd2 : decide ((40 : Int) < (nk : Int)) = false := by simp; omega
        have hd3 : decide (40 < nk) = false := by simp; omega
        have HF1 : Hid (∀ j, j < k + 1 → n j ≤ 40) := fun j hj => by
          rcases Nat.lt_or_ge j k with h | h
          · exact HF.out j h
          · obtain rfl : j = k := by omega
            omega
        clear hnk h40
        go_wp2
        go_roundw
        case rel => exact ⟨k + 1, by omega, by go_num, HF1, HB.out⟩
        case measure => simp [intOf]; omega
      · have h41 : (40 : Int) < (nk : Int) := by omega
        have h42 : 40 < nk := by omega
        have HE : Hid (few9 n = false) := by
          show _ = _
          exact few9_f (fun h => h40 (hnk ▸ h k hlt))
        clear hnk h40
        go_wp2
        go_ret
        exact ⟨by rw [HE.out]; rfl, HB.out⟩
    · obtain rfl : k = 9 := by omega
      have HE : Hid (few9 n = true) := by
        show _ = _
        exact few9_t HF.out
      have HB := hid hb
      clear hb
      go_wp2
      go_ret
      exact ⟨by rw [HE.out]; rfl, HB.out⟩
end Go.Proofs.YtdepkfdceidikaaDoor
