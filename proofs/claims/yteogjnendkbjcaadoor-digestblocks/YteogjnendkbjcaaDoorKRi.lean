/-
  avouchref06.Constant: what the call does.
-/
import Derived.Test.YteogjnendkbjcaaDoorKRh
import Derived.Test.YteogjnendkbjcaaDoorKPg
namespace Go.Proofs.YteogjnendkbjcaaDoor
open Go.RowKit
set_option linter.unusedVariables false

/-- The bits that are laid, behind j of seven. -/
def ckz (i j : Nat) : Nat → Bool := fun z => (List.range j).any fun j' => z == 2 ^ j' - 1 && krc (j' + 7 * i)
theorem ckz_succ (i j z : Nat) : ckz i (j + 1) z = (ckz i j z || (z == 2 ^ j - 1 && krc (j + 7 * i))) := by
  unfold ckz
  rw [List.range_succ, List.any_append]
  simp only [List.any_cons, List.any_nil, Bool.or_false]
theorem ckz_self (i j : Nat) : ckz i j (2 ^ j - 1) = false := by
  unfold ckz
  rw [List.any_eq_false]
  intro j' hj'
  have h := List.mem_range.1 hj'
  have h1 : 2 ^ j' < 2 ^ j := Nat.pow_lt_pow_right (by decide) h
  have h2 : 0 < 2 ^ j' := Nat.pow_pos (by decide)
  rw [show (2 ^ j - 1 == 2 ^ j' - 1) = false by rw [beq_eq_false_iff_ne]; omega]
  simp
theorem ckz_end (i z : Nat) : ckz i 7 z = kcb i z := by
  unfold ckz kcb
  have h : List.range 7 = [0, 1, 2, 3, 4, 5, 6] := rfl
  rw [h]
  simp only [List.any_cons, List.any_nil, Bool.or_false, Nat.zero_add]
  try rfl
/-- The constant's bits. -/
def kcf (r : Int) : Nat → Bool := fun z => (kc r).testBit z
theorem kcf_in {i z : Nat} (hi : i < 24) (hz : z < 64) : ckz i 7 z = kcf (i : Int) z := by
  rw [ckz_end, ← kconst_bit hi hz]
  unfold kcf
  rw [kc_nat hi]
theorem kcf_out {r : Int} (h : ¬ (0 ≤ r ∧ r < 24)) (z : Nat) : kcf r z = false := by
  unfold kcf kc
  rw [if_neg h, Nat.zero_testBit]
structure CRel (w : World) (f : Nat → Bool) (wr : World) : Prop where
  o : BF wr (w.heap.size + 1) 57 64 f
  z : BF wr w.heap.size 57 64 f0
  b : Below w.heap.size w wr
theorem BF.l_result {fn : Func} {p : Tmp} {w : World} {tmps : Array Value} {b : Nat} {f : Nat → Bool} (hr : BF w b 57 64 f) (h : fn.results = #[.cell p 57]) (hp : tmps.getD p undef = .pointer (some ⟨b, 0, none⟩)) :
    (results fn tmps).run Tryd.prog w = .ok (.agg (bcell 64 f).toArray) w :=
  results_cell1 h ⟨b, 0, none⟩ _ hp (run_loadVar_mid _ b 0 57 (bcell 64 f) _ (BlkV.range hr) Tryd.underlying57 rfl (sizeL_f f))

set_option maxRecDepth 20000 in
set_option maxHeartbeats 1000000 in
theorem const6_c (r : Int) (w : World) :
    Calls Tryd.prog 37 #[.int .i64 r] w fun e w' => e = .returned (.agg (bcell 64 (kcf r)).toArray) ∧ Below w.heap.size w w' := by
  have e1 : (w.alloc (oF 57 64 f0)).heap.size = w.heap.size + 1 := by simp
  have h1 := (oF_new w 57 64 f0).alloc (oF 57 64 f0)
  have h2 := oF_new (w.alloc (oF 57 64 f0)) 57 64 f0
  rw [e1] at h2
  have hst := storeF f0 h2
  have R0 := hid (show CRel w f0 _ from ⟨BF.over f0 h2, BlkV.put (by omega) _ _ _ h1, below_cells (by omega) _ _ _ (((Below.refl _ _).alloc (Nat.le_refl _) _).alloc (by omega) _)⟩)
  have hzL := zeroL
  have hl0 := bcell_len 64 f0
  clear e1 h1 h2
  unfold oF at hst R0
  by_cases hr : 0 ≤ r ∧ r < 24
  · obtain ⟨i, rfl⟩ : ∃ i : Nat, r = (i : Int) := ⟨r.toNat, by omega⟩
    have hi : i < 24 := by omega
    obtain ⟨F, hF⟩ : ∃ f, f = kcf (i : Int) := ⟨_, rfl⟩
    have HF := hid hF
    rw [← hF]
    have d0 : decide ((i : Int) < 0) = false := decide_eq_false (by omega)
    have d1 : decide ((23 : Int) < (i : Int)) = false := decide_eq_false (by omega)
    clear hF hr
    go_enter Tryd.func37, Tryd.ntmps37
    go_wp2_with fail
    clear hst hzL hl0
    generalize (((w.alloc _).alloc _).setCells _ _ _) = w0 at *
    go_loopw [4, 5] (fun u v wr => ∃ j P : Nat, j ≤ 7 ∧ Hid (P = 2 ^ j) ∧ u = .int .i64 P ∧ v = .int .i64 j ∧ CRel w (ckz i j) wr) (fun _ v _ => 7 - (intOf v).toNat)
    case atStart => exact ⟨0, 1, by omega, hid (show 1 = 2 ^ 0 from rfl), rfl, rfl, ⟨BF.eq R0.out.o (fun _ _ => rfl), R0.out.z, R0.out.b⟩⟩
    case round =>
      clear R0
      obtain ⟨j, P, hj, HP, rfl, rfl, hrel⟩ := hrel
      by_cases hlt : j < 7
      · have i2 : (j : Int) < 7 := by omega
        have hP0 : 0 < P := by rw [HP.out]; exact Nat.pow_pos (by decide)
        have hP64 : P ≤ 64 := by
          rw [HP.out]
          exact Nat.le_trans (Nat.pow_le_pow_right (by decide) (show j ≤ 6 by omega)) (by decide)
        obtain ⟨Q, hQ⟩ : ∃ q, q = P - 1 := ⟨_, rfl⟩
        have hQ64 : Q < 64 := by omega
        have b1 : (P : Int) - 1 = (Q : Int) := by omega
        have b2 : (0 : Int) ≤ (Q : Int) := by omega
        have b3 : (Q : Int) < 64 := by omega
        obtain ⟨T, hT⟩ : ∃ t, t = j + 7 * i := ⟨_, rfl⟩
        have b4 : (j : Int) + 7 * (i : Int) = (T : Int) := by omega
        have C1 : ∀ v, Calls Tryd.prog 42 #[.int .i64 (T : Int)] v fun e w' => e = .returned (.bool (krc T)) ∧ Below v.heap.size v w' := fun v => rc_c T (by omega) v
        have HR := hid hrel
        have HQ := hid hQ
        have HTT := hid hT
        clear hrel hQ hT
        go_wp2_with fail
        refine (C1 _).mono ?_
        rintro e w1 ⟨rfl, hb1⟩
        have n1 := BlkV.below HR.out.o hb1 HR.out.o.size
        have n2 := BlkV.below HR.out.z hb1 HR.out.z.size
        have n3 := HR.out.b.trans (hb1.mono HR.out.b.size)
        have c1 := BF.cellf n1 hQ64
        have f1 := BlkV.frozen n1 Q
        have HST := hid (show CRel w (ckz i (j + 1)) (w1.setCell ⟨w.heap.size + 1, Q, none⟩ (.bool (krc T))) from ⟨BF.eq (BF.setf n1 hQ64 (krc T)) (fun z hz => by
          rw [ckz_succ]
          by_cases c : z = Q
          · rw [if_pos c, c, HQ.out, HP.out, ckz_self, HTT.out]
            simp
          · rw [if_neg c, show (z == 2 ^ j - 1) = false by rw [beq_eq_false_iff_ne, ← HP.out, ← HQ.out]; exact c]
            simp), BlkV.other n2 (by omega), n3.setCell (by show w.heap.size ≤ w.heap.size + 1; omega) _⟩)
        have HP2 : Hid (P * 2 = 2 ^ (j + 1)) := by
          show _ = _
          rw [HP.out, Nat.pow_succ]
        clear n1 n2 n3 hb1 HR C1
        go_wp2
        go_roundw
        case rel => exact ⟨j + 1, P * 2, by omega, HP2, by go_num, by go_num, HST.out⟩
        case measure => simp [intOf]; omega
      · have i2 : decide ((j : Int) < 7) = false := decide_eq_false (by omega)
        have e1 : BF wr (w.heap.size + 1) 57 64 F := BF.eq hrel.o (fun z hz => by rw [show j = 7 by omega, kcf_in hi hz, HF.out])
        have HO := hid (BlkV.range e1)
        have hst := storeF F hrel.z
        have HZ := hid (BF.over F hrel.z)
        have HB := hid hrel.b
        have hlenL := bcell_len 64 F
        have HSz := hid (sizeL_f F)
        clear hrel e1
        go_wp2_with (with_reducible refine wpList_load_mid rfl 57 (.tmp 3) rfl (w.heap.size + 1) 0 rfl (bcell 64 F) _ HO.out Tryd.underlying57 rfl HSz.out ?_)
        refine bodyPost_ret (BF.l_result HZ.out Tryd.results37 rfl) rfl ?_
        exact ⟨rfl, below_cells (by omega) _ _ _ HB.out⟩
  · have e : bcell 64 (kcf r) = bcell 64 f0 := bcell_eq fun z _ => kcf_out hr z
    rw [e]
    have HO := hid (BlkV.range R0.out.o)
    have hst2 := storeF f0 R0.out.z
    have HZ := hid (BF.over f0 R0.out.z)
    have HB := hid (R0.out.b)
    have HSz := hid (sizeL_f f0)
    clear R0 e
    by_cases h0 : r < 0
    · clear hr
      go_enter Tryd.func37, Tryd.ntmps37
      go_wp2_with (with_reducible refine wpList_load_mid rfl 57 (.tmp 3) rfl (w.heap.size + 1) 0 rfl (bcell 64 f0) _ HO.out Tryd.underlying57 rfl HSz.out ?_)
      refine bodyPost_ret (BF.l_result HZ.out Tryd.results37 rfl) rfl ?_
      exact ⟨rfl, below_cells (by omega) _ _ _ HB.out⟩
    · have d0 : decide (r < 0) = false := decide_eq_false h0
      have d1 : (23 : Int) < r := by omega
      clear hr h0
      go_enter Tryd.func37, Tryd.ntmps37
      go_wp2_with (with_reducible refine wpList_load_mid rfl 57 (.tmp 3) rfl (w.heap.size + 1) 0 rfl (bcell 64 f0) _ HO.out Tryd.underlying57 rfl HSz.out ?_)
      refine bodyPost_ret (BF.l_result HZ.out Tryd.results37 rfl) rfl ?_
      exact ⟨rfl, below_cells (by omega) _ _ _ HB.out⟩
end Go.Proofs.YteogjnendkbjcaaDoor
