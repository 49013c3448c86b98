import Derived.Test.YtlpccdbcaffmmaaDoorMnD
import Derived.Test.YtlpccdbcaffmmaaDoorMrF
/-
  avouchlaw09.is, few, avouchlaw02.Is: as the laws want them.
-/
namespace Go.Proofs.YtlpccdbcaffmmaaDoor
open Go.RowKit
set_option linter.unusedVariables false
set_option linter.unusedSimpArgs false


/-- The load of a row among a plain region's operations, where it stands under a guard that lets it. -/
theorem wpList_load_midG {P : Program} {ops : Array Oper} {rest : List Oper} {op : Oper} {a : Act} {w : World} {Q : Exit → Act → World → Prop} (hw : Region.wanted op (yielded ops a.tmps) = true) (ty : TypeId) (x : Operand) (ho : op.op = .load ty x)
    (b o : Nat) (hx : a.eval x = .pointer (some ⟨b, o, none⟩)) (cs : List Value) (d : TypeDesc) (hc : w.rangeAt b o cs)
    (hu : P.underlying ty = some d) (hd : d.isRow = true) (hi : (P.info? ty).map (·.size) = some cs.length)
    (h : wpList P ops Q rest (a.put op.dst (.agg cs.toArray)) w) : wpList P ops Q (op :: rest) a w :=
  wpList_step fun K hK => by
    rw [if_pos hw]
    exact wp_load_mid ty x ho b o hx cs d hc hu hd hi (hK _ _ h)
theorem few_t (A : Nat → Option Addr) (n c : Nat → Nat) (w : World) (h : Few n) : Calls Tryd.prog 8 #[.agg (sls A n c).toArray] w fun e w' => e = .returned (.bool true) ∧ Below w.heap.size w w' := by
  have k := few_c A n c w
  rw [few9_t h] at k
  exact k
theorem few_f (A : Nat → Option Addr) (n c : Nat → Nat) (w : World) (h : ¬ Few n) : Calls Tryd.prog 8 #[.agg (sls A n c).toArray] w fun e w' => e = .returned (.bool false) ∧ Below w.heap.size w w' := by
  have k := few_c A n c w
  rw [few9_f h] at k
  exact k
theorem is_t (u v : Value) (X Y : Int) (w : World) (hu : Ez u X) (hv : Dz w v Y) (hG : Glob w) (h : X % pZ = Y % pZ) : Calls Tryd.prog 12 #[u, v] w fun e w' => e = .returned (.bool true) ∧ Below w.heap.size w w' := by
  have k := isZ_c u v X Y w hu hv hG
  rw [decide_eq_true h] at k
  exact k
set_option maxRecDepth 40000 in
set_option maxHeartbeats 1000000 in
theorem is9_t (f : Nat → Int) (vr : Value) (X Y : MZ) (w : World) (hM : MatZ f X) (hR : DM w vr 3 Y) (hG : Glob w) (hC : MCong X Y) :
    Calls Tryd.prog 13 #[.agg (wds 36 f).toArray, vr] w fun e w' => e = .returned (.bool true) ∧ Below w.heap.size w w' := by
  obtain ⟨bx, cx, rfl, _, _⟩ := hR.at_
  have hlm := wds_len 36 f
  have H1 := hid (oF_new w 34 36 f)
  have HW := hid ((Below.refl w.heap.size w).alloc (Nat.le_refl _) (oF 34 36 f))
  have HM := hid hM
  have HX := hid hR
  have HG0 := hid hG
  have HC := hid hC
  unfold MCong at HC
  clear hM hR hG hC
  unfold oF at H1 HW
  go_enter Tryd.func13, Tryd.ntmps13
  go_wp2_with fail
  generalize (w.alloc _) = w0 at *
  go_loopw [7] (fun i wr => ∃ k : Nat, k ≤ 3 ∧ i = .int .i64 k ∧ BlkV wr w.heap.size 34 (wds 36 f) ∧ Below w.heap.size w wr) (fun i _ => 3 - (intOf i).toNat)
  case atStart => exact ⟨0, by omega, rfl, H1.out, HW.out⟩
  case round =>
    clear H1 HW
    obtain ⟨k, hk, rfl, hx, hb0⟩ := hrel
    by_cases hlt : k < 3
    · have i0 : (0 : Int) ≤ (k : Int) := by omega
      have i2 : (k : Int) < 3 := by omega
      have H1 := hid hx
      have HW := hid hb0
      clear hx hb0
      go_wp2_with fail
      obtain ⟨w1, rfl⟩ : ∃ x, x = wr := ⟨wr, rfl⟩
      go_loopw [10] (fun i wr => ∃ m : Nat, m ≤ 3 ∧ i = .int .i64 m ∧ BlkV wr w.heap.size 34 (wds 36 f) ∧ Below w.heap.size w wr) (fun i _ => 3 - (intOf i).toNat)
      case atStart => exact ⟨0, by omega, rfl, H1.out, HW.out⟩
      case round =>
        clear H1 HW
        obtain ⟨m, hm, rfl, hx, hb0⟩ := hrel
        by_cases hltm : m < 3
        · have j0 : (0 : Int) ≤ (m : Int) := by omega
          have j2 : (m : Int) < 3 := by omega
          obtain ⟨bx', cx', ex, hbx, hcx⟩ := (HX.out.up hb0).at_
          injection ex with ex1 ex2 ex3
          injection ex1 with ex1
          injection ex1 with ex1
          subst ex1 ex3
          obtain ⟨d1, hd1, cd1⟩ := hcx k hlt
          obtain ⟨b1, c1, rfl, hlb1, hcb1⟩ := hd1.at_
          obtain ⟨d2, hd2, cd2⟩ := hcb1 m hltm
          have OA : Hid (∀ v, Below wr.heap.size wr v → v.cell? ⟨bx, k, none⟩ = some (.slice (some ⟨b1, 0, none⟩) 3 c1)) := fun v hv => (hv.cell (p := ⟨bx, k, none⟩) hbx).trans cd1
          have OB : Hid (∀ v, Below wr.heap.size wr v → v.cell? ⟨b1, m, none⟩ = some d2) := fun v hv => (hv.cell (p := ⟨b1, m, none⟩) hlb1).trans cd2
          have EA := hid (HM.out.el hlt hltm)
          have OE : Hid (∀ v, BlkV v w.heap.size 34 (wds 36 f) → v.rangeAt w.heap.size (k * 12 + m * 4) (wds 4 fun j => f (k * 12 + m * 4 + j))) := fun v hv => hv.sub _ 4 (by omega)
          obtain ⟨a, ha⟩ : ∃ a : Nat → Int, a = fun j => f (k * 12 + m * 4 + j) := ⟨_, rfl⟩
          rw [← ha] at EA OE
          have EB := hid hd2
          have hb0' := hb0
          have HX1 := hid hx
          clear hd1 hcb1 hcx cd1 cd2 hd2 ex2 ha hx
          go_wp2_with fail
          have hb00 : Below wr.heap.size wr wr.drew := (Below.refl _ _).drew
          have hx0 := HX1.out.up hb00
          refine wp_region_held_drew (S := fun v => BlkV v w.heap.size 34 (wds 36 f) ∧ Below wr.heap.size wr v) (by kernel_rfl) ⟨hx0, hb00⟩ (fun hHeld => ?_)
          refine wpAnyH_take (i := 0) (v := ?_) rfl (by kernel_rfl) (by kernel_rfl) (by kernel_rfl) (fun _ _ _ h => h) (Or.inl ⟨by rfl, fun v hv => ?_⟩) (by with_reducible assumption) ?_
          rotate_left
          · go_simp
            try with_reducible rfl
          simp only [Act.put, List.setIfInBounds_toArray, List.set_cons_zero, List.set_cons_succ, List.getElem_toArray, List.getElem_cons_zero, List.getElem_cons_succ]
          refine wpAnyH_take (i := 1) (v := ?_) rfl (by kernel_rfl) (by kernel_rfl) (by kernel_rfl) (fun _ _ _ h => h) (Or.inl ⟨by rfl, fun v hv => ?_⟩) (by with_reducible assumption) ?_
          rotate_left
          · go_simp
            try with_reducible rfl
          simp only [Act.put, List.setIfInBounds_toArray, List.set_cons_zero, List.set_cons_succ, List.getElem_toArray, List.getElem_cons_zero, List.getElem_cons_succ]
          refine wpAnyH_take (i := 2) (v := ?_) rfl (by kernel_rfl) (by kernel_rfl) (by kernel_rfl) (fun _ _ _ h => h) (Or.inl ⟨by rfl, fun v hv => ?_⟩) (by with_reducible assumption) ?_
          rotate_left
          · go_simp
            try with_reducible rfl
          simp only [Act.put, List.setIfInBounds_toArray, List.set_cons_zero, List.set_cons_succ, List.getElem_toArray, List.getElem_cons_zero, List.getElem_cons_succ]
          refine wpAnyH_take (i := 3) (v := ?_) rfl (by kernel_rfl) (by kernel_rfl) (by kernel_rfl) (fun _ _ _ h => h) (Or.inl ⟨by rfl, fun v hv => ?_⟩) (by with_reducible assumption) ?_
          rotate_left
          · go_simp
            try with_reducible rfl
          simp only [Act.put, List.setIfInBounds_toArray, List.set_cons_zero, List.set_cons_succ, List.getElem_toArray, List.getElem_cons_zero, List.getElem_cons_succ]
          refine wpAnyH_take (i := 4) (v := .agg (wds 4 a).toArray) rfl (by kernel_rfl) (by kernel_rfl) (by kernel_rfl) (fun _ _ _ h => h) (yieldsIf_load_mid (by rfl) 30 (.tmp 16) rfl (w.heap.size) (k * 12 + m * 4) rfl (wds 4 a) _ (fun v hv => OE.out v hv.1) Tryd.underlying30 rfl (sizeE _)) (by with_reducible assumption) ?_
          simp only [Act.put, List.setIfInBounds_toArray, List.set_cons_zero, List.set_cons_succ, List.getElem_toArray, List.getElem_cons_zero, List.getElem_cons_succ]
          refine wpAnyH_take (i := 5) (v := ?_) rfl (by kernel_rfl) (by kernel_rfl) (by kernel_rfl) (fun _ _ _ h => h) (Or.inl ⟨by rfl, fun v hv => ?_⟩) (by with_reducible assumption) ?_
          rotate_left
          · go_simp
            try with_reducible rfl
          simp only [Act.put, List.setIfInBounds_toArray, List.set_cons_zero, List.set_cons_succ, List.getElem_toArray, List.getElem_cons_zero, List.getElem_cons_succ]
          refine wpAnyH_take (i := 6) (v := ?_) rfl (by kernel_rfl) (by kernel_rfl) (by kernel_rfl) (fun _ _ _ h => h) (Or.inl ⟨by rfl, fun v hv => ?_⟩) (by with_reducible assumption) ?_
          rotate_left
          · go_simp
            try with_reducible rfl
          simp only [Act.put, List.setIfInBounds_toArray, List.set_cons_zero, List.set_cons_succ, List.getElem_toArray, List.getElem_cons_zero, List.getElem_cons_succ]
          refine wpAnyH_take (i := 7) (v := ?_) rfl (by kernel_rfl) (by kernel_rfl) (by kernel_rfl) (fun _ _ _ h => h) (Or.inl ⟨by rfl, fun v hv => ?_⟩) (by with_reducible assumption) ?_
          rotate_left
          · go_simp
            try with_reducible rfl
          simp only [Act.put, List.setIfInBounds_toArray, List.set_cons_zero, List.set_cons_succ, List.getElem_toArray, List.getElem_cons_zero, List.getElem_cons_succ]
          refine wpAnyH_take (i := 8) (v := ?_) rfl (by kernel_rfl) (by kernel_rfl) (by kernel_rfl) (fun _ _ _ h => h) (Or.inl ⟨by rfl, fun v hv => ?_⟩) (by with_reducible assumption) ?_
          rotate_left
          · have hcc := OA.out v hv.2
            go_simp
            try with_reducible rfl
          simp only [Act.put, List.setIfInBounds_toArray, List.set_cons_zero, List.set_cons_succ, List.getElem_toArray, List.getElem_cons_zero, List.getElem_cons_succ]
          refine wpAnyH_take (i := 9) (v := ?_) rfl (by kernel_rfl) (by kernel_rfl) (by kernel_rfl) (fun _ _ _ h => h) (Or.inl ⟨by rfl, fun v hv => ?_⟩) (by with_reducible assumption) ?_
          rotate_left
          · go_simp
            try with_reducible rfl
          simp only [Act.put, List.setIfInBounds_toArray, List.set_cons_zero, List.set_cons_succ, List.getElem_toArray, List.getElem_cons_zero, List.getElem_cons_succ]
          refine wpAnyH_take (i := 10) (v := ?_) rfl (by kernel_rfl) (by kernel_rfl) (by kernel_rfl) (fun _ _ _ h => h) (Or.inl ⟨by rfl, fun v hv => ?_⟩) (by with_reducible assumption) ?_
          rotate_left
          · go_simp
            try with_reducible rfl
          simp only [Act.put, List.setIfInBounds_toArray, List.set_cons_zero, List.set_cons_succ, List.getElem_toArray, List.getElem_cons_zero, List.getElem_cons_succ]
          refine wpAnyH_take (i := 11) (v := ?_) rfl (by kernel_rfl) (by kernel_rfl) (by kernel_rfl) (fun _ _ _ h => h) (Or.inl ⟨by rfl, fun v hv => ?_⟩) (by with_reducible assumption) ?_
          rotate_left
          · have hcc := OB.out v hv.2
            go_simp
            try with_reducible rfl
          simp only [Act.put, List.setIfInBounds_toArray, List.set_cons_zero, List.set_cons_succ, List.getElem_toArray, List.getElem_cons_zero, List.getElem_cons_succ]
          refine wpAnyH_ready (rs := [12]) (by kernel_rfl) (by simp) ?_
          refine (AllReadyH.cons rfl (fun K hK => ?_) AllReadyH.nil)
          go_simp
          go_at_call 12
          with_reducible refine (is_t _ _ _ _ wr.drew EA.out (EB.out.up (hb00)) (HG0.out.up (hb0'.trans ((hb00).mono hb0'.size))) (HC.out k m hlt hltm)).mono ?_
          rintro e wq1 ⟨rfl, hbq1⟩
          have hx_q1 := (hx0).up hbq1
          have b_q1 := bchain hb00 hbq1
          try dsimp only
          refine hK.out _ _ (⟨hx_q1, b_q1⟩) (fun hHeld => ?_)
          clear hK K
          try simp only [Act.put, List.setIfInBounds_toArray, List.set_cons_zero, List.set_cons_succ, List.getElem_toArray, List.getElem_cons_zero, List.getElem_cons_succ]
          refine wpAnyH_take (i := 13) (v := ?_) rfl (by kernel_rfl) (by kernel_rfl) (by kernel_rfl) (fun _ _ _ h => h) (Or.inl ⟨by rfl, fun v hv => ?_⟩) (by with_reducible assumption) ?_
          rotate_left
          · go_simp
            try with_reducible rfl
          simp only [Act.put, List.setIfInBounds_toArray, List.set_cons_zero, List.set_cons_succ, List.getElem_toArray, List.getElem_cons_zero, List.getElem_cons_succ]
          refine wpAnyH_done (by kernel_rfl) ?_ _
          have HBZ := hid (hb0.trans ((b_q1).mono hb0.size))
          have HXZ := hid (hx_q1)
          clear hb0
          go_wp2_with fail
          go_roundw
          case rel => exact ⟨m + 1, by omega, by go_num, HXZ.out, HBZ.out⟩
          case measure => simp [intOf]; omega
        · obtain rfl : m = 3 := by omega
          have H1 := hid hx
          have HW := hid hb0
          clear hx hb0
          go_wp2_with fail
          go_roundw
          case rel => exact ⟨k + 1, by omega, by go_num, H1.out, HW.out⟩
          case measure => simp [intOf]; omega
    · obtain rfl : k = 3 := by omega
      have HW := hid hb0
      clear hx hb0
      go_wp2
      go_ret
      exact ⟨rfl, HW.out⟩
end Go.Proofs.YtlpccdbcaffmmaaDoor
/-
  avouchlaw09.MatrixMinors: the walk.
-/
namespace Go.Proofs.YtlpccdbcaffmmaaDoor
open Go.RowKit
set_option linter.unusedVariables false
set_option linter.unusedSimpArgs false


/-- Digits of 0 are none, others are some. -/
theorem Dz.lenz {w : World} {A : Option Addr} {n c : Nat} {X : Int} (h : Dz w (.slice A n c) X) : decide (0 < n) = decide (¬ X % pZ = 0) := by
  obtain ⟨x, hx, hl, e⟩ := h.ex
  obtain ⟨A', c', l, e1, h1, h2, h3, h4, h5, h6⟩ := hx.ex
  injection e1 with q1 q2 q3
  subst q2
  rw [← e]
  apply decide_eq_decide.2
  constructor
  · intro h0 hc
    have hx0 : x = 0 := Int.ofNat.inj hc
    rcases h5 with h5 | h5
    · rw [h5] at h0
      exact absurd h0 (Nat.lt_irrefl 0)
    · have hp : 1 ≤ l.getD (l.length - 1) 0 := by omega
      have hv : val 4294967296 l = pv 4294967296 l (l.length - 1) + l.getD (l.length - 1) 0 * 4294967296 ^ (l.length - 1) := by
        unfold val
        conv => lhs; rw [show l.length = (l.length - 1) + 1 by omega]
        rw [pv_succ]
      have hpw : 0 < 4294967296 ^ (l.length - 1) := Nat.pow_pos (by decide)
      have : 1 * 4294967296 ^ (l.length - 1) ≤ l.getD (l.length - 1) 0 * 4294967296 ^ (l.length - 1) := Nat.mul_le_mul_right _ hp
      omega
  · intro hc
    rcases Nat.eq_zero_or_pos l.length with h0 | h0
    · exfalso
      have hl0 : l = [] := List.eq_nil_of_length_eq_zero h0
      rw [hl0] at h6
      apply hc
      rw [← h6]
      rfl
    · exact h0
theorem minors_len (M : MZ) : (minorsL M).length = 19 := by unfold minorsL; rw [List.length_append, List.length_append, rowsL_len, rowsL_len]; rfl
set_option maxRecDepth 40000 in
set_option maxHeartbeats 2000000 in
theorem matrixMinors_w (A : Nat → Option Addr) (n c : Nat → Nat) (l : Nat → List Nat) (w : World) (hN : N9 w w.heap.size A n l) (hG : Glob w) :
    Calls Tryd.prog 4 #[.agg (sls A n c).toArray] w fun e w' => e = .returned (.bool true) ∧ Below w.heap.size w w' := by
  have hls := sls_len A n c
  have H1 := hid (BlkV.new w 24 (sls A n c))
  have HW := hid ((Below.refl w.heap.size w).alloc (Nat.le_refl _) (.cells (sls A n c).toArray 24))
  have HN := hid hN
  have HG := hid hG
  clear hN hG
  by_cases hF : Few n
  · have HF := hid hF
    clear hF
    have hz := zeroM
    have hlz := wds_len 36 z0
    go_enter Tryd.func4, Tryd.ntmps4
    go_wp2_with fail
    generalize (w.alloc _) = w0 at *
    refine (speaks9_c w0 (HG.out.up HW.out)).mono ?_
    rintro e w1 ⟨rfl, b1⟩
    have B1 := hid (bchain HW.out b1)
    have X1 := hid (H1.out.up b1)
    clear H1 HW b1
    go_wp2_with (first
    | refine wpList_load_midG (by rfl) 24 (.tmp 1) rfl (w.heap.size) 0 rfl (sls A n c) _ (by with_reducible exact X1.out.range) Tryd.underlying24 rfl (sizeNA _ _ _) ?_
    | fail)
    refine (few_t A n c w1 HF.out).mono ?_
    rintro e w2 ⟨rfl, b2⟩
    have B2 := hid (bchain B1.out b2)
    have X2 := hid (X1.out.up b2)
    clear B1 X1 b2
    go_wp2_with (first
    | with_reducible refine wpList_load_mid rfl 24 (.tmp 1) rfl (w.heap.size) 0 rfl (sls A n c) _ (by with_reducible exact X2.out.range) Tryd.underlying24 rfl (sizeNA _ _ _) ?_
    | fail)
    refine (of9_c A n c l w2 ((HN.out.below B2.out (Nat.le_refl _)).more B2.out.size) HF.out (HG.out.up B2.out)).mono ?_
    rintro e w3 ⟨f, r, rfl, hM, hR, b3⟩
    obtain ⟨n1, n2, n3⟩ := newRow w3 34 36 f
    have N1 := hid n1
    have X3 := hid n2
    have B3 := hid (bchain (bchain B2.out b3) n3)
    have HM := hid hM
    have HR := hid (hR.up n3)
    have hlf := wds_len 36 f
    clear B2 X2 b3 n1 n2 n3 hM hR
    unfold oF at N1 X3 B3 HR
    go_wp2_with (first
    | with_reducible refine wpList_store_mid rfl 34 (.tmp 3) (.tmp 21) rfl (w3.heap.size) (0) (wds 36 f).toArray rfl rfl (by with_reducible exact N1.out) (sizeMA _) (wds_all _ _) ?_
    | with_reducible refine wpList_load_mid rfl 34 (.tmp 3) rfl (w3.heap.size) (0) rfl (wds 36 f) _ (by with_reducible exact X3.out.range) Tryd.underlying34 rfl (sizeM _) ?_
    | fail)
    clear N1
    obtain ⟨bm, hbm⟩ : ∃ b, b = w3.heap.size := ⟨_, rfl⟩
    rw [← hbm] at X3 B3 HR ⊢
    generalize ((w3.alloc _).setCells _ _ _) = w4' at *
    clear hbm
    refine (minors_c f (nums l) w4' HM.out (HG.out.up B3.out)).mono ?_
    rintro e w5 ⟨v, rfl, hP, b5⟩
    have hrd := hP.rd (by rw [minors_len]; decide)
    rw [minors_len] at hrd
    obtain ⟨Av, cv, rfl, hrd⟩ := hrd
    have R5 := hid hrd
    have B5 := hid (bchain B3.out b5)
    have X5 := hid (X3.out.up b5)
    have HR5 := hid (HR.out.up b5)
    clear hP hrd b5 B3 X3 HR
    go_wp2_with fail
    refine (r9Minors_c _ (nums l) w5 HR5.out).mono ?_
    rintro e w6 ⟨v2, rfl, hD, b6⟩
    obtain ⟨bd, cd, rfl, _, _⟩ := hD.at_
    have D6 := hid hD
    have R6 := hid (R5.out.below b6 (Nat.le_refl _))
    have S56 := hid b6.size
    have B6 := hid (bchain B5.out b6)
    have X6 := hid (X5.out.up b6)
    have HR6 := hid (HR5.out.up b6)
    clear hD b6 B5 X5 HR5 R5
    go_wp2_with (first
    | refine wpList_load_midG (by rfl) 34 (.tmp 3) rfl (bm) (0) rfl (wds 36 f) _ (by with_reducible exact X6.out.range) Tryd.underlying34 rfl (sizeM _) ?_
    | fail)
    refine (det_c f (nums l) w6 HM.out (HG.out.up B6.out)).mono ?_
    rintro e w7 ⟨u, rfl, hu, b7⟩
    have U7 := hid hu
    have B7 := hid (bchain B6.out b7)
    have X7 := hid (X6.out.up b7)
    have HR7 := hid (HR6.out.up b7)
    have D7 := hid (D6.out.up b7)
    have bb7 := b7
    clear hu b7 B6 X6 HR6
    go_wp2_with fail
    refine (r9Det_c _ (nums l) w7 HR7.out).mono ?_
    rintro e w8 ⟨d, rfl, hd, b8⟩
    have E8 := hid hd
    have B8 := hid (bchain B7.out b8)
    have X8 := hid (X7.out.up b8)
    have D8 := hid (D7.out.up b8)
    have bb8 := bchain bb7 b8
    clear hd b8 B7 X7 HR7 D7 bb7
    go_wp2_with fail
    refine (is_t u d _ _ w8 U7.out E8.out (HG.out.up B8.out) rfl).mono ?_
    rintro e w9 ⟨rfl, b9⟩
    have B9 := hid (bchain B8.out b9)
    have X9 := hid (X8.out.up b9)
    have D9 := hid (D8.out.up b9)
    have R9 := hid (R6.out.below (bchain bb8 b9) S56.out)
    have HL69 := hid (Nat.le_trans S56.out (bchain bb8 b9).size)
    clear b9 B8 X8 D8 bb8 U7 E8 D6 R6 S56
    obtain ⟨B6s, hB6s⟩ : ∃ b, b = w5.heap.size := ⟨_, rfl⟩
    rw [← hB6s] at R9 HL69
    clear hB6s
    go_wp2_with fail
    obtain ⟨wa, rfl⟩ : ∃ x, x = w9 := ⟨w9, rfl⟩
    go_loopw [7, 42] (fun g i wr => ∃ k : Nat, k ≤ 19 ∧ i = .int .i64 k ∧ g = .bool (!anyZ (minorsL (nums l)) k) ∧ Below wa.heap.size wa wr) (fun _ i _ => 19 - (intOf i).toNat)
    case atStart => exact ⟨0, by omega, rfl, rfl, Below.refl _ _⟩
    case round =>
      obtain ⟨k, hk, rfl, rfl, hb0⟩ := hrel
      by_cases hlt : k < 19
      · have i0 : (0 : Int) ≤ (k : Int) := by omega
        have i2 : (k : Int) < 19 := by omega
        obtain ⟨bd', cd', ed, hbd, hcd⟩ := (D9.out.up hb0).at_
        injection ed with ed1 ed2 ed3
        injection ed1 with ed1
        injection ed1 with ed1
        subst ed1 ed3
        obtain ⟨dz, hdz, cdz⟩ := hcd k hlt
        obtain ⟨zA, zn, zc, rfl⟩ := hdz.form
        have hbB := hb0.mono HL69.out
        obtain ⟨ba, oa, rfl, hba, hca⟩ := (R9.out.below hb0 HL69.out).cells (by decide)
        obtain ⟨g, hg, hrg⟩ := hca k hlt
        have HE := hid hg
        have HRG := hid hrg
        have HZ := hid hdz
        have HB := hid (bchain B9.out hb0)
        have HBB := hid hb0
        have hlz' := hdz.lenz
        have HANY : Hid ((!anyZ (minorsL (nums l)) (k + 1)) = (!anyZ (minorsL (nums l)) k && decide (0 < zn))) := by
          show (!(anyZ (minorsL (nums l)) k || decide ((minorsL (nums l)).getD k 0 % pZ = 0))) = _
          rw [hlz']
          show _ = (!anyZ (minorsL (nums l)) k && decide (¬ (minorsL (nums l)).getD k 0 % pZ = 0))
          cases anyZ (minorsL (nums l)) k <;> simp
        clear hg hrg hcd hca ed2 hbB hlz' hb0 hdz
        go_wp2_with (first
    | with_reducible refine wpList_load_mid rfl 30 (.tmp 49) rfl (ba) (oa + k * 4) rfl (wds 4 g) _ (by with_reducible exact HRG.out) Tryd.underlying30 rfl (sizeE _) ?_
    | fail)
        refine (is_t _ _ _ _ wr HE.out HZ.out (HG.out.up HB.out) rfl).mono ?_
        rintro e wb ⟨rfl, bb⟩
        have HBN := hid (HBB.out.trans (bb.mono HBB.out.size))
        clear bb HB HBB HZ HE HRG cdz
        have gt1 : ((zn : Int) > 0) = (0 < (zn : Int)) := rfl
        cases hany : anyZ (minorsL (nums l)) k
        · rcases Nat.eq_zero_or_pos zn with h0 | h0
          · have HV : Hid ((!anyZ (minorsL (nums l)) (k + 1)) = false) := by show _ = _; rw [HANY.out, hany]; simp; omega
            subst h0
            clear hany HANY
            go_wp2_with fail
            go_roundw
            case rel => exact ⟨k + 1, by omega, by go_num, by rw [HV.out], HBN.out⟩
            case measure => simp [intOf]; omega
          · have HV : Hid ((!anyZ (minorsL (nums l)) (k + 1)) = true) := by show _ = _; rw [HANY.out, hany]; simp; omega
            have h0i : (0 : Int) < (zn : Int) := by omega
            clear hany HANY
            go_wp2_with fail
            go_roundw
            case rel => exact ⟨k + 1, by omega, by go_num, by rw [HV.out], HBN.out⟩
            case measure => simp [intOf]; omega
        · have HV : Hid ((!anyZ (minorsL (nums l)) (k + 1)) = false) := by show _ = _; rw [HANY.out, hany]; rfl
          clear hany HANY
          go_wp2_with fail
          go_roundw
          case rel => exact ⟨k + 1, by omega, by go_num, by rw [HV.out], HBN.out⟩
          case measure => simp [intOf]; omega
      · obtain rfl : k = 19 := by omega
        have XE := hid (X9.out.up hb0)
        have BE := hid (bchain B9.out hb0)
        clear hb0
        go_wp2_with (first
    | with_reducible refine wpList_load_mid rfl 34 (.tmp 3) rfl (bm) (0) rfl (wds 36 f) _ (by with_reducible exact XE.out.range) Tryd.underlying34 rfl (sizeM _) ?_
    | fail)
        refine (good_c f (nums l) wr HM.out (HG.out.up BE.out)).mono ?_
        rintro e wz ⟨rfl, bz⟩
        have BZ := hid (bchain BE.out bz)
        clear bz
        generalize (!anyZ (minorsL (nums l)) 19) = gb at *
        have hgb : (gb == gb) = true := by cases gb <;> rfl
        go_wp2
        go_ret
        exact ⟨by first | rfl | (rw [hgb]; rfl) | simp, BZ.out⟩
  · go_enter Tryd.func4, Tryd.ntmps4
    go_wp2_with fail
    generalize (w.alloc _) = w0 at *
    refine (speaks9_c w0 (HG.out.up HW.out)).mono ?_
    rintro e w1 ⟨rfl, b1⟩
    have B1 := hid (bchain HW.out b1)
    have X1 := hid (H1.out.up b1)
    clear H1 HW b1
    go_wp2_with (first
    | refine wpList_load_midG (by rfl) 24 (.tmp 1) rfl (w.heap.size) 0 rfl (sls A n c) _ (by with_reducible exact X1.out.range) Tryd.underlying24 rfl (sizeNA _ _ _) ?_
    | fail)
    refine (few_f A n c w1 hF).mono ?_
    rintro e w2 ⟨rfl, b2⟩
    have B2 := hid (bchain B1.out b2)
    clear b2
    go_wp2_with fail
    refine (speaks9_c w2 (HG.out.up B2.out)).mono ?_
    rintro e w3 ⟨rfl, b3⟩
    have B3 := hid (bchain B2.out b3)
    clear b3
    go_wp2
    go_ret
    exact ⟨rfl, B3.out⟩
end Go.Proofs.YtlpccdbcaffmmaaDoor
