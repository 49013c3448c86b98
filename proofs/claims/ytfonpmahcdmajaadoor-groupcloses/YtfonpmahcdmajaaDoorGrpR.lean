/-
  avouchref05.half: what the call does.
-/
import Derived.Test.YtfonpmahcdmajaaDoorWidS
namespace Go.Proofs.YtfonpmahcdmajaaDoor
open Go.RowKit
set_option linter.unusedVariables false

/-- A half's digit. -/
def hdig (l : List Nat) (j : Nat) : Nat := l.getD j 0 / 2 + l.getD (j + 1) 0 % 2 * 2147483648
theorem hdig_lt {l : List Nat} (d : D32 l) (j : Nat) : hdig l j < 4294967296 := by
  have h := getD_lt 4294967296 (by decide) l d j
  unfold hdig
  omega
theorem half_pv (l ws : List Nat) : ∀ k : Nat, (∀ j, j < k → ws.getD j 0 = hdig l j) → 2 * pv 4294967296 ws k + l.getD 0 0 % 2 = pv 4294967296 l k + l.getD k 0 % 2 * 4294967296 ^ k
  | 0, _ => by rw [pv_zero, pv_zero, Nat.pow_zero]; omega
  | k + 1, h => by
    have ih := half_pv l ws k fun j hj => h j (by omega)
    rw [pv_succ, pv_succ, h k (by omega), Nat.pow_succ]
    unfold hdig
    generalize 4294967296 ^ k = E at *
    have e1 : (l.getD k 0 / 2 + l.getD (k + 1) 0 % 2 * 2147483648) * E = l.getD k 0 / 2 * E + l.getD (k + 1) 0 % 2 * (2147483648 * E) := by rw [Nat.add_mul, Nat.mul_assoc]
    have e2 : l.getD k 0 * E = 2 * (l.getD k 0 / 2 * E) + l.getD k 0 % 2 * E := by
      rw [← Nat.mul_assoc, ← Nat.add_mul, Nat.div_add_mod]
    have e3 : l.getD (k + 1) 0 % 2 * (E * 4294967296) = 2 * (l.getD (k + 1) 0 % 2 * (2147483648 * E)) := by
      rw [show E * 4294967296 = 2 * (2147483648 * E) by omega, Nat.mul_left_comm]
    rw [e1, e2, e3]
    generalize l.getD k 0 % 2 * E = t1 at *
    generalize l.getD k 0 / 2 * E = t2 at *
    generalize l.getD (k + 1) 0 % 2 * (2147483648 * E) = t3 at *
    omega
theorem half_val (l ws : List Nat) (hl : ws.length = l.length) (h : ∀ j, j < l.length → ws.getD j 0 = hdig l j) : val 4294967296 ws = val 4294967296 l / 2 := by
  have e := half_pv l ws l.length h
  rw [getD_out l l.length (Nat.le_refl _), Nat.zero_mod, Nat.zero_mul, Nat.add_zero] at e
  unfold val
  rw [hl]
  omega
/-- The row that is written. -/
structure HRel (w : World) (b n : Nat) (l : List Nat) (wr : World) (k : Nat) : Prop where
  ex : ∃ ws, ws.length = n ∧ BlkW wr b 22 ws ∧ Below b w wr ∧ ∀ j, ws.getD j 0 = if j < k then hdig l j else 0
theorem HRel.drew {w : World} {b n : Nat} {l : List Nat} {wr : World} {k : Nat} (h : HRel w b n l wr k) : HRel w b n l wr.drew k := by
  obtain ⟨ws, h1, h2, h3, h4⟩ := h
  exact ⟨ws, h1, h2.drewN 1, h3.drew, h4⟩
theorem HRel.step {w : World} {b n : Nat} {l : List Nat} {wr : World} {k : Nat} (d : D32 l) (h : HRel w b n l wr k) (hk : k < n) (x : Int) (hx : x = (hdig l k : Nat)) : HRel w b n l (wr.setCell ⟨b, k, none⟩ (.int .u64 x)) (k + 1) := by
  obtain ⟨ws, h1, h2, h3, h4⟩ := h
  refine ⟨ws.set k (hdig l k), by simp [h1], h2.setI _ _ _ (Nat.lt_trans (hdig_lt d k) (by decide)) hx, h3.setCell (Nat.le_refl _) _, fun j => ?_⟩
  by_cases e : j = k
  · subst e
    rw [getD_set_eq _ _ _ (by omega), if_pos (by omega)]
  · rw [getD_set_ne _ _ _ _ (fun h => e h.symm), h4 j]
    by_cases c : j < k
    · rw [if_pos c, if_pos (by omega)]
    · rw [if_neg c, if_neg (by omega)]

set_option maxRecDepth 20000 in
set_option maxHeartbeats 1000000 in
theorem rHalf_c (u : Value) (X : Nat) (w : World) (hu : Dg w u X) :
    Calls Tryd.prog 94 #[u] w fun e w' => ∃ r, e = .returned r ∧ Dg w' r (X / 2) ∧ Below w.heap.size w w' := by
  obtain ⟨A, c, l, rfl, hc, hn, hr, hd, ht, hv⟩ := hu
  obtain ⟨n, hnl⟩ : ∃ n, n = l.length := ⟨_, rfl⟩
  rw [← hnl] at hn hc hr ⊢
  have hmk := make64I n n (Nat.le_refl _) (by omega) n n rfl rfl
  have hB0 : BlkW (w.alloc (.cells (zeros n) 22)) w.heap.size 22 (List.replicate n 0) := blk_zeros w n
  have HB := hid hB0
  have HL := hid ((Below.refl w.heap.size w).alloc (Nat.le_refl _) (.cells (zeros n) 22))
  have HD := hid hd
  have HV := hid hv
  have HR := hid hr
  have HN := hid hnl
  have HT := hid ht
  clear hB0 hd hv ht hnl hr
  go_enter Tryd.func94, Tryd.ntmps94
  go_wp2_with fail
  go_loopw [4] (fun i wr => ∃ k : Nat, k ≤ n ∧ i = .int .i64 k ∧ HRel w w.heap.size n l wr k) (fun i _ => n - (intOf i).toNat)
  case atStart => exact ⟨0, Nat.zero_le _, rfl, List.replicate n 0, by simp, HB.out, HL.out, fun j => by rw [if_neg (by omega)]; simp [List.getD_eq_getElem?_getD, List.getElem?_replicate]; split <;> rfl⟩
  case round =>
    clear HB HL hmk
    obtain ⟨k, hk, rfl, hrel⟩ := hrel
    by_cases hlt : k < n
    · obtain ⟨ba, off, rfl, hba, hcell⟩ := HR.out.cells (by omega)
      have R0 := hid hrel
      obtain ⟨ws, h1, h2, h3, h4⟩ := hrel
      have hne : ba ≠ w.heap.size := by omega
      have c0 : wr.cell? ⟨ba, off + k, none⟩ = some (.int .u64 (at64 l k)) := (h3.cell (p := ⟨ba, off + k, none⟩) hba).trans (hcell k hlt)
      have d0 := h2.cell (i := k) (by omega)
      have f0 := h2.frozen k
      have x0 := at64_nonneg l k
      have i0 : (0 : Int) ≤ (k : Int) := by omega
      have i1 : (k : Int) < (n : Int) := by omega
      obtain ⟨q, hq⟩ : ∃ q : Nat, q = l.getD k 0 / 2 := ⟨_, rfl⟩
      have lk := getD_lt 4294967296 (by decide) l HD.out k
      have i8 : IntKind.u64.wrap ((at64 l k).tdiv 2) = (q : Int) := by
        unfold at64
        rw [Int.tdiv_eq_ediv_of_nonneg (by omega), IntKind.wrap_u64]
        omega
      have HQ := hid hq
      have HLK := hid lk
      clear hq lk
      by_cases hlast : k + 1 < n
      · have c1 : (wr.setCell ⟨w.heap.size, k, none⟩ (.int .u64 (q : Int))).cell? ⟨ba, off + (k + 1), none⟩ = some (.int .u64 (at64 l (k + 1))) := by
          rw [((Below.refl w.heap.size wr).setCell (p := ⟨w.heap.size, k, none⟩) (Nat.le_refl _) (.int .u64 (q : Int))).cell (p := ⟨ba, off + (k + 1), none⟩) hba]
          exact (h3.cell (p := ⟨ba, off + (k + 1), none⟩) hba).trans (hcell (k + 1) hlast)
        have hB1 := h2.setI k q (q : Int) (by have := HQ.out; have := HLK.out; omega) rfl
        have d1 := hB1.cell (i := k) (by simp; omega)
        have f1 := hB1.frozen k
        have e1 : at64 (ws.set k q) k = (q : Int) := by
          unfold at64
          rw [getD_set_eq _ _ _ (by omega)]
        rw [e1] at d1
        obtain ⟨r, hr⟩ : ∃ r : Nat, r = l.getD (k + 1) 0 % 2 := ⟨_, rfl⟩
        have x1 := at64_nonneg l (k + 1)
        have i2 : (k : Int) + 1 < (n : Int) := by omega
        have i3 : (0 : Int) ≤ (k : Int) + 1 := by omega
        have i4 : IntKind.i64.wrap ((k : Int) + 1) = (k : Int) + 1 := by rw [IntKind.wrap_i64]; omega
        have i5 : ((k : Int) + 1).toNat = k + 1 := by omega
        have i6 : (at64 l (k + 1)).tmod 2 = (r : Int) := by unfold at64; rw [Int.tmod_eq_emod_of_nonneg (by omega)]; omega
        obtain ⟨t, ht⟩ : ∃ t : Nat, t = r * 2147483648 := ⟨_, rfl⟩
        obtain ⟨h, hh⟩ : ∃ h : Nat, h = hdig l k := ⟨_, rfl⟩
        have i9 : IntKind.u64.wrap ((r : Int) * 2147483648) = (t : Int) := by rw [IntKind.wrap_u64]; omega
        have i7 : IntKind.u64.wrap ((q : Int) + (t : Int)) = (h : Int) := by have := HQ.out; have := HLK.out; rw [IntKind.wrap_u64, hh]; unfold hdig; omega
        have HH := hid hh
        have RS : Hid (HRel w w.heap.size n l (((wr.setCell ⟨w.heap.size, k, none⟩ (.int .u64 (q : Int))).setCell ⟨w.heap.size, k, none⟩ (.int .u64 (h : Int))).drew) (k + 1)) := by
          obtain ⟨ws, h1, h2, h3, h4⟩ := R0.out
          refine ⟨(ws.set k q).set k (hdig l k), by simp [h1], ?_, ?_, fun j => ?_⟩
          · exact ((h2.setI k q (q : Int) (by have := HQ.out; have := HLK.out; omega) rfl).setI _ _ _ (Nat.lt_trans (hdig_lt HD.out k) (by decide)) (by rw [HH.out])).drewN 1
          · exact ((h3.setCell (p := ⟨w.heap.size, k, none⟩) (Nat.le_refl _) _).setCell (Nat.le_refl _) _).drew
          · by_cases e : j = k
            · subst e
              rw [getD_set_eq _ _ _ (by simp; omega), if_pos (by omega)]
            · rw [getD_set_ne _ _ _ _ (fun h => e h.symm), getD_set_ne _ _ _ _ (fun h => e h.symm), h4 j]
              by_cases c : j < k
              · rw [if_pos c, if_pos (by omega)]
              · rw [if_neg c, if_neg (by omega)]
        clear h1 h3 h4 hB1 e1 hr h2 R0 ht hh HH
        go_wp2
        clear i8 c0 d0 f0
        generalize wr.setCell ⟨w.heap.size, k, none⟩ (.int .u64 (q : Int)) = w1 at *
        go_region
        clear i5 i6 i7 i9
        go_wp2
        go_roundw
        case rel => exact ⟨k + 1, by omega, by go_num, RS.out⟩
        case measure => simp [intOf]; omega
      · have i2 : decide ((k : Int) + 1 < (n : Int)) = false := by simp; omega
        have i4 : IntKind.i64.wrap ((k : Int) + 1) = (k : Int) + 1 := by rw [IntKind.wrap_i64]; omega
        have RS := hid (HRel.step HD.out R0.out hlt (q : Int) (by have := HQ.out; unfold hdig; rw [getD_out l (k + 1) (by have := HN.out; omega)]; omega))
        clear h1 h2 h3 h4 R0
        go_wp2
        go_roundw
        case rel => exact ⟨k + 1, by omega, by go_num, RS.out⟩
        case measure => simp [intOf]; omega
    · obtain rfl : k = n := by omega
      obtain ⟨ws, h1, h2, h3, h4⟩ := hrel
      have hdw : D32 ws := by
        intro x hx
        obtain ⟨i, hi, rfl⟩ := List.getElem_of_mem hx
        have e := h4 i
        rw [List.getD_eq_getElem?_getD, List.getElem?_eq_getElem hi, if_pos (by omega)] at e
        have := hdig_lt HD.out i
        simp only [Option.getD_some] at e
        omega
      have hval : val 4294967296 ws = X / 2 := by
        rw [← HV.out]
        exact half_val l ws (by rw [h1, HN.out]) fun j hj => by rw [h4 j, if_pos (by have := HN.out; omega)]
      have rr := h2.rd0 h2.size h1
      have R : Hid (D32 ws ∧ val 4294967296 ws = X / 2 ∧ Below w.heap.size w wr) := ⟨hdw, hval, h3⟩
      clear hdw hval h3 h4 h2 HR
      go_wp2_with fail
      refine (trim_c _ k k wr.heap.size ws wr rr (by omega) (Nat.le_refl _)).mono ?_
      rintro e w' ⟨m, hm, rfl, rfl, htr, hz⟩
      have HM := hid (And.intro htr hz)
      clear htr hz
      go_wp2
      go_ret
      obtain ⟨hdw, hval, h3⟩ := R.out
      refine ⟨_, rfl, Dg.ofRd (l := ws.take m) (rr.take m hm) (by omega) (by omega) (fun x hx => hdw x (List.mem_of_mem_take hx)) HM.out.1 ?_, h3⟩
      rw [val_take_zeros _ ws m (by omega) HM.out.2]
      exact hval
end Go.Proofs.YtfonpmahcdmajaaDoor
