/-
  avouchref04.plus: what the call does.
-/
import Derived.Test.YtfonpmahcdmajaaDoorWidT
namespace Go.Proofs.YtfonpmahcdmajaaDoor
open Go.RowKit
set_option linter.unusedVariables false

/-- Twenty-seven digits, as a value. -/
theorem size27 : (Tryd.prog.info? 91).map (·.size) = some 27 := by kernel_rfl
theorem c27 {l : List Nat} (h : l.length = 27) : (cellsOf64 l).length = 27 := by simp [cellsOf64, h]
/-- The relation of plus' loop: digits below k are done; q is carried. -/
def PlRel (w : World) (la lb : List Nat) (t : Nat) (wr : World) (k q : Nat) : Prop :=
  ∃ ws : List Nat, ws.length = 27 ∧ D32 ws ∧ BlkW wr w.heap.size 91 ws ∧ BlkW wr (w.heap.size + 1) 91 (List.replicate 27 0) ∧ Below w.heap.size w wr ∧ q < 4294967296 ∧
    (∀ j, k ≤ j → ws.getD j 0 = la.getD j 0) ∧ pv 4294967296 ws k + q * 4294967296 ^ k = pv 4294967296 la k + pv 4294967296 lb k * t
/-- One digit. -/
theorem plus_step (x y t q : Nat) (hx : x < 4294967296) (hy : y < 4294967296) (ht : t < 4294967296) (hq : q < 4294967296) : x + q + y * t < 18446744073709551616 ∧ (x + q + y * t) / 4294967296 < 4294967296 := by
  have h1 : y * t ≤ 4294967295 * 4294967295 := Nat.mul_le_mul (by omega) (by omega)
  omega
theorem plus_pv (p q pa pb x y t s P : Nat) (h : p + q * P = pa + pb * t) (e : s = x + q + y * t) : (p + s % 4294967296 * P) + s / 4294967296 * (P * 4294967296) = (pa + x * P) + (pb + y * P) * t := by
  have e2 : s % 4294967296 + 4294967296 * (s / 4294967296) = s := Nat.mod_add_div s 4294967296
  have e3 : (s % 4294967296) * P + s / 4294967296 * (P * 4294967296) = s * P := by
    calc (s % 4294967296) * P + s / 4294967296 * (P * 4294967296) = (s % 4294967296 + 4294967296 * (s / 4294967296)) * P := by rw [Nat.add_mul]; congr 1; rw [Nat.mul_comm P, ← Nat.mul_assoc, Nat.mul_comm (s / 4294967296)]
      _ = s * P := by rw [e2]
  have e4 : s * P = x * P + q * P + y * t * P := by rw [e, Nat.add_mul, Nat.add_mul]
  have e5 : y * t * P = y * P * t := by rw [Nat.mul_assoc, Nat.mul_comm t, ← Nat.mul_assoc]
  rw [Nat.add_mul]
  omega
theorem two27 (w : World) (la : List Nat) (ha : allLt la) :
    BlkW ((w.alloc (.cells (cellsOf64 la).toArray 91)).alloc (.cells (cellsOf64 (List.replicate 27 0)).toArray 91)) w.heap.size 91 la ∧
    BlkW ((w.alloc (.cells (cellsOf64 la).toArray 91)).alloc (.cells (cellsOf64 (List.replicate 27 0)).toArray 91)) (w.heap.size + 1) 91 (List.replicate 27 0) := by
  have e1 : (w.alloc (.cells (cellsOf64 la).toArray 91)).heap.size = w.heap.size + 1 := by simp
  have h2 := BlkW.new64 (w.alloc (.cells (cellsOf64 la).toArray 91)) 91 (List.replicate 27 0) (zeros_all 27)
  rw [e1] at h2
  exact ⟨(BlkW.new64 w 91 la ha).alloc _, h2⟩

set_option maxRecDepth 20000 in
set_option maxHeartbeats 2000000 in
theorem plus_c (la : List Nat) (B : Option Addr) (nb cb : Nat) (lb : List Nat) (t : Nat) (w : World) (ha : la.length = 27) (da : D32 la) (hb : Rd w w.heap.size B nb lb) (db : D32 lb) (hnb : nb ≤ 27) (ht : t < 4294967296)
    (hfit : Hid (val 4294967296 la + val 4294967296 lb * t < 4294967296 ^ 27)) :
    Calls Tryd.prog 75 #[.agg (cellsOf64 la).toArray, .slice B nb cb, .int .u64 (t : Int)] w fun e w' => ∃ l, e = .returned (.agg (cellsOf64 l).toArray) ∧ l.length = 27 ∧ D32 l ∧ val 4294967296 l = val 4294967296 la + val 4294967296 lb * t ∧ Below w.heap.size w w' := by
  have hla := c27 ha
  have T := hid (two27 w la (d32_all da))
  have HA := hid ha
  clear ha
  go_enter Tryd.func75, Tryd.ntmps75
  go_wp2_with fail
  clear hla
  go_loopw [7, 8] (fun c i wr => ∃ k q : Nat, k ≤ 27 ∧ i = .int .i64 k ∧ c = .int .u64 q ∧ PlRel w la lb t wr k q) (fun _ i _ => 27 - (intOf i).toNat)
  case atStart =>
    obtain ⟨t1, t2⟩ := T.out
    exact ⟨0, 0, by omega, rfl, rfl, la, HA.out, da, t1, t2, ((Below.refl _ _).alloc (Nat.le_refl _) _).alloc (by simp) _, by omega, fun j _ => rfl, by simp [pv]⟩
  case round =>
    clear T
    obtain ⟨k, q, hk, rfl, rfl, ws, hl, dw, hB, hZ, hbl, hq, hj, hv⟩ := hrel
    by_cases hlt : k < 27
    · have c0 := hB.cell (i := k) (by omega)
      have f0 := hB.frozen k
      have g0 : at64 ws k = at64 la k := by unfold at64; rw [hj k (Nat.le_refl _)]
      rw [g0] at c0
      have i0 : (0 : Int) ≤ (k : Int) := by omega
      have i1 : (k : Int) < 27 := by omega
      have hx := getD_lt _ (by decide) la da k
      have hy := getD_lt _ (by decide) lb db k
      have HST := hid (plus_step (la.getD k 0) (lb.getD k 0) t q hx hy ht hq)
      have HPV := hid (plus_pv _ q _ _ (la.getD k 0) (lb.getD k 0) t _ (4294967296 ^ k) hv rfl)
      have HL := hid hl
      have HJ := hid hj
      have x0 := at64_nonneg la k
      have HX := hid hx
      have HY := hid hy
      clear hl hj hv g0 hx hy
      by_cases hkb : k < nb
      · obtain ⟨b, off, rfl, hbb, c1⟩ := (hb.below hbl (Nat.le_refl _)).at_ hkb
        have i2 : (k : Int) < (nb : Int) := by omega
        have y0 := at64_nonneg lb k
        have HW : Hid (IntKind.u64.wrap (IntKind.u64.wrap (at64 la k + (q : Int)) + IntKind.u64.wrap (at64 lb k * (t : Int))) = ((la.getD k 0 + q + lb.getD k 0 * t : Nat) : Int)) := by
          have h := HST.out.1
          show _ = _
          unfold at64
          rw [show ((lb.getD k 0 : Nat) : Int) * (t : Int) = ((lb.getD k 0 * t : Nat) : Int) by simp, IntKind.wrap_u64, IntKind.wrap_u64, IntKind.wrap_u64]
          omega
        have HD : Hid (D32 (ws.set k ((la.getD k 0 + q + lb.getD k 0 * t) % 4294967296))) := d32_set dw _ _ (Nat.mod_lt _ (by decide))
        go_wp2_with fail
        refine ⟨⟨k + 1, (la.getD k 0 + q + lb.getD k 0 * t) / 4294967296, by omega, by go_num, ?_, ?_⟩, by simp [intOf]; omega⟩
        · rw [HW.out, Int.tdiv_eq_ediv_of_nonneg (by omega), IntKind.wrap_u64]
          have h := HST.out
          congr 1
          omega
        · refine ⟨ws.set k ((la.getD k 0 + q + lb.getD k 0 * t) % 4294967296), by rw [List.length_set]; exact HL.out, HD.out, hB.setI k _ _ (Nat.lt_trans (Nat.mod_lt _ (by decide)) (by decide)) ?_, hZ.otherC (by omega), hbl.setCell (Nat.le_refl _) _, HST.out.2, fun j hj => ?_, ?_⟩
          · rw [HW.out, Int.tmod_eq_emod_of_nonneg (by omega)]
            omega
          · rw [getD_set_ne _ _ _ _ (by omega)]; exact HJ.out j (by omega)
          · rw [pv_set_succ _ _ _ _ (by rw [HL.out]; omega), pv_succ, pv_succ, Nat.pow_succ]
            exact HPV.out
      · have i2 : decide ((k : Int) < (nb : Int)) = false := by simp; omega
        have hz : lb.getD k 0 = 0 := getD_out lb k (by rw [hb.len]; omega)
        rw [hz] at HST HPV
        have HW : Hid (IntKind.u64.wrap (at64 la k + (q : Int)) = ((la.getD k 0 + q + 0 * t : Nat) : Int)) := by
          have h := HST.out.1
          show _ = _
          unfold at64
          rw [IntKind.wrap_u64, Nat.zero_mul]
          omega
        have HZ : Hid (lb.getD k 0 = 0) := hz
        clear hz
        have HD : Hid (D32 (ws.set k ((la.getD k 0 + q + 0 * t) % 4294967296))) := d32_set dw _ _ (Nat.mod_lt _ (by decide))
        go_wp2_with fail
        refine ⟨⟨k + 1, (la.getD k 0 + q + 0 * t) / 4294967296, by omega, by go_num, ?_, ?_⟩, by simp [intOf]; omega⟩
        · rw [HW.out, Int.tdiv_eq_ediv_of_nonneg (by omega), IntKind.wrap_u64]
          have h := HST.out
          congr 1
          omega
        · refine ⟨ws.set k ((la.getD k 0 + q + 0 * t) % 4294967296), by rw [List.length_set]; exact HL.out, HD.out, hB.setI k _ _ (Nat.lt_trans (Nat.mod_lt _ (by decide)) (by decide)) ?_, hZ.otherC (by omega), hbl.setCell (Nat.le_refl _) _, HST.out.2, fun j hj => ?_, ?_⟩
          · rw [HW.out, Int.tmod_eq_emod_of_nonneg (by omega)]
            omega
          · rw [getD_set_ne _ _ _ _ (by omega)]; exact HJ.out j (by omega)
          · rw [pv_set_succ _ _ _ _ (by rw [HL.out]; omega), pv_succ, pv_succ, HZ.out, Nat.pow_succ]
            exact HPV.out
    · obtain rfl : k = 27 := by omega
      have hq0 : q = 0 ∧ val 4294967296 ws = val 4294967296 la + val 4294967296 lb * t := by
        rw [pv_out _ ws 27 (by omega), pv_out _ la 27 (by rw [HA.out]; omega), pv_out _ lb 27 (by rw [hb.len]; omega)] at hv
        have h := hfit.out
        have hq0 : q = 0 := by
          rcases Nat.eq_zero_or_pos q with h0 | h0
          · exact h0
          · exfalso
            have : 1 * 4294967296 ^ 27 ≤ q * 4294967296 ^ 27 := Nat.mul_le_mul_right _ h0
            omega
        subst hq0
        exact ⟨rfl, by omega⟩
      have HR := hid hq0.2
      have hlen := c27 hl
      have hst := store64 (w.heap.size + 1) ws wr (by rw [hl]; have := hZ.there; rw [List.length_replicate] at this; exact this)
      have hran := hid (World.rangeAt_setCells_same wr (w.heap.size + 1) 0 (cellsOf64 ws) (by rw [hlen]; have := hZ.there; rw [List.length_replicate] at this; exact this))
      have HO := hid hB.range
      have HI := hid (size27.trans (congrArg some hlen.symm))
      have HL := hid hl
      clear hB hZ hj hv hl
      obtain ⟨hq0, _⟩ := hq0
      clear hq0
      go_wp2_with (with_reducible refine wpList_load_mid rfl 91 (.tmp 3) rfl w.heap.size 0 rfl (cellsOf64 ws) _ HO.out Tryd.underlying91 rfl HI.out ?_)
      refine bodyPost_ret (results_cell1 Tryd.results75 ⟨w.heap.size + 1, 0, none⟩ _ rfl (run_loadVar_mid _ (w.heap.size + 1) 0 91 (cellsOf64 ws) _ hran.out Tryd.underlying91 rfl HI.out)) rfl ?_
      exact ⟨ws, rfl, HL.out, dw, HR.out, below_cells (by omega) _ _ _ hbl⟩
end Go.Proofs.YtfonpmahcdmajaaDoor
