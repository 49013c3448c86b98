import Derived.Test.YtfonpmahcdmajaaDoorWidT
import Derived.BigQuiet
import Derived.Deep.QuietTactic
/-
  avouchref04.plus: what the call does.
-/
namespace Go.Proofs.YtfonpmahcdmajaaDoor
open Go.RowKit
set_option linter.unusedVariables false

/-- Twenty-seven digits, as a value. -/
theorem size27 : (Tryd.prog.info? 91).map (·.size) = some 27 := by kernel_rfl
theorem c27 {l : List Nat} (h : l.length = 27) : (cellsOf64 l).length = 27 := by simp [cellsOf64, h]
/-- The relation of plus' loop: digits below k are done; q is carried. -/
def PlRel (w : World) (la lb : List Nat) (t : Nat) (wr : World) (k q : Nat) : Prop :=
  ∃ ws : List Nat, ws.length = 27 ∧ D32 ws ∧ BlkW wr w.heap.size 91 ws ∧ BlkW wr (w.heap.size + 1) 91 (List.replicate 27 0) ∧ Below w.heap.size w wr ∧ q < 4294967296 ∧
    (∀ j, k ≤ j → ws.getD j 0 = la.getD j 0) ∧ pv 4294967296 ws k + q * 4294967296 ^ k = pv 4294967296 la k + pv 4294967296 lb k * t
/-- One digit. -/
theorem plus_step (x y t q : Nat) (hx : x < 4294967296) (hy : y < 4294967296) (ht : t < 4294967296) (hq : q < 4294967296) : x + q + y * t < 18446744073709551616 ∧ (x + q + y * t) / 4294967296 < 4294967296 := by
  have h1 : y * t ≤ 4294967295 * 4294967295 := Nat.mul_le_mul (by omega) (by omega)
  omega
theorem plus_pv (p q pa pb x y t s P : Nat) (h : p + q * P = pa + pb * t) (e : s = x + q + y * t) : (p + s % 4294967296 * P) + s / 4294967296 * (P * 4294967296) = (pa + x * P) + (pb + y * P) * t := by
  have e2 : s % 4294967296 + 4294967296 * (s / 4294967296) = s := Nat.mod_add_div s 4294967296
  have e3 : (s % 4294967296) * P + s / 4294967296 * (P * 4294967296) = s * P := by
    calc (s % 4294967296) * P + s / 4294967296 * (P * 4294967296) = (s % 4294967296 + 4294967296 * (s / 4294967296)) * P := by rw [Nat.add_mul]; congr 1; rw [Nat.mul_comm P, ← Nat.mul_assoc, Nat.mul_comm (s / 4294967296)]
      _ = s * P := by rw [e2]
  have e4 : s * P = x * P + q * P + y * t * P := by rw [e, Nat.add_mul, Nat.add_mul]
  have e5 : y * t * P = y * P * t := by rw [Nat.mul_assoc, Nat.mul_comm t, ← Nat.mul_assoc]
  rw [Nat.add_mul]
  omega
theorem two27 (w : World) (la : List Nat) (ha : allLt la) :
    BlkW ((w.alloc (.cells (cellsOf64 la).toArray 91)).alloc (.cells (cellsOf64 (List.replicate 27 0)).toArray 91)) w.heap.size 91 la ∧
    BlkW ((w.alloc (.cells (cellsOf64 la).toArray 91)).alloc (.cells (cellsOf64 (List.replicate 27 0)).toArray 91)) (w.heap.size + 1) 91 (List.replicate 27 0) := by
  have e1 : (w.alloc (.cells (cellsOf64 la).toArray 91)).heap.size = w.heap.size + 1 := by simp
  have h2 := BlkW.new64 (w.alloc (.cells (cellsOf64 la).toArray 91)) 91 (List.replicate 27 0) (zeros_all 27)
  rw [e1] at h2
  exact ⟨(BlkW.new64 w 91 la ha).alloc _, h2⟩

set_option maxRecDepth 20000 in
set_option maxHeartbeats 2000000 in
theorem plus_c (la : List Nat) (B : Option Addr) (nb cb : Nat) (lb : List Nat) (t : Nat) (w : World) (ha : la.length = 27) (da : D32 la) (hb : Rd w w.heap.size B nb lb) (db : D32 lb) (hnb : nb ≤ 27) (ht : t < 4294967296)
    (hfit : Hid (val 4294967296 la + val 4294967296 lb * t < 4294967296 ^ 27)) :
    Calls Tryd.prog 75 #[.agg (cellsOf64 la).toArray, .slice B nb cb, .int .u64 (t : Int)] w fun e w' => ∃ l, e = .returned (.agg (cellsOf64 l).toArray) ∧ l.length = 27 ∧ D32 l ∧ val 4294967296 l = val 4294967296 la + val 4294967296 lb * t ∧ Below w.heap.size w w' := by
  have hla := c27 ha
  have T := hid (two27 w la (d32_all da))
  have HA := hid ha
  clear ha
  go_enter Tryd.func75, Tryd.ntmps75
  go_wp2_with fail
  clear hla
  go_loopw [7, 8] (fun c i wr => ∃ k q : Nat, k ≤ 27 ∧ i = .int .i64 k ∧ c = .int .u64 q ∧ PlRel w la lb t wr k q) (fun _ i _ => 27 - (intOf i).toNat)
  case atStart =>
    obtain ⟨t1, t2⟩ := T.out
    exact ⟨0, 0, by omega, rfl, rfl, la, HA.out, da, t1, t2, ((Below.refl _ _).alloc (Nat.le_refl _) _).alloc (by simp) _, by omega, fun j _ => rfl, by simp [pv]⟩
  case round =>
    clear T
    obtain ⟨k, q, hk, rfl, rfl, ws, hl, dw, hB, hZ, hbl, hq, hj, hv⟩ := hrel
    by_cases hlt : k < 27
    · have c0 := hB.cell (i := k) (by omega)
      have f0 := hB.frozen k
      have g0 : at64 ws k = at64 la k := by unfold at64; rw [hj k (Nat.le_refl _)]
      rw [g0] at c0
      have i0 : (0 : Int) ≤ (k : Int) := by omega
      have i1 : (k : Int) < 27 := by omega
      have hx := getD_lt _ (by decide) la da k
      have hy := getD_lt _ (by decide) lb db k
      have HST := hid (plus_step (la.getD k 0) (lb.getD k 0) t q hx hy ht hq)
      have HPV := hid (plus_pv _ q _ _ (la.getD k 0) (lb.getD k 0) t _ (4294967296 ^ k) hv rfl)
      have HL := hid hl
      have HJ := hid hj
      have x0 := at64_nonneg la k
      have HX := hid hx
      have HY := hid hy
      clear hl hj hv g0 hx hy
      by_cases hkb : k < nb
      · obtain ⟨b, off, rfl, hbb, c1⟩ := (hb.below hbl (Nat.le_refl _)).at_ hkb
        have i2 : (k : Int) < (nb : Int) := by omega
        have y0 := at64_nonneg lb k
        have HW : Hid (IntKind.u64.wrap (IntKind.u64.wrap (at64 la k + (q : Int)) + IntKind.u64.wrap (at64 lb k * (t : Int))) = ((la.getD k 0 + q + lb.getD k 0 * t : Nat) : Int)) := by
          have h := HST.out.1
          show _ = _
          unfold at64
          rw [show ((lb.getD k 0 : Nat) : Int) * (t : Int) = ((lb.getD k 0 * t : Nat) : Int) by simp, IntKind.wrap_u64, IntKind.wrap_u64, IntKind.wrap_u64]
          omega
        have HD : Hid (D32 (ws.set k ((la.getD k 0 + q + lb.getD k 0 * t) % 4294967296))) := d32_set dw _ _ (Nat.mod_lt _ (by decide))
        go_wp2_with fail
        refine ⟨⟨k + 1, (la.getD k 0 + q + lb.getD k 0 * t) / 4294967296, by omega, by go_num, ?_, ?_⟩, by simp [intOf]; omega⟩
        · rw [HW.out, Int.tdiv_eq_ediv_of_nonneg (by omega), IntKind.wrap_u64]
          have h := HST.out
          congr 1
          omega
        · refine ⟨ws.set k ((la.getD k 0 + q + lb.getD k 0 * t) % 4294967296), by rw [List.length_set]; exact HL.out, HD.out, hB.setI k _ _ (Nat.lt_trans (Nat.mod_lt _ (by decide)) (by decide)) ?_, hZ.otherC (by omega), hbl.setCell (Nat.le_refl _) _, HST.out.2, fun j hj => ?_, ?_⟩
          · rw [HW.out, Int.tmod_eq_emod_of_nonneg (by omega)]
            omega
          · rw [getD_set_ne _ _ _ _ (by omega)]; exact HJ.out j (by omega)
          · rw [pv_set_succ _ _ _ _ (by rw [HL.out]; omega), pv_succ, pv_succ, Nat.pow_succ]
            exact HPV.out
      · have i2 : decide ((k : Int) < (nb : Int)) = false := by simp; omega
        have hz : lb.getD k 0 = 0 := getD_out lb k (by rw [hb.len]; omega)
        rw [hz] at HST HPV
        have HW : Hid (IntKind.u64.wrap (at64 la k + (q : Int)) = ((la.getD k 0 + q + 0 * t : Nat) : Int)) := by
          have h := HST.out.1
          show _ = _
          unfold at64
          rw [IntKind.wrap_u64, Nat.zero_mul]
          omega
        have HZ : Hid (lb.getD k 0 = 0) := hz
        clear hz
        have HD : Hid (D32 (ws.set k ((la.getD k 0 + q + 0 * t) % 4294967296))) := d32_set dw _ _ (Nat.mod_lt _ (by decide))
        go_wp2_with fail
        refine ⟨⟨k + 1, (la.getD k 0 + q + 0 * t) / 4294967296, by omega, by go_num, ?_, ?_⟩, by simp [intOf]; omega⟩
        · rw [HW.out, Int.tdiv_eq_ediv_of_nonneg (by omega), IntKind.wrap_u64]
          have h := HST.out
          congr 1
          omega
        · refine ⟨ws.set k ((la.getD k 0 + q + 0 * t) % 4294967296), by rw [List.length_set]; exact HL.out, HD.out, hB.setI k _ _ (Nat.lt_trans (Nat.mod_lt _ (by decide)) (by decide)) ?_, hZ.otherC (by omega), hbl.setCell (Nat.le_refl _) _, HST.out.2, fun j hj => ?_, ?_⟩
          · rw [HW.out, Int.tmod_eq_emod_of_nonneg (by omega)]
            omega
          · rw [getD_set_ne _ _ _ _ (by omega)]; exact HJ.out j (by omega)
          · rw [pv_set_succ _ _ _ _ (by rw [HL.out]; omega), pv_succ, pv_succ, HZ.out, Nat.pow_succ]
            exact HPV.out
    · obtain rfl : k = 27 := by omega
      have hq0 : q = 0 ∧ val 4294967296 ws = val 4294967296 la + val 4294967296 lb * t := by
        rw [pv_out _ ws 27 (by omega), pv_out _ la 27 (by rw [HA.out]; omega), pv_out _ lb 27 (by rw [hb.len]; omega)] at hv
        have h := hfit.out
        have hq0 : q = 0 := by
          rcases Nat.eq_zero_or_pos q with h0 | h0
          · exact h0
          · exfalso
            have : 1 * 4294967296 ^ 27 ≤ q * 4294967296 ^ 27 := Nat.mul_le_mul_right _ h0
            omega
        subst hq0
        exact ⟨rfl, by omega⟩
      have HR := hid hq0.2
      have hlen := c27 hl
      have hst := store64 (w.heap.size + 1) ws wr (by rw [hl]; have := hZ.there; rw [List.length_replicate] at this; exact this)
      have hran := hid (World.rangeAt_setCells_same wr (w.heap.size + 1) 0 (cellsOf64 ws) (by rw [hlen]; have := hZ.there; rw [List.length_replicate] at this; exact this))
      have HO := hid hB.range
      have HI := hid (size27.trans (congrArg some hlen.symm))
      have HL := hid hl
      clear hB hZ hj hv hl
      obtain ⟨hq0, _⟩ := hq0
      clear hq0
      go_wp2_with (with_reducible refine wpList_load_mid rfl 91 (.tmp 3) rfl w.heap.size 0 rfl (cellsOf64 ws) _ HO.out Tryd.underlying91 rfl HI.out ?_)
      refine bodyPost_ret (results_cell1 Tryd.results75 ⟨w.heap.size + 1, 0, none⟩ _ rfl (run_loadVar_mid _ (w.heap.size + 1) 0 91 (cellsOf64 ws) _ hran.out Tryd.underlying91 rfl HI.out)) rfl ?_
      exact ⟨ws, rfl, HL.out, dw, HR.out, below_cells (by omega) _ _ _ hbl⟩
end Go.Proofs.YtfonpmahcdmajaaDoor
/-
  avouchref04.Times: what its loops keep; the numbers.
-/
namespace Go.Proofs.YtfonpmahcdmajaaDoor
open Go.RowKit
set_option linter.unusedVariables false

/-- What is kept: the two factors, and what is left of 2^768; all below the block of what is summed up. -/
structure EnvT (w : World) (A B C : Option Addr) (la lb lc : List Nat) (b9 : Nat) (v : World) : Prop where
  a : Rd v b9 A la.length la
  b : Rd v b9 B lb.length lb
  c : Rd v b9 C lc.length lc
  bel : Below w.heap.size w v
  h0 : w.heap.size ≤ b9
  h1 : b9 ≤ v.heap.size
theorem EnvT.up {w : World} {A B C : Option Addr} {la lb lc : List Nat} {b9 : Nat} {v v' : World} (h : EnvT w A B C la lb lc b9 v) (hb : Below b9 v v') : EnvT w A B C la lb lc b9 v' :=
  ⟨h.a.below hb (Nat.le_refl _), h.b.below hb (Nat.le_refl _), h.c.below hb (Nat.le_refl _), h.bel.trans (hb.mono h.h0), h.h0, Nat.le_trans h.h1 hb.size⟩
/-- The sum so far: 27 digits in a block. -/
structure Acc (b9 : Nat) (v : World) (ws : List Nat) : Prop where
  blk : BlkW v b9 91 ws
  len : ws.length = 27
  d : D32 ws
/-- The number in the block, read off memory: a measure. -/
def aval (w : World) (b : Nat) : Nat := val 4294967296 ((List.range 27).map fun i => cellN w b 0 i)
theorem Acc.aval {b9 : Nat} {v : World} {ws : List Nat} (h : Acc b9 v ws) : aval v b9 = val 4294967296 ws := by
  unfold Go.Proofs.YtfonpmahcdmajaaDoor.aval
  congr 1
  apply List.ext_getElem (by simp [h.len])
  intro i h7 h8
  simp only [List.getElem_map, List.getElem_range]
  unfold cellN
  rw [Nat.zero_add, h.blk.cell h8]
  simp [at64, List.getD_eq_getElem?_getD, List.getElem?_eq_getElem h8]
theorem Acc.below {b9 : Nat} {v v' : World} {ws : List Nat} (h : Acc b9 v ws) (hb : Below v.heap.size v v') : Acc b9 v' ws := ⟨h.blk.below hb h.blk.size, h.len, h.d⟩
theorem Acc.drewN {b9 : Nat} {v : World} {ws : List Nat} (h : Acc b9 v ws) (n : Nat) : Acc b9 (v.drewN n) ws := ⟨h.blk.drewN n, h.len, h.d⟩
theorem setW {b : Nat} {t : TypeId} : ∀ (l old done : List Nat) (v : World), v.heap[b]? = some (.cells (cellsOf64 (done ++ old)).toArray t (0, 0)) → l.length = old.length →
    (v.setCells b done.length (cellsOf64 l)).heap[b]? = some (.cells (cellsOf64 (done ++ l)).toArray t (0, 0))
  | [], [], done, v, h, _ => h
  | [], _ :: _, _, _, _, hl => by simp at hl
  | _ :: _, [], _, _, _, hl => by simp at hl
  | x :: l, y :: old, done, v, h, hl => by
    have h' : (v.setCell ⟨b, done.length, none⟩ (.int .u64 (x : Int))).heap[b]? = some (.cells (cellsOf64 ((done ++ [x]) ++ old)).toArray t (0, 0)) := by
      simp [World.setCell, Array.getElem?_modify, h, cellsOf64]
    have ih := setW l old (done ++ [x]) _ h' (by simpa using hl)
    rw [List.length_append, List.length_singleton, List.append_assoc] at ih
    exact ih
theorem Acc.put {b9 : Nat} {v : World} {ws l : List Nat} (h : Acc b9 v ws) (hl : l.length = 27) (d : D32 l) : Acc b9 (v.setCells b9 0 (cellsOf64 l)) l ∧ Below b9 v (v.setCells b9 0 (cellsOf64 l)) :=
  ⟨⟨⟨setW l ws [] v h.blk.heap (by rw [hl, h.len]), d32_all d⟩, hl, d⟩, below_cells (Nat.le_refl _) _ _ _ (Below.refl _ _)⟩
theorem Acc.set {b9 : Nat} {v : World} {ws : List Nat} (h : Acc b9 v ws) (i x : Nat) (z : Int) (hx : x < 4294967296) (hz : z = (x : Int)) : Acc b9 (v.setCell ⟨b9, i, none⟩ (.int .u64 z)) (ws.set i x) ∧ Below b9 v (v.setCell ⟨b9, i, none⟩ (.int .u64 z)) :=
  ⟨⟨h.blk.setI i x z (Nat.lt_trans hx (by decide)) hz, by rw [List.length_set]; exact h.len, d32_set h.d _ _ hx⟩, (Below.refl b9 v).setCell (p := ⟨b9, i, none⟩) (Nat.le_refl _) _⟩

/-- The digits shifted up by one place, from k on. -/
theorem shift_val {ws zs : List Nat} (hl : ws.length = 27) (hz : zs.length = 27) (h : ∀ j, zs.getD j 0 = if j = 0 then 0 else ws.getD (j - 1) 0) (h26 : ws.getD 26 0 = 0) : val 4294967296 zs = val 4294967296 ws * 4294967296 := by
  have key : ∀ k, pv 4294967296 zs (k + 1) = pv 4294967296 ws k * 4294967296 ∨ 27 < k + 1 := by
    intro k
    induction k with
    | zero =>
      left
      have h0 := h 0
      rw [if_pos rfl] at h0
      rw [pv_succ, pv_zero, pv_zero, h0, Nat.zero_mul]
    | succ k ih =>
      rcases ih with ih | ih
      · left
        rw [pv_succ, ih, h (k + 1), if_neg (by omega), Nat.add_sub_cancel, pv_succ, Nat.pow_succ, Nat.add_mul]
        congr 1
        rw [Nat.mul_assoc]
      · right; omega
  rcases key 26 with e | e
  · have e2 : pv 4294967296 ws 27 = pv 4294967296 ws 26 + ws.getD 26 0 * 4294967296 ^ 26 := pv_succ _ ws 26
    unfold val
    rw [hl, hz, e2, h26, Nat.zero_mul, Nat.add_zero]
    exact e
  · omega
theorem val27 (l : List Nat) (h : l.length = 27) : val 4294967296 l = pv 4294967296 l 24 + l.getD 24 0 * 4294967296 ^ 24 + l.getD 25 0 * 4294967296 ^ 25 + l.getD 26 0 * 4294967296 ^ 26 := by
  have a1 : ∀ k, pv 4294967296 l (k + 3) = pv 4294967296 l k + l.getD k 0 * 4294967296 ^ k + l.getD (k + 1) 0 * 4294967296 ^ (k + 1) + l.getD (k + 2) 0 * 4294967296 ^ (k + 2) := by
    intro k
    rw [pv_succ, pv_succ, pv_succ]
  have a0 : ∀ k, l.length = k → val 4294967296 l = pv 4294967296 l k := by intro k h; unfold val; rw [h]
  rw [a0 27 h]
  exact a1 24
theorem cut_aux (p a b c x y z T : Nat) (hT : T = x) (hy : T * 4294967296 = y) (hc : c = 0) : p + a * x + b * y + c * z = (p + 0 * x + 0 * y + 0 * z) + T * a + T * 4294967296 * b := by
  subst hT hc
  rw [hy]
  simp only [Nat.zero_mul, Nat.add_zero]
  rw [Nat.mul_comm a, Nat.mul_comm b]
theorem T25 : T24 * 4294967296 = 4294967296 ^ 25 := by
  have : ∀ n, 4294967296 ^ n * 4294967296 = 4294967296 ^ (n + 1) := fun n => (Nat.pow_succ _ n).symm
  exact this 24
/-- What is summed up, cut at the 24-th digit. -/
theorem acc_cut {ws zs : List Nat} (hl : ws.length = 27) (hz : zs = (ws.set 24 0).set 25 0) (h26 : ws.getD 26 0 = 0) : val 4294967296 ws = val 4294967296 zs + T24 * ws.getD 24 0 + T24 * 4294967296 * ws.getD 25 0 := by
  have hlz : zs.length = 27 := by rw [hz]; simp [hl]
  have g24 : zs.getD 24 0 = 0 := by rw [hz, getD_set_ne _ _ _ _ (by omega), getD_set_eq _ _ _ (by omega)]
  have g25 : zs.getD 25 0 = 0 := by rw [hz, getD_set_eq _ _ _ (by simp; omega)]
  have g26 : zs.getD 26 0 = 0 := by rw [hz, getD_set_ne _ _ _ _ (by omega), getD_set_ne _ _ _ _ (by omega), h26]
  have e3 : pv 4294967296 zs 24 = pv 4294967296 ws 24 := pv_congr _ _ _ _ fun i hi => by rw [hz, getD_set_ne _ _ _ _ (by omega), getD_set_ne _ _ _ _ (by omega)]
  rw [val27 ws hl, val27 zs hlz, g24, g25, g26, e3]
  exact cut_aux _ _ _ _ _ _ _ T24 rfl T25 h26
theorem acc_top {ws : List Nat} (hl : ws.length = 27) (d : D32 ws) (k : Nat) (hk : k < 27) (h : val 4294967296 ws < 4294967296 ^ k) : ∀ j, k ≤ j → ws.getD j 0 = 0 := by
  intro j hj
  rcases Nat.lt_or_ge j 27 with hj' | hj'
  · rcases Nat.eq_zero_or_pos (ws.getD j 0) with h0 | h0
    · exact h0
    · exfalso
      have e1 : pv 4294967296 ws (j + 1) ≤ val 4294967296 ws := by
        rw [← pv_out _ ws 27 (by omega), pv_mod 4294967296 (by decide) ws d (j + 1), pv_out _ ws 27 (by omega)]
        exact Nat.mod_le _ _
      rw [pv_succ] at e1
      have e2 : 1 * 4294967296 ^ j ≤ ws.getD j 0 * 4294967296 ^ j := Nat.mul_le_mul_right _ h0
      have e3 : 4294967296 ^ k ≤ 4294967296 ^ j := Nat.pow_le_pow_right (by decide) hj
      omega
  · exact getD_out ws j (by omega)
/-- Folding: the number falls, its rest stays. -/
theorem acc_fold (L h1 h2 C M V : Nat) (hV : V = L + T24 * h1 + T24 * 4294967296 * h2) (hC : C + M = T24) (hne : 0 < h1 ∨ 0 < h2) (hM : 0 < M) :
    (L + C * h1 + 4294967296 * C * h2) % M = V % M ∧ L + C * h1 + 4294967296 * C * h2 < V := by
  have e : V = L + C * h1 + 4294967296 * C * h2 + M * (h1 + 4294967296 * h2) := by
    rw [hV, ← hC]
    simp only [Nat.add_mul, Nat.mul_add, Nat.mul_assoc]
    rw [Nat.mul_left_comm C, Nat.mul_left_comm M]
    omega
  refine ⟨?_, ?_⟩
  · rw [e, Nat.add_mul_mod_self_left]
  · have : 0 < M * (h1 + 4294967296 * h2) := Nat.mul_pos hM (by omega)
    omega
end Go.Proofs.YtfonpmahcdmajaaDoor
