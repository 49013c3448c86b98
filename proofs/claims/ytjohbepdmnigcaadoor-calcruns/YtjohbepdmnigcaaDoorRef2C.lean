/-
  avouchref02's rows of nine digits: rowOf, reaches, minus, more: what each call does.
-/
import Derived.Test.YtjohbepdmnigcaaDoorRef2B
namespace Go.Proofs.YtjohbepdmnigcaaDoor
open Go.RowKit
set_option linter.unusedVariables false

theorem d32_all {l : List Nat} (h : D32 l) : allLt l := fun x hx => Nat.lt_trans (h x hx) (by decide)
theorem size9 : (Tryd.prog.info? 84).map (·.size) = some 9 := by kernel_rfl
theorem BlkW.range {w : World} {b : Nat} {t : TypeId} {bs : List Nat} (h : BlkW w b t bs) : w.rangeAt b 0 (cellsOf64 bs) := fun j v hv => by
  have hj : j < bs.length := by
    have := (List.getElem?_eq_some_iff.1 hv).1
    simpa [cellsOf64] using this
  rw [show 0 + j = j by omega, h.cell hj, ← hv]
  simp [cellsOf64, at64, List.getElem?_eq_getElem hj, List.getD_eq_getElem?_getD]
theorem BlkW.there {w : World} {b : Nat} {t : TypeId} {bs : List Nat} (h : BlkW w b t bs) : w.there b 0 bs.length := fun j hj => by
  rw [show 0 + j = j by omega, h.cell hj]
  exact ⟨rfl, h.frozen j⟩
theorem one64 (l : List Nat) : ∀ v ∈ cellsOf64 l, v.oneCell' = true := by
  intro u hu
  simp only [cellsOf64, List.mem_map] at hu
  obtain ⟨y, _, rfl⟩ := hu
  rfl
theorem store64 (b : Nat) (l : List Nat) (w : World) (h : w.there b 0 l.length) : (storeCells ⟨b, 0, none⟩ (cellsOf64 l)).run Tryd.prog w = .ok () (w.setCells b 0 (cellsOf64 l)) := by
  have hl : (cellsOf64 l).length = l.length := by simp [cellsOf64]
  exact run_storeCells_cells (P := Tryd.prog) b 0 (cellsOf64 l) 0 w (fun j hj => by simpa using (h j (by omega)).1) (fun j hj => by simpa using (h j (by omega)).2) (one64 l)
theorem BlkW.new64 (w : World) (t : TypeId) (l : List Nat) (hl : allLt l) : BlkW (w.alloc (.cells (cellsOf64 l).toArray t)) w.heap.size t l := ⟨heap_alloc_new w _, hl⟩
theorem BlkW.alloc {w : World} {b : Nat} {t : TypeId} {ws : List Nat} (h : BlkW w b t ws) (o : Obj) : BlkW (w.alloc o) b t ws := h.below ((Below.refl _ _).alloc (Nat.le_refl _) o) h.size
theorem zeros_all (n : Nat) : allLt (List.replicate n 0) := by intro x hx; have := List.eq_of_mem_replicate hx; omega
theorem BlkW.otherC {w : World} {b c i : Nat} {t : TypeId} {v : Value} {ws : List Nat} (h : BlkW w b t ws) (hne : b ≠ c) : BlkW (w.setCell ⟨c, i, none⟩ v) b t ws := by
  refine ⟨?_, h.lt⟩
  simp only [World.setCell]
  rw [Array.getElem?_modify, if_neg (by omega)]
  exact h.heap
theorem d32_set {l : List Nat} (h : D32 l) (i x : Nat) (hx : x < 4294967296) : D32 (l.set i x) := by
  intro y hy
  rcases List.mem_or_eq_of_mem_set hy with h' | h'
  · exact h y h'
  · subst h'; exact hx
/-- Two rows in memory, and a place for the result. -/
theorem three9 (w : World) (la lb : List Nat) (ha : allLt la) (hb : allLt lb) :
    BlkW (((w.alloc (.cells (cellsOf64 la).toArray 84)).alloc (.cells (cellsOf64 lb).toArray 84)).alloc (.cells #[.int .u64 0, .int .u64 0, .int .u64 0, .int .u64 0, .int .u64 0, .int .u64 0, .int .u64 0, .int .u64 0, .int .u64 0] 84)) w.heap.size 84 la ∧
    BlkW (((w.alloc (.cells (cellsOf64 la).toArray 84)).alloc (.cells (cellsOf64 lb).toArray 84)).alloc (.cells #[.int .u64 0, .int .u64 0, .int .u64 0, .int .u64 0, .int .u64 0, .int .u64 0, .int .u64 0, .int .u64 0, .int .u64 0] 84)) (w.heap.size + 1) 84 lb ∧
    BlkW (((w.alloc (.cells (cellsOf64 la).toArray 84)).alloc (.cells (cellsOf64 lb).toArray 84)).alloc (.cells #[.int .u64 0, .int .u64 0, .int .u64 0, .int .u64 0, .int .u64 0, .int .u64 0, .int .u64 0, .int .u64 0, .int .u64 0] 84)) (w.heap.size + 1 + 1) 84 (List.replicate 9 0) := by
  have e1 : (w.alloc (.cells (cellsOf64 la).toArray 84)).heap.size = w.heap.size + 1 := by simp
  have e2 : ((w.alloc (.cells (cellsOf64 la).toArray 84)).alloc (.cells (cellsOf64 lb).toArray 84)).heap.size = w.heap.size + 1 + 1 := by simp
  have h2 := (BlkW.new64 (w.alloc (.cells (cellsOf64 la).toArray 84)) 84 lb hb).alloc (.cells #[.int .u64 0, .int .u64 0, .int .u64 0, .int .u64 0, .int .u64 0, .int .u64 0, .int .u64 0, .int .u64 0, .int .u64 0] 84)
  have h3 := BlkW.new64 ((w.alloc (.cells (cellsOf64 la).toArray 84)).alloc (.cells (cellsOf64 lb).toArray 84)) 84 (List.replicate 9 0) (zeros_all 9)
  rw [e1] at h2
  rw [e2] at h3
  exact ⟨((BlkW.new64 w 84 la ha).alloc _).alloc _, h2, h3⟩

/-- The relation of minus' loop. -/
def MiRel (w : World) (la lb : List Nat) (wr : World) (k q : Nat) : Prop :=
  ∃ ws : List Nat, ws.length = 9 ∧ D32 ws ∧ BlkW wr w.heap.size 84 ws ∧ BlkW wr (w.heap.size + 1) 84 lb ∧ BlkW wr (w.heap.size + 1 + 1) 84 (List.replicate 9 0) ∧ Below w.heap.size w wr ∧ q ≤ 1 ∧
    (∀ j, k ≤ j → ws.getD j 0 = la.getD j 0) ∧ pv 4294967296 ws k + pv 4294967296 lb k = pv 4294967296 la k + q * 4294967296 ^ k
theorem minus_end {la lb ws : List Nat} {q : Nat} (ha : la.length = 9) (hb : lb.length = 9) (hw : ws.length = 9) (da : D32 la) (dw : D32 ws) (hle : val 4294967296 lb ≤ val 4294967296 la) (hq : q ≤ 1)
    (h : pv 4294967296 ws 9 + pv 4294967296 lb 9 = pv 4294967296 la 9 + q * 4294967296 ^ 9) : val 4294967296 ws = val 4294967296 la - val 4294967296 lb := by
  rw [pv_out _ ws 9 (by omega), pv_out _ lb 9 (by omega), pv_out _ la 9 (by omega)] at h
  have b := val_lt _ (by decide) ws dw
  rw [hw] at b
  have : q = 0 ∨ q = 1 := by omega
  rcases this with rfl | rfl
  · omega
  · omega

set_option maxRecDepth 20000 in
set_option maxHeartbeats 4000000 in
theorem minus_c (la lb : List Nat) (w : World) (ha : la.length = 9) (hb : lb.length = 9) (da : D32 la) (db : D32 lb) (hle : Hid (val 4294967296 lb ≤ val 4294967296 la)) :
    Calls Tryd.prog 63 #[.agg (cellsOf64 la).toArray, .agg (cellsOf64 lb).toArray] w fun e w' => ∃ l, e = .returned (.agg (cellsOf64 l).toArray) ∧ l.length = 9 ∧ D32 l ∧ val 4294967296 l = val 4294967296 la - val 4294967296 lb ∧ Below w.heap.size w w' := by
  have hla : (cellsOf64 la).length = 9 := by simp [cellsOf64, ha]
  have hlb : (cellsOf64 lb).length = 9 := by simp [cellsOf64, hb]
  have T := hid (three9 w la lb (d32_all da) (d32_all db))
  have HA := hid ha
  have HB := hid hb
  clear ha hb
  go_enter Tryd.func63, Tryd.ntmps63
  go_wp2
  clear hla hlb
  go_loopw [5, 6] (fun c i wr => ∃ k q : Nat, k ≤ 9 ∧ i = .int .i64 k ∧ c = .int .u64 q ∧ MiRel w la lb wr k q) (fun _ i _ => 9 - (intOf i).toNat)
  case atStart =>
    obtain ⟨t1, t2, t3⟩ := T.out
    exact ⟨0, 0, by omega, rfl, rfl, la, HA.out, da, t1, t2, t3, by go_grown, by omega, fun _ _ => rfl, by simp [pv]⟩
  case round =>
    obtain ⟨k, q, hk, rfl, rfl, ws, hl, dw, hA, hB, hR, hbl, hq, hj, he⟩ := hrel
    clear T
    by_cases hlt : k < 9
    · have ca := hA.cell (i := k) (by omega)
      have hgd : at64 ws k = at64 la k := by unfold at64; rw [hj k (Nat.le_refl _)]
      rw [hgd] at ca
      have cb := hB.cell (i := k) (by rw [HB.out]; omega)
      have fz := hA.frozen k
      have h1 := at64_nonneg la k
      have h1' := at64_d32 da k
      have h2 := at64_nonneg lb k
      have h2' := at64_d32 db k
      obtain ⟨g1, g2⟩ := rsub_word (la.getD k 0) (lb.getD k 0) q (by unfold at64 at h1'; omega) (by unfold at64 at h2'; omega) hq
      have HG := hid g1
      have HG2 := hid g2
      have e1 : IntKind.u64.wrap (4294967296 + at64 la k) = 4294967296 + at64 la k := by rw [IntKind.wrap_u64]; omega
      have e2 : IntKind.u64.wrap (4294967296 + at64 la k - at64 lb k) = 4294967296 + at64 la k - at64 lb k := by rw [IntKind.wrap_u64]; omega
      have e3 : IntKind.u64.wrap (4294967296 + at64 la k - at64 lb k - q) = 4294967296 + at64 la k - at64 lb k - q := by rw [IntKind.wrap_u64]; omega
      have hs0 : 0 ≤ 4294967296 + at64 la k - at64 lb k - q := by omega
      have k0 : (0 : Int) ≤ (k : Int) := by omega
      have k1 : (k : Int) < 9 := by omega
      have HL := hid hl
      have HJ := hid hj
      have HE := hid he
      clear g1 g2 hgd hl hj he
      go_wp2
      go_quiet (fail)
      clear e1 e2 e3
      have hA2 := hA.drewN nq
      have hB2 := hB.drewN nq
      have hR2 := hR.drewN nq
      have hbl2 := below_drewN hbl nq
      have ca2 := hA2.cell (i := k) (by rw [HL.out]; omega)
      have fz2 := hA2.frozen k
      generalize wr.drewN nq = w2 at hA2 hB2 hR2 hbl2 ca2 fz2 ⊢
      have HS : Hid (4294967296 + at64 la k - at64 lb k - q = ((4294967296 + la.getD k 0 - lb.getD k 0 - q : Nat) : Int)) := by show _ = _; unfold at64 at h1 h1' h2 h2' ⊢; omega
      have hs1 : 4294967296 + at64 la k - at64 lb k - q < 8589934592 := by omega
      generalize 4294967296 + at64 la k - at64 lb k - (q : Int) = S at hs0 HS hs1 ⊢
      clear hA hB hR hbl ca cb fz
      have hs2 : S / 4294967296 ≤ 1 := by omega
      have hs3 : 0 ≤ S / 4294967296 := by omega
      go_wp2
      go_roundw
      case rel =>
        refine ⟨k + 1, 1 - (4294967296 + la.getD k 0 - lb.getD k 0 - q) / 4294967296, by omega, by go_num, ?_, ws.set k ((4294967296 + la.getD k 0 - lb.getD k 0 - q) % 4294967296), by rw [List.length_set]; exact HL.out, d32_set dw _ _ (by omega), ?_, hB2.otherC (by omega), hR2.otherC (by omega), hbl2.setCell (by show w.heap.size ≤ w.heap.size; omega) _, HG2.out, ?_, ?_⟩
        · have hN : 4294967296 + la.getD k 0 - lb.getD k 0 - q < 8589934592 := by unfold at64 at h1'; omega
          rw [HS.out]; go_num
        · exact hA2.setI k _ _ (by omega) (by rw [HS.out]; omega)
        · intro j hj
          rw [getD_set_ne _ _ _ _ (by omega)]
          exact HJ.out j (by omega)
        · rw [pv_set_succ _ _ _ _ (by rw [HL.out]; omega), pv_succ, pv_succ, Nat.pow_succ]
          exact sub_step _ _ _ _ q _ _ _ _ _ HE.out HG.out
      case measure => simp [intOf]; omega
    · have : k = 9 := by omega
      subst this
      have HV := hid (minus_end HA.out HB.out hl da dw hle.out hq he)
      have hlen : (cellsOf64 ws).length = 9 := by simp [cellsOf64, hl]
      have hst := store64 (w.heap.size + 1 + 1) ws wr (by rw [hl]; exact hR.there)
      have hran := hid (World.rangeAt_setCells_same wr (w.heap.size + 1 + 1) 0 (cellsOf64 ws) (by rw [hlen]; exact hR.there))
      have HO := hid hA.range
      have HLE := hid hlen
      have HL := hid hl
      clear hl hA hB hR he hj
      go_wp2_with (with_reducible refine wpList_load_mid rfl 84 (.tmp 2) rfl (w.heap.size) 0 rfl (cellsOf64 ws) _ HO.out Tryd.underlying84 rfl (size9.trans (congrArg some HLE.out.symm)) ?_)
      refine bodyPost_ret (results_cell1 Tryd.results63 ⟨w.heap.size + 1 + 1, 0, none⟩ _ rfl (run_loadVar_mid _ (w.heap.size + 1 + 1) 0 84 (cellsOf64 ws) _ hran.out Tryd.underlying84 rfl (size9.trans (congrArg some HLE.out.symm)))) rfl ?_
      exact ⟨ws, rfl, HL.out, dw, HV.out, below_cells (by omega) _ _ _ hbl⟩

/-- The relation of more's loop. -/
def MoRel (w : World) (la lb : List Nat) (t : Nat) (wr : World) (k q : Nat) : Prop :=
  ∃ ws : List Nat, ws.length = 9 ∧ D32 ws ∧ BlkW wr w.heap.size 84 ws ∧ BlkW wr (w.heap.size + 1) 84 lb ∧ BlkW wr (w.heap.size + 1 + 1) 84 (List.replicate 9 0) ∧ Below w.heap.size w wr ∧ q < 512 ∧
    (∀ j, k ≤ j → ws.getD j 0 = la.getD j 0) ∧ pv 4294967296 ws k + q * 4294967296 ^ k = 256 * pv 4294967296 la k + t * pv 4294967296 lb k
theorem more_step (W p q r c s c' x y t P : Nat) (h : r + c * P = 256 * p + t * q) (e : s + c' * W = x * 256 + y * t + c) : (r + s * P) + c' * (P * W) = 256 * (p + x * P) + t * (q + y * P) := by
  have : (s + c' * W) * P = (x * 256 + y * t + c) * P := by rw [e]
  grind
theorem carry_a (S : Int) (N : Nat) (h : S = (N : Int)) (hN : N < 2199023255552) : S / 4294967296 = ((N / 4294967296 : Nat) : Int) := by subst h; omega
theorem carry_b (S : Int) (N : Nat) (h : S = (N : Int)) (hN : N < 2199023255552) : IntKind.u64.wrap (S / 4294967296) = ((N / 4294967296 : Nat) : Int) := by subst h; rw [IntKind.wrap_u64]; omega
theorem carry_c (S : Int) (N : Nat) (h : S = (N : Int)) (hN : N < 2199023255552) : IntKind.u64.wrap (S.tdiv 4294967296) = ((N / 4294967296 : Nat) : Int) := by
  subst h; rw [IntKind.wrap_u64, Int.tdiv_eq_ediv_of_nonneg (by omega)]; omega
theorem more_end {la lb ws : List Nat} {q t : Nat} (ha : la.length = 9) (hb : lb.length = 9) (hw : ws.length = 9) (dw : D32 ws) (hlt : 256 * val 4294967296 la + t * val 4294967296 lb < 4294967296 ^ 9)
    (h : pv 4294967296 ws 9 + q * 4294967296 ^ 9 = 256 * pv 4294967296 la 9 + t * pv 4294967296 lb 9) : val 4294967296 ws = 256 * val 4294967296 la + t * val 4294967296 lb := by
  rw [pv_out _ ws 9 (by omega), pv_out _ lb 9 (by omega), pv_out _ la 9 (by omega)] at h
  generalize 256 * val 4294967296 la + t * val 4294967296 lb = S at *
  have : q = 0 := by omega
  subst this
  omega

set_option maxRecDepth 20000 in
set_option maxHeartbeats 4000000 in
theorem more_c (la lb : List Nat) (t : Nat) (w : World) (ha : la.length = 9) (hb : lb.length = 9) (da : D32 la) (db : D32 lb) (ht : t < 256) (hlt : Hid (256 * val 4294967296 la + t * val 4294967296 lb < 4294967296 ^ 9)) :
    Calls Tryd.prog 61 #[.agg (cellsOf64 la).toArray, .agg (cellsOf64 lb).toArray, .int .u64 (t : Int)] w fun e w' => ∃ l, e = .returned (.agg (cellsOf64 l).toArray) ∧ l.length = 9 ∧ D32 l ∧ val 4294967296 l = 256 * val 4294967296 la + t * val 4294967296 lb ∧ Below w.heap.size w w' := by
  have hla : (cellsOf64 la).length = 9 := by simp [cellsOf64, ha]
  have hlb : (cellsOf64 lb).length = 9 := by simp [cellsOf64, hb]
  have T := hid (three9 w la lb (d32_all da) (d32_all db))
  have HA := hid ha
  have HB := hid hb
  clear ha hb
  go_enter Tryd.func61, Tryd.ntmps61
  go_wp2
  clear hla hlb
  go_loopw [7, 8] (fun c i wr => ∃ k q : Nat, k ≤ 9 ∧ i = .int .i64 k ∧ c = .int .u64 q ∧ MoRel w la lb t wr k q) (fun _ i _ => 9 - (intOf i).toNat)
  case atStart =>
    obtain ⟨t1, t2, t3⟩ := T.out
    exact ⟨0, 0, by omega, rfl, rfl, la, HA.out, da, t1, t2, t3, by go_grown, by omega, fun _ _ => rfl, by simp [pv]⟩
  case round =>
    obtain ⟨k, q, hk, rfl, rfl, ws, hl, dw, hA, hB, hR, hbl, hq, hj, he⟩ := hrel
    clear T
    by_cases hlt9 : k < 9
    · have ca := hA.cell (i := k) (by omega)
      have hgd : at64 ws k = at64 la k := by unfold at64; rw [hj k (Nat.le_refl _)]
      rw [hgd] at ca
      have cb := hB.cell (i := k) (by rw [HB.out]; omega)
      have h1 := at64_nonneg la k
      have h1' := at64_d32 da k
      have h2 := at64_nonneg lb k
      have h2' := at64_d32 db k
      have hbt : lb.getD k 0 * t ≤ 4294967295 * 255 := Nat.mul_le_mul (by unfold at64 at h2'; omega) (by omega)
      have HS : Hid (at64 la k * 256 + at64 lb k * (t : Int) + (q : Int) = ((la.getD k 0 * 256 + lb.getD k 0 * t + q : Nat) : Int)) := by show _ = _; unfold at64; simp
      have HN : Hid (la.getD k 0 * 256 + lb.getD k 0 * t + q < 2199023255552) := by show _ < _; unfold at64 at h1'; omega
      have hbI : at64 lb k * (t : Int) = ((lb.getD k 0 * t : Nat) : Int) := by unfold at64; simp
      have e1 : IntKind.u64.wrap (at64 la k * 256) = at64 la k * 256 := by rw [IntKind.wrap_u64]; omega
      have e2 : IntKind.u64.wrap (at64 lb k * (t : Int)) = at64 lb k * (t : Int) := by rw [IntKind.wrap_u64, hbI]; omega
      have e3 : IntKind.u64.wrap (at64 la k * 256 + at64 lb k * (t : Int)) = at64 la k * 256 + at64 lb k * (t : Int) := by rw [IntKind.wrap_u64, hbI]; omega
      have e4 : IntKind.u64.wrap (at64 la k * 256 + at64 lb k * (t : Int) + (q : Int)) = at64 la k * 256 + at64 lb k * (t : Int) + (q : Int) := by rw [IntKind.wrap_u64, hbI]; omega
      have k0 : (0 : Int) ≤ (k : Int) := by omega
      have k1 : (k : Int) < 9 := by omega
      have HL := hid hl
      have HJ := hid hj
      have HE := hid he
      clear hgd hl hj he hbI hbt
      go_wp2
      go_quiet (fail)
      clear e1 e2 e3 e4
      have hA2 := hA.drewN nq
      have hB2 := hB.drewN nq
      have hR2 := hR.drewN nq
      have hbl2 := below_drewN hbl nq
      have ca2 := hA2.cell (i := k) (by rw [HL.out]; omega)
      have fz2 := hA2.frozen k
      generalize wr.drewN nq = w2 at hA2 hB2 hR2 hbl2 ca2 fz2 ⊢
      have hs0 : 0 ≤ at64 la k * 256 + at64 lb k * (t : Int) + (q : Int) := by rw [HS.out]; omega
      generalize at64 la k * 256 + at64 lb k * (t : Int) + (q : Int) = S at hs0 HS ⊢
      clear hA hB hR hbl ca cb
      go_wp2
      go_roundw
      case rel =>
        have hN := HN.out
        refine ⟨k + 1, (la.getD k 0 * 256 + lb.getD k 0 * t + q) / 4294967296, by omega, by go_num, ?_, ws.set k ((la.getD k 0 * 256 + lb.getD k 0 * t + q) % 4294967296), by rw [List.length_set]; exact HL.out, d32_set dw _ _ (by omega), ?_, hB2.otherC (by omega), hR2.otherC (by omega), hbl2.setCell (by show w.heap.size ≤ w.heap.size; omega) _, by omega, ?_, ?_⟩
        · first
          | exact congrArg (Value.int .u64) (carry_a S _ HS.out hN)
          | exact congrArg (Value.int .u64) (carry_b S _ HS.out hN)
          | exact congrArg (Value.int .u64) (carry_c S _ HS.out hN)
        · exact hA2.setI k _ _ (by omega) (by rw [HS.out]; omega)
        · intro j hj
          rw [getD_set_ne _ _ _ _ (by omega)]
          exact HJ.out j (by omega)
        · rw [pv_set_succ _ _ _ _ (by rw [HL.out]; omega), pv_succ, pv_succ, Nat.pow_succ]
          exact more_step _ _ _ _ q _ _ _ _ _ _ HE.out (by rw [Nat.mul_comm _ 4294967296]; exact Nat.mod_add_div _ _)
      case measure => simp [intOf]; omega
    · have : k = 9 := by omega
      subst this
      have HV := hid (more_end HA.out HB.out hl dw hlt.out he)
      have hlen : (cellsOf64 ws).length = 9 := by simp [cellsOf64, hl]
      have hst := store64 (w.heap.size + 1 + 1) ws wr (by rw [hl]; exact hR.there)
      have hran := hid (World.rangeAt_setCells_same wr (w.heap.size + 1 + 1) 0 (cellsOf64 ws) (by rw [hlen]; exact hR.there))
      have HO := hid hA.range
      have HLE := hid hlen
      have HL := hid hl
      clear hl hA hB hR he hj
      go_wp2_with (with_reducible refine wpList_load_mid rfl 84 (.tmp 3) rfl (w.heap.size) 0 rfl (cellsOf64 ws) _ HO.out Tryd.underlying84 rfl (size9.trans (congrArg some HLE.out.symm)) ?_)
      refine bodyPost_ret (results_cell1 Tryd.results61 ⟨w.heap.size + 1 + 1, 0, none⟩ _ rfl (run_loadVar_mid _ (w.heap.size + 1 + 1) 0 84 (cellsOf64 ws) _ hran.out Tryd.underlying84 rfl (size9.trans (congrArg some HLE.out.symm)))) rfl ?_
      exact ⟨ws, rfl, HL.out, dw, HV.out, below_cells (by omega) _ _ _ hbl⟩
end Go.Proofs.YtjohbepdmnigcaaDoor
