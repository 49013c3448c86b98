/-
  avouchref06.Words: what the call does.
-/
import Derived.Test.YteogjnendkbjcaaDoorKRk
namespace Go.Proofs.YteogjnendkbjcaaDoor
open Go.RowKit
set_option linter.unusedVariables false

structure WdRel (w : World) (l : List Nat) (k : Nat) (wr : World) : Prop where
  ex : ∃ ws : List Nat, ws.length = 25 ∧ BlkW wr (w.heap.size + 1 + 1) 30 ws ∧ ∀ j, j < 25 → ws.getD j 0 = if j < k then l.getD j 0 else 0
  z : BlkW wr (w.heap.size + 1) 30 l0
  s : BB wr w.heap.size (kbits l)
  b : Below w.heap.size w wr
theorem WdRel.step {w wr : World} {l : List Nat} {k : Nat} (hl : Lanes l) (h : WdRel w l k wr) (hk : k < 25) (v : Int) (hv : v = ((l.getD k 0 : Nat) : Int)) : WdRel w l (k + 1) (wr.setCell ⟨w.heap.size + 1 + 1, k, none⟩ (.int .u64 v)) := by
  obtain ⟨⟨ws, h1, hB, hi⟩, hz, hs, hw⟩ := h
  subst hv
  refine ⟨⟨ws.set k (l.getD k 0), by simp [h1], hB.set _ _ (hl.at_ _), fun i hi' => ?_⟩, hz.otherC (by omega), hs.other (by omega), hw.setCell (by show w.heap.size ≤ w.heap.size + 1 + 1; omega) _⟩
  by_cases hij : i = k
  · subst hij
    rw [getD_set_eq _ _ _ (by omega), if_pos (by omega)]
  · rw [getD_set_ne _ _ _ _ (by omega), hi i hi']
    by_cases c : i < k
    · rw [if_pos c, if_pos (by omega)]
    · rw [if_neg c, if_neg (by omega)]
theorem WdRel.there {w wr : World} {l : List Nat} {k : Nat} (h : WdRel w l k wr) {j : Nat} (hj : j < 25) : ∃ v, wr.cell? ⟨w.heap.size + 1 + 1, j, none⟩ = some (.int .u64 v) := by
  obtain ⟨⟨ws, h1, hB, hi⟩, hz, hs, hw⟩ := h
  exact ⟨_, hB.cell (by omega)⟩
theorem WdRel.frozen {w wr : World} {l : List Nat} {k : Nat} (h : WdRel w l k wr) (j : Nat) : wr.frozen? ⟨w.heap.size + 1 + 1, j, none⟩ = false := by
  obtain ⟨⟨ws, h1, hB, hi⟩, hz, hs, hw⟩ := h
  exact hB.frozen j
theorem WdRel.end_ {w wr : World} {l : List Nat} (hl : Lanes l) (h : WdRel w l 25 wr) : BlkW wr (w.heap.size + 1 + 1) 30 l ∧ BlkW wr (w.heap.size + 1) 30 l0 ∧ Below w.heap.size w wr := by
  obtain ⟨⟨ws, h1, hB, hi⟩, hz, hs, hw⟩ := h
  have e : ws = l := same_getD (by rw [h1, hl.len]) fun i hi' => by rw [hi i (by omega), if_pos (by omega)]
  rw [← e]
  exact ⟨hB, hz, hw⟩

set_option maxRecDepth 20000 in
set_option maxHeartbeats 1000000 in
theorem words6_c (l : List Nat) (w : World) (hl : Lanes l) :
    Calls Tryd.prog 27 #[bt (kbits l)] w fun e w' => e = .returned (st l) ∧ Below w.heap.size w w' := by
  have e1 : (w.alloc (oB (kbits l))).heap.size = w.heap.size + 1 := by simp
  have e2 : ((w.alloc (oB (kbits l))).alloc (zS 30)).heap.size = w.heap.size + 1 + 1 := by simp
  have h1 := ((oB_new w (kbits l)).alloc (zS 30)).alloc (zS 30)
  have h2 := (zS_new (w.alloc (oB (kbits l))) 30).alloc (zS 30)
  have h3 := zS_new ((w.alloc (oB (kbits l))).alloc (zS 30)) 30
  rw [e1] at h2
  rw [e2] at h3
  have HT := hid (z25_there h3)
  have R0 := hid (show WdRel w l 0 _ from ⟨⟨l0, rfl, h3.overW l0 rfl (zeros_all 25), fun j hj => by
    rw [if_neg (by omega)]
    have key : ∀ j : Fin 25, l0.getD j.val 0 = 0 := by decide
    exact key ⟨j, hj⟩⟩, h2.putC (by omega) _ _, BlkV.put (by omega) _ _ _ h1, below_cells (by omega) _ _ _ ((((Below.refl _ _).alloc (Nat.le_refl _) _).alloc (by omega) _).alloc (by omega) _)⟩)
  have hlk := kcell_len (kbits l)
  have HL := hid hl
  have HLL := hid hl
  clear e1 e2 h1 h2 h3 hl
  unfold oB zS at HT R0
  rw [z25_list] at R0
  unfold st bt
  go_enter Tryd.func27, Tryd.ntmps27
  go_wp2_with (refine wpList_store_mid rfl 30 (.tmp 3) (.tmp 7) rfl (w.heap.size + 1 + 1) 0 #[.int .u64 0, .int .u64 0, .int .u64 0, .int .u64 0, .int .u64 0, .int .u64 0, .int .u64 0, .int .u64 0, .int .u64 0, .int .u64 0, .int .u64 0, .int .u64 0, .int .u64 0, .int .u64 0, .int .u64 0, .int .u64 0, .int .u64 0, .int .u64 0, .int .u64 0, .int .u64 0, .int .u64 0, .int .u64 0, .int .u64 0, .int .u64 0, .int .u64 0] rfl rfl HT.out z25_size z25_all ?_)
  clear HT hlk
  change Code.wp _ _ _ _ ((((w.alloc (.cells (kcell (kbits l)).toArray 60)).alloc (.cells #[.int .u64 0, .int .u64 0, .int .u64 0, .int .u64 0, .int .u64 0, .int .u64 0, .int .u64 0, .int .u64 0, .int .u64 0, .int .u64 0, .int .u64 0, .int .u64 0, .int .u64 0, .int .u64 0, .int .u64 0, .int .u64 0, .int .u64 0, .int .u64 0, .int .u64 0, .int .u64 0, .int .u64 0, .int .u64 0, .int .u64 0, .int .u64 0, .int .u64 0] 30)).alloc (.cells #[.int .u64 0, .int .u64 0, .int .u64 0, .int .u64 0, .int .u64 0, .int .u64 0, .int .u64 0, .int .u64 0, .int .u64 0, .int .u64 0, .int .u64 0, .int .u64 0, .int .u64 0, .int .u64 0, .int .u64 0, .int .u64 0, .int .u64 0, .int .u64 0, .int .u64 0, .int .u64 0, .int .u64 0, .int .u64 0, .int .u64 0, .int .u64 0, .int .u64 0] 30)).setCells (w.heap.size + 1 + 1) 0 [.int .u64 0, .int .u64 0, .int .u64 0, .int .u64 0, .int .u64 0, .int .u64 0, .int .u64 0, .int .u64 0, .int .u64 0, .int .u64 0, .int .u64 0, .int .u64 0, .int .u64 0, .int .u64 0, .int .u64 0, .int .u64 0, .int .u64 0, .int .u64 0, .int .u64 0, .int .u64 0, .int .u64 0, .int .u64 0, .int .u64 0, .int .u64 0, .int .u64 0])
  generalize ((((w.alloc _).alloc _).alloc _).setCells _ _ _) = w0 at *
  go_loopw [4] (fun i wr => ∃ k : Nat, k ≤ 25 ∧ i = .int .i64 k ∧ WdRel w l k wr) (fun i _ => 25 - (intOf i).toNat)
  case atStart => exact ⟨0, by omega, rfl, R0.out⟩
  case round =>
    clear R0
    obtain ⟨k, hk, rfl, hrel⟩ := hrel
    by_cases hlt : k < 25
    · have i2 : (k : Int) < 25 := by omega
      obtain ⟨V, hV⟩ : ∃ v, v = l.getD k 0 := ⟨_, rfl⟩
      have hV64 := HL.out.at_ k
      rw [← hV] at hV64
      have HV := hid hV
      have HV64 := hid hV64
      have HS := hid hrel.s
      obtain ⟨w1, hw1⟩ : ∃ x, x = wr := ⟨wr, rfl⟩
      have HR := hid hrel
      rw [← hw1] at HR HS ⊢
      clear hrel hV hV64 hw1
      go_wp2_with fail
      go_loop [5, 6] (fun u i => ∃ m p : Nat, m ≤ 64 ∧ Hid (p = V / 2 ^ m) ∧ u = .int .u64 (p : Int) ∧ i = .int .i64 ((m : Int) - 1)) (fun _ i => (intOf i + 1).toNat)
      case atStart => exact ⟨64, 0, by omega, (Nat.div_eq_of_lt HV64.out).symm, rfl, by go_num⟩
      case round =>
        obtain ⟨m, p, hm, HP, rfl, rfl⟩ := hrel
        rcases m with _ | z
        · have HPV : Hid (p = V) := by
            show _ = _
            rw [HP.out, Nat.pow_zero, Nat.div_one]
          obtain ⟨v0, c1⟩ := HR.out.there hlt
          have f1 := HR.out.frozen k
          have HST := hid (HR.out.step HL.out hlt (p : Int) (by rw [HPV.out, HV.out]))
          go_wp2
          go_roundw
          case rel => exact ⟨k + 1, by omega, by go_num, HST.out⟩
          case measure => simp [intOf]; omega
        · have e1 : (((z + 1 : Nat) : Int) - 1) = (z : Int) := by omega
          rw [e1]
          have hz : z < 64 := by omega
          have j2 : (0 : Int) ≤ (z : Int) := by omega
          have c1 := HS.out.cellk (show k % 5 < 5 by omega) (show k / 5 < 5 by omega) hz
          have hbit : kbits l (k % 5) (k / 5) z = V.testBit z := by
            unfold kbits
            rw [show k % 5 + 5 * (k / 5) = k by omega, ← HV.out]
          have hup := kbit_up V z
          rw [← HP.out] at hup
          have hle : V / 2 ^ z < 18446744073709551616 := Nat.lt_of_le_of_lt (Nat.div_le_self _ _) HV64.out
          obtain ⟨q, hq⟩ : ∃ q, q = 2 * p := ⟨_, rfl⟩
          have hw : IntKind.u64.wrap ((p : Int) * 2) = (q : Int) := by rw [IntKind.wrap_u64]; omega
          rw [hbit] at c1
          cases hb : V.testBit z
          · rw [hb] at c1 hup
            rw [if_neg (by simp)] at hup
            have HP2 : Hid (q = V / 2 ^ z) := by show _ = _; omega
            clear hup hle hq hbit hb e1
            go_wp2
            go_round
            case rel => exact ⟨z, q, by omega, HP2, rfl, by go_num⟩
            case measure => simp [intOf]
          · rw [hb] at c1 hup
            rw [if_pos rfl] at hup
            have HP2 : Hid (q + 1 = V / 2 ^ z) := by show _ = _; omega
            have hw2 : IntKind.u64.wrap ((q : Int) + 1) = ((q + 1 : Nat) : Int) := by rw [IntKind.wrap_u64]; omega
            clear hup hle hq hbit hb e1
            go_wp2
            go_round
            case rel => exact ⟨z, q + 1, by omega, HP2, by go_num, by go_num⟩
            case measure => simp [intOf]
    · obtain rfl : k = 25 := by omega
      obtain ⟨e1, e2, e3⟩ := hrel.end_ HL.out
      have HSz := hid (w_size HLL.out)
      obtain ⟨hst, HR⟩ := w_stored HLL.out e2
      have hlenL := st_len HLL.out
      have HO := hid e1.range
      have HB := hid e3
      clear e1 e2 e3 hrel
      go_wp2_with (with_reducible refine wpList_load_mid rfl 30 (.tmp 3) rfl (w.heap.size + 1 + 1) 0 rfl (cellsOf64 l) _ HO.out Tryd.underlying30 rfl HSz.out ?_)
      refine bodyPost_ret (w_result HLL.out Tryd.results27 rfl HR) rfl ?_
      exact ⟨rfl, below_cells (by omega) _ _ _ HB.out⟩
end Go.Proofs.YteogjnendkbjcaaDoor
