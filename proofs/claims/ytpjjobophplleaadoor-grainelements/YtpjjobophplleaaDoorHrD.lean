import Derived.Test.YtpjjobophplleaaDoorHrA
import Derived.Test.YtpjjobophplleaaDoorGnC
import Derived.Test.YtpjjobophplleaaDoorHrB
import Derived.Test.YtpjjobophplleaaDoorGnG
/-
  avouchref08.Bit: what the call does.
-/
namespace Go.Proofs.YtpjjobophplleaaDoor
open Go.RowKit
set_option linter.unusedVariables false

theorem RG.inj {w : World} {b x y : Nat} (h : RG w b x) (k : RG w b y) (hx : x < g80) (hy : y < g80) : x = y :=
  g80_ext hx hy (bcell_inj (BlkV.same h k))
/-- The register that lies in a block of bools. -/
noncomputable def regB (w : World) (b : Nat) : Nat := open Classical in if h : ∃ s, s < g80 ∧ RG w b s then Classical.choose h else 0
theorem regB_eq {w : World} {b s : Nat} (h : RG w b s) (hs : s < g80) : regB w b = s := by
  have hx : ∃ s, s < g80 ∧ RG w b s := ⟨s, hs, h⟩
  have hc := Classical.choose_spec hx
  unfold regB
  rw [dif_pos hx]
  exact hc.2.inj h hc.1 hs
/-- The register on the way: its next bit is the one that is looked for. -/
structure BtR (w : World) (s s' : Nat) (wr : World) : Prop where
  gs : GS s'
  g : RG wr w.heap.size s'
  z : RG wr (w.heap.size + 1) 0
  b : Below w.heap.size w wr
  hb : gbit s' = gbit s
  hn : gnext s' = gnext s
theorem BtR.start (w : World) {s : Nat} (hs : GS s) : BtR w s s ((w.alloc (oR s)).alloc (oR 0)) := by
  have h := TuR.start w s
  exact ⟨hs, h.o, h.z, h.b, rfl, rfl⟩
theorem BtR.up {w wr w' : World} {s s' : Nat} (h : BtR w s s' wr) (hb : Below wr.heap.size wr w') : BtR w s s' w' := ⟨h.gs, BlkV.up h.g hb, BlkV.up h.z hb, h.b.trans (hb.mono h.b.size), h.hb, h.hn⟩

theorem BtR.pass {w : World} {s s' : Nat} {wr w2 : World} (h : BtR w s s' wr) (h0 : gtap s' = false) {x : Nat} (hx : x = gT (gT s')) (g2 : RG w2 w.heap.size x) (z2 : RG w2 (w.heap.size + 1) 0) (b2 : Below w.heap.size w w2) :
    BtR w s x w2 ∧ gnx (regB w2 w.heap.size) < gnx (regB wr w.heap.size) := by
  have e : x = gIt 2 s' := hx
  have g3 := h.gs.it 2
  rw [e] at g2 ⊢
  refine ⟨⟨g3, g2, z2, b2, ?_, ?_⟩, ?_⟩
  · rw [← h.hb]
    unfold gbit
    rw [ghd_succ h.gs h0]
  · rw [← h.hn]
    unfold gnext
    rw [ghd_succ h.gs h0]
  · rw [regB_eq g2 g3.lt, regB_eq h.g h.gs.lt, gnx_succ h.gs h0]
    exact Nat.lt_succ_self _
theorem BtR.end_ {w : World} {s s' : Nat} {wr : World} (h : BtR w s s' wr) (h0 : gtap s' = true) : gbit s = gtap (gT s') ∧ gnext s = gT (gT s') := by
  refine ⟨?_, ?_⟩
  · rw [← h.hb]
    unfold gbit
    rw [ghd_zero h.gs h0]
  · rw [← h.hn]
    unfold gnext
    rw [ghd_zero h.gs h0]
    rfl
/-- Some bools stored into a new variable. -/
theorem newR (w : World) (x : Nat) : (storeCells ⟨w.heap.size, 0, none⟩ (bcell 80 x.testBit)).run Tryd.prog (w.alloc (oR 0)) = .ok () ((w.alloc (oR 0)).setCells w.heap.size 0 (bcell 80 x.testBit)) ∧
    RG ((w.alloc (oR 0)).setCells w.heap.size 0 (bcell 80 x.testBit)) w.heap.size x ∧ Below w.heap.size w ((w.alloc (oR 0)).setCells w.heap.size 0 (bcell 80 x.testBit)) := by
  have h := oR_new w 0
  exact ⟨oR_store x h, h.put x, below_cells (Nat.le_refl _) _ _ _ ((Below.refl _ _).alloc (Nat.le_refl _) _)⟩

set_option maxRecDepth 20000 in
set_option maxHeartbeats 2000000 in
theorem rbit_c (s : Nat) (w : World) (hs : GS s) :
    Calls Tryd.prog 20 #[rg s] w fun e w' => e = .returned (.tuple #[rg (gnext s), .bool (gbit s)]) ∧ Below w.heap.size w w' := by
  have R0 := hid (BtR.start w hs)
  have hla := rg_len s
  have hlz := rg_len 0
  have hz := zeroR
  clear hs
  unfold oR at R0
  rw [show rg s = .agg (bcell 80 s.testBit).toArray from rfl]
  go_enter Tryd.func20, Tryd.ntmps20
  go_wp2_with fail
  clear hla
  generalize (((w.alloc _).alloc _)) = w0 at *
  go_loopw [4] (fun _ wr => ∃ s', BtR w s s' wr) (fun _ w' => gnx (regB w' w.heap.size))
  case atStart => exact ⟨s, R0.out⟩
  case round =>
    clear R0
    obtain ⟨s', hR⟩ := hrel
    have HR := hid hR
    have HO := hid hR.g.range
    have HSz := hid (sizeR_s s')
    clear hR
    go_wp2_with (with_reducible refine wpList_load_mid rfl 29 (.tmp 1) rfl w.heap.size 0 rfl (bcell 80 s'.testBit) _ (by with_reducible exact HO.out) Tryd.underlying29 rfl HSz.out ?_)
    refine (rturn_c s' wr HR.out.gs.lt).mono ?_
    rintro e w1 ⟨rfl, b1⟩
    obtain ⟨x1, hx1⟩ : ∃ x, x = gT s' := ⟨_, rfl⟩
    rw [← hx1]
    have HX1 := hid hx1
    obtain ⟨hst1, hn1, hb1⟩ := newR w1 x1
    have hl1 := rg_len x1
    have HO1 := hid hn1.range
    have HSz1 := hid (sizeR_s x1)
    have HR1 := hid (HR.out.up (b1.trans (hb1.mono b1.size)))
    unfold rg oR at *
    clear hx1 HO HSz b1 hb1
    go_wp2_with (with_reducible refine wpList_load_mid rfl 29 (.tmp 4) rfl w1.heap.size 0 rfl (bcell 80 x1.testBit) _ (by with_reducible exact HO1.out) Tryd.underlying29 rfl HSz1.out ?_)
    generalize ((w1.alloc _).setCells _ _ _) = w2 at *
    generalize w1.heap.size = p1 at *
    clear hst1 hn1 hl1 HO1 HSz1
    have hx80 : x1 < g80 := by rw [HX1.out]; exact gT_lt HR.out.gs.lt
    refine (rturn_c x1 w2 hx80).mono ?_
    rintro e w3 ⟨rfl, b3⟩
    obtain ⟨x2, hx2⟩ : ∃ x, x = gT x1 := ⟨_, rfl⟩
    rw [← hx2]
    have HX2 := hid (hx2.trans (congrArg gT HX1.out))
    obtain ⟨hst2, hn2, hb2⟩ := newR w3 x2
    have hl2 := rg_len x2
    have HO2 := hid hn2.range
    have HSz2 := hid (sizeR_s x2)
    have hR2 := HR1.out.up (b3.trans (hb2.mono b3.size))
    have hst3 := oR_store (P := Tryd.prog) x2 hR2.g
    have hg5 := hR2.g.put x2
    have hz5 := BlkV.put (show w.heap.size + 1 ≠ w.heap.size by omega) (bcell 80 x2.testBit) 0 _ hR2.z
    have hb5 := below_cells (Nat.le_refl w.heap.size) (bcell 80 x2.testBit) 0 _ hR2.b
    have hst5 := oR_store (P := Tryd.prog) x2 hz5
    have HZ5 := hid (RG.put x2 hz5)
    have HB5 := hid (below_cells (show w.heap.size ≤ w.heap.size + 1 by omega) (bcell 80 x2.testBit) 0 _ hb5)
    have HO5 := hid hg5.range
    have HT : Hid (gtap x1 = gtap (gT s')) := congrArg gtap HX1.out
    have HBT := hid hb5
    have HZT := hid hz5
    have HGT := hid hg5
    clear hx2 b3 hb2 hn2 hR2 hg5 hz5 hb5
    unfold rg oR at *
    cases ht : gtap s'
    · have HP := hid (HR.out.pass ht HX2.out HGT.out HZT.out HBT.out)
      clear HBT HZT HGT ht HR1
      go_wp2_with (with_reducible refine wpList_load_mid rfl 29 (.tmp 6) rfl w3.heap.size 0 rfl (bcell 80 x2.testBit) _ (by with_reducible exact HO2.out) Tryd.underlying29 rfl HSz2.out ?_)
      go_roundw
      case rel => exact ⟨_, HP.out.1⟩
      case measure => exact HP.out.2
    · have HP := hid (HR.out.end_ ht)
      clear HBT HZT HGT ht HR1
      go_wp2_with (first
        | with_reducible refine wpList_load_mid rfl 29 (.tmp 6) rfl w3.heap.size 0 rfl (bcell 80 x2.testBit) _ (by with_reducible exact HO2.out) Tryd.underlying29 rfl HSz2.out ?_
        | with_reducible refine wpList_load_mid rfl 29 (.tmp 1) rfl w.heap.size 0 rfl (bcell 80 x2.testBit) _ (by with_reducible exact HO5.out) Tryd.underlying29 rfl HSz2.out ?_)
      refine bodyPost_ret (RG.result HZ5 Tryd.results20 rfl rfl) rfl ?_
      exact ⟨by rw [HP.out.1, HP.out.2, ← HX2.out, ← HT.out]; rfl, HB5.out⟩
end Go.Proofs.YtpjjobophplleaaDoor
/-
  avouchref08.in, New: what each call does.
-/
namespace Go.Proofs.YtpjjobophplleaaDoor
open Go.RowKit
set_option linter.unusedVariables false

set_option maxRecDepth 20000 in
theorem in12_c (n : Int) (w : World) :
    Calls Tryd.prog 17 #[.int .i64 n, .int .i64 1, .int .i64 4095] w fun e w' => e = .returned (.bool (decide (1 ≤ n ∧ n < 4096))) ∧ w' = w := by
  by_cases h1 : 1 ≤ n
  · by_cases h2 : n ≤ 4095
    · have e : decide (1 ≤ n ∧ n < 4096) = true := decide_eq_true ⟨h1, by omega⟩
      rw [e]
      clear e
      go_enter Tryd.func17, Tryd.ntmps17
      go_wp2
      go_ret
      exact ⟨rfl, rfl⟩
    · have e : decide (1 ≤ n ∧ n < 4096) = false := decide_eq_false (by omega)
      rw [e]
      have h3 : decide (n ≤ 4095) = false := decide_eq_false h2
      clear e h2
      go_enter Tryd.func17, Tryd.ntmps17
      go_wp2
      go_ret
      exact ⟨rfl, rfl⟩
  · have e : decide (1 ≤ n ∧ n < 4096) = false := decide_eq_false (by omega)
    rw [e]
    have h3 : decide (1 ≤ n) = false := decide_eq_false h1
    clear e h1
    go_enter Tryd.func17, Tryd.ntmps17
    go_wp2
    go_ret
    exact ⟨rfl, rfl⟩
set_option maxRecDepth 20000 in
theorem in10_c (n : Int) (w : World) :
    Calls Tryd.prog 17 #[.int .i64 n, .int .i64 0, .int .i64 1023] w fun e w' => e = .returned (.bool (decide (0 ≤ n ∧ n < 1024))) ∧ w' = w := by
  by_cases h1 : 0 ≤ n
  · by_cases h2 : n ≤ 1023
    · have e : decide (0 ≤ n ∧ n < 1024) = true := decide_eq_true ⟨h1, by omega⟩
      rw [e]
      clear e
      go_enter Tryd.func17, Tryd.ntmps17
      go_wp2
      go_ret
      exact ⟨rfl, rfl⟩
    · have e : decide (0 ≤ n ∧ n < 1024) = false := decide_eq_false (by omega)
      rw [e]
      have h3 : decide (n ≤ 1023) = false := decide_eq_false h2
      clear e h2
      go_enter Tryd.func17, Tryd.ntmps17
      go_wp2
      go_ret
      exact ⟨rfl, rfl⟩
  · have e : decide (0 ≤ n ∧ n < 1024) = false := decide_eq_false (by omega)
    rw [e]
    have h3 : decide (0 ≤ n) = false := decide_eq_false h1
    clear e h1
    go_enter Tryd.func17, Tryd.ntmps17
    go_wp2
    go_ret
    exact ⟨rfl, rfl⟩
/-- The bits of a list, the first k of them laid. -/
def fcp (L : List Bool) (k : Nat) : Nat → Bool := fun j => if j < k then L.getD j false else false
theorem fcp_set (L : List Bool) (k j : Nat) : (if j = k then L.getD k false else fcp L k j) = fcp L (k + 1) j := by
  unfold fcp
  by_cases c : j = k
  · rw [if_pos c, if_pos (by omega), c]
  · rw [if_neg c]
    by_cases d : j < k
    · rw [if_pos d, if_pos (by omega)]
    · rw [if_neg d, if_neg (by omega)]
theorem fcp_end (a b c d : Nat) {j : Nat} (hj : j < 80) : fcp (gL a b c d) 80 j = (gS0 a b c d).testBit j := by
  unfold fcp
  rw [if_pos hj, gS0_bit]
structure CpR (q : Nat) (f : Nat → Bool) (w wr : World) : Prop where
  o : BF wr q 29 80 f
  b : Below q w wr
theorem CpR.set {q : Nat} {f g : Nat → Bool} {w wr : World} (h : CpR q f w wr) {k : Nat} (hk : k < 80) (v : Bool) (e : ∀ j, (if j = k then v else f j) = g j) : CpR q g w (wr.setCell ⟨q, k, none⟩ (.bool v)) :=
  ⟨(h.o.setf hk v).eq fun j _ => e j, h.b.setCell (Nat.le_refl _) _⟩
theorem CpR.turn {q : Nat} {f : Nat → Bool} {w wr w' : World} (h : CpR q f w wr) (hb : Below wr.heap.size wr w') (hq : q ≤ wr.heap.size) (x : Nat) : CpR q x.testBit w (w'.setCells q 0 (bcell 80 x.testBit)) :=
  ⟨BF.over x.testBit (BlkV.up h.o hb), below_cells (Nat.le_refl _) _ _ _ (h.b.trans (hb.mono hq))⟩
end Go.Proofs.YtpjjobophplleaaDoor
