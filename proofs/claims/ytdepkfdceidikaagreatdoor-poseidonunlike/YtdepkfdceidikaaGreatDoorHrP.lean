import Derived.Test.YtdepkfdceidikaaGreatDoorHrB
import Derived.Test.YtdepkfdceidikaaGreatDoorPsC
/-
  avouchref08.Turn: what the call does.
-/
namespace Go.Proofs.YtdepkfdceidikaaGreatDoor
open Go.RowKit
set_option linter.unusedVariables false

def gtaps : List Nat := [62, 51, 38, 23, 13, 0]
/-- How many of the first k taps are 1. -/
def gcnt (s : Nat) : Nat → Nat
  | 0 => 0
  | k + 1 => gcnt s k + (s.testBit (gtaps.getD k 0)).toNat
theorem gcnt_le (s : Nat) : ∀ k, gcnt s k ≤ k
  | 0 => Nat.le_refl _
  | k + 1 => by
    show gcnt s k + (s.testBit (gtaps.getD k 0)).toNat ≤ k + 1
    have := gcnt_le s k
    have := bool_le (s.testBit (gtaps.getD k 0))
    omega
theorem gcnt_tap (s : Nat) : (((gcnt s 6 : Nat) : Int) % 2 == 1) = gtap s := by
  show (((0 + (s.testBit 62).toNat + (s.testBit 51).toNat + (s.testBit 38).toNat + (s.testBit 23).toNat + (s.testBit 13).toNat + (s.testBit 0).toNat : Nat) : Int) % 2 == 1) = gtap s
  unfold gtap
  cases s.testBit 62 <;> cases s.testBit 51 <;> cases s.testBit 38 <;> cases s.testBit 23 <;> cases s.testBit 13 <;> cases s.testBit 0 <;> rfl
theorem gtaps_lt {k : Nat} (h : k < 6) : gtaps.getD k 0 < 80 := by
  match k, h with
  | 0, _ => decide
  | 1, _ => decide
  | 2, _ => decide
  | 3, _ => decide
  | 4, _ => decide
  | 5, _ => decide
def tapV : List Value := [.int .i64 62, .int .i64 51, .int .i64 38, .int .i64 23, .int .i64 13, .int .i64 0]
theorem tapV_cell {w : World} {b : Nat} {t : TypeId} (h : BlkV w b t tapV) {k : Nat} (hk : k < 6) : w.cell? ⟨b, k, none⟩ = some (.int .i64 ((gtaps.getD k 0 : Nat) : Int)) := by
  rw [h.cell (show k < tapV.length from hk)]
  match k, hk with
  | 0, _ => rfl
  | 1, _ => rfl
  | 2, _ => rfl
  | 3, _ => rfl
  | 4, _ => rfl
  | 5, _ => rfl
/-- The register when k bits have stepped down. -/
def gshf (s k : Nat) : Nat → Bool := fun j => if j < k then s.testBit (j + 1) else s.testBit j
theorem gshf_set (s : Nat) {k : Nat} (j : Nat) : (if j = k then s.testBit (k + 1) else gshf s k j) = gshf s (k + 1) j := by
  unfold gshf
  by_cases c : j = k
  · rw [if_pos c, if_pos (by omega), c]
  · rw [if_neg c]
    by_cases d : j < k
    · rw [if_pos d, if_pos (by omega)]
    · rw [if_neg d, if_neg (by omega)]
theorem gshf_end {s : Nat} (h : s < g80) {j : Nat} (hj : j < 80) : (if j = 79 then gtap s else gshf s 79 j) = (gT s).testBit j := by
  rw [gT_bit h]
  by_cases c : j = 79
  · rw [if_pos c, c, if_neg (by decide)]
    cases gtap s <;> rfl
  · unfold gshf
    rw [if_neg c, if_pos (by omega), if_pos (by omega)]
structure TuR (w : World) (f : Nat → Bool) (wr : World) : Prop where
  o : BF wr w.heap.size 77 80 f
  z : RG wr (w.heap.size + 1) 0
  b : Below w.heap.size w wr
theorem TuR.set {w wr : World} {f : Nat → Bool} (h : TuR w f wr) {k : Nat} (hk : k < 80) (v : Bool) : TuR w (fun j => if j = k then v else f j) (wr.setCell ⟨w.heap.size, k, none⟩ (.bool v)) :=
  ⟨h.o.setf hk v, h.z.other (by omega), h.b.setCell (Nat.le_refl _) _⟩
theorem TuR.eq {w wr : World} {f g : Nat → Bool} (h : TuR w f wr) (e : ∀ k, k < 80 → f k = g k) : TuR w g wr := ⟨h.o.eq e, h.z, h.b⟩
theorem TuR.alloc {w wr : World} {f : Nat → Bool} (h : TuR w f wr) (o : Obj) : TuR w f (wr.alloc o) := ⟨BlkV.alloc h.o o, BlkV.alloc h.z o, h.b.alloc (h.b.size) o⟩
theorem TuR.start (w : World) (s : Nat) : TuR w s.testBit ((w.alloc (oR s)).alloc (oR 0)) := by
  have e1 : (w.alloc (oR s)).heap.size = w.heap.size + 1 := by simp
  have h2 := oR_new (w.alloc (oR s)) 0
  rw [e1] at h2
  exact ⟨BlkV.alloc (oR_new w s) _, h2, ((Below.refl _ _).alloc (Nat.le_refl _) _).alloc (by omega) _⟩

set_option maxRecDepth 20000 in
set_option maxHeartbeats 2000000 in
theorem rturn_c (s : Nat) (w : World) (hs : s < g80) :
    Calls Tryz.prog 53 #[rg s] w fun e w' => e = .returned (.tuple #[rg (gT s), .bool (gtap s)]) ∧ Below w.heap.size w w' := by
  have R1 := hid ((TuR.start w s).alloc (.cells tapV.toArray 3))
  have HI := hid (BlkV.new ((w.alloc (oR s)).alloc (oR 0)) 3 tapV)
  rw [show ((w.alloc (oR s)).alloc (oR 0)).heap.size = w.heap.size + 1 + 1 by simp] at HI
  have hla := rg_len s
  have hlz := rg_len 0
  have hz := zeroR
  have HEnd : Hid (∀ j, j < 80 → (if j = 79 then gtap s else gshf s 79 j) = (gT s).testBit j) := fun j hj => gshf_end hs hj
  have HT := hid (gcnt_tap s)
  obtain ⟨L, eL⟩ : ∃ L, L = gT s := ⟨_, rfl⟩
  obtain ⟨y, hy⟩ : ∃ y, y = gtap s := ⟨_, rfl⟩
  rw [← eL] at HEnd ⊢
  rw [← hy] at HEnd HT ⊢
  clear eL hy hs
  unfold oR tapV at R1 HI
  rw [show rg s = .agg (bcell 80 s.testBit).toArray from rfl]
  go_enter Tryz.func53, Tryz.ntmps53
  go_wp2_with fail
  clear hla hlz hz
  change Code.wp _ _ _ _ (((w.alloc _).alloc _).alloc (.cells #[.int .i64 62, .int .i64 51, .int .i64 38, .int .i64 23, .int .i64 13, .int .i64 0] 3))
  generalize (((w.alloc _).alloc _).alloc _) = w0 at *
  go_loopw [4, 10] (fun c i wr => ∃ k : Nat, k ≤ 6 ∧ c = .int .i64 (gcnt s k : Nat) ∧ i = .int .i64 k ∧ wr = w0) (fun _ i _ => 6 - (intOf i).toNat)
  case atStart => exact ⟨0, by omega, rfl, rfl, rfl⟩
  case round =>
    obtain ⟨k, hk, rfl, rfl, rfl⟩ := hrel
    have hc6 := gcnt_le s k
    obtain ⟨c, hc⟩ : ∃ c, c = gcnt s k := ⟨_, rfl⟩
    rw [← hc] at hc6 ⊢
    have HC := hid hc
    clear hc
    by_cases hlt : k < 6
    · have i2 : (k : Int) < 6 := by omega
      have c1 := tapV_cell HI.out hlt
      have hj := gtaps_lt hlt
      have HG : Hid (gcnt s (k + 1) = c + (s.testBit (gtaps.getD k 0)).toNat) := by
        show _ = _
        rw [HC.out]
        rfl
      generalize gtaps.getD k 0 = j at *
      have j2 : (j : Int) < 80 := by omega
      have c2 := R1.out.o.cellf hj
      cases hb : s.testBit j
      · rw [hb] at c2 HG
        have HG2 : Hid (gcnt s (k + 1) = c) := HG
        clear HG hb
        go_wp2
        go_roundw
        case rel => exact ⟨k + 1, by omega, by rw [HG2.out], by go_num, by trivial⟩
        case measure => simp [intOf]; omega
      · rw [hb] at c2 HG
        have HG2 : Hid (gcnt s (k + 1) = c + 1) := HG
        clear HG hb
        go_wp2
        go_roundw
        case rel => exact ⟨k + 1, by omega, by rw [HG2.out]; go_num, by go_num, by trivial⟩
        case measure => simp [intOf]; omega
    · obtain rfl : k = 6 := by omega
      rw [← HC.out] at HT
      have HR : Hid (TuR w (gshf s 0) wr) := R1.out.eq fun j _ => by unfold gshf; rw [if_neg (by omega)]
      have hc0 : 0 ≤ c := Nat.zero_le c
      have hbit : ((c : Int) % 2 == 1) = y := HT.out
      have HT2 := hid hbit
      clear R1 HI hbit
      go_wp2
      obtain ⟨w1, hw1⟩ : ∃ v, v = wr := ⟨wr, rfl⟩
      rw [← hw1] at HR ⊢
      clear hw1
      go_loopw [7] (fun i wr => ∃ k : Nat, k ≤ 79 ∧ i = .int .i64 k ∧ TuR w (gshf s k) wr) (fun i _ => 79 - (intOf i).toNat)
      case atStart => exact ⟨0, by omega, rfl, HR.out⟩
      case round =>
        clear HR
        obtain ⟨k, hk, rfl, hrel⟩ := hrel
        by_cases hlt : k < 79
        · have i2 : (k : Int) < 79 := by omega
          have i3 : ((k + 1 : Nat) : Int) < 80 := by omega
          have c1 := hrel.o.cellf (k := k + 1) (by omega)
          have c3 := hrel.o.cellf (k := k) (by omega)
          have f1 := hrel.o.frozen k
          have e1 : gshf s k (k + 1) = s.testBit (k + 1) := by unfold gshf; rw [if_neg (by omega)]
          rw [e1] at c1
          have HST := hid ((hrel.set (k := k) (by omega) (s.testBit (k + 1))).eq fun j _ => gshf_set s j)
          generalize s.testBit (k + 1) = v at *
          generalize gshf s k k = u at *
          clear hrel e1
          go_wp2
          go_roundw
          case rel => exact ⟨k + 1, by omega, by go_num, HST.out⟩
          case measure => simp [intOf]; omega
        · obtain rfl : k = 79 := by omega
          have f1 := hrel.o.frozen 79
          have c3 := hrel.o.cellf (k := 79) (by omega)
          have hS := (hrel.set (k := 79) (by omega) ((c : Int) % 2 == 1)).eq (by rw [HT2.out]; exact HEnd.out)
          generalize gshf s 79 79 = u at *
          have HO := hid hS.o.range
          have hst := oR_store (P := Tryz.prog) L hS.z
          have HZ := hid (hS.z.put L)
          have HB := hid hS.b
          have hlenL := rg_len L
          have HSz := hid (sizeR_s L)
          clear hrel hS
          go_wp2_with (with_reducible refine wpList_load_mid rfl 77 (.tmp 1) rfl w.heap.size 0 rfl (bcell 80 L.testBit) _ HO.out Tryz.underlying77 rfl HSz.out ?_)
          refine bodyPost_ret (RG.result HZ Tryz.results53 rfl rfl) rfl ?_
          exact ⟨by rw [HT2.out]; rfl, below_cells (by omega) _ _ _ HB.out⟩
end Go.Proofs.YtdepkfdceidikaaGreatDoor
/-
  avouchref08.Bit: what the call does.
-/
namespace Go.Proofs.YtdepkfdceidikaaGreatDoor
open Go.RowKit
set_option linter.unusedVariables false

theorem RG.inj {w : World} {b x y : Nat} (h : RG w b x) (k : RG w b y) (hx : x < g80) (hy : y < g80) : x = y :=
  g80_ext hx hy (bcell_inj (BlkV.same h k))
/-- The register that lies in a block of bools. -/
noncomputable def regB (w : World) (b : Nat) : Nat := open Classical in if h : ∃ s, s < g80 ∧ RG w b s then Classical.choose h else 0
theorem regB_eq {w : World} {b s : Nat} (h : RG w b s) (hs : s < g80) : regB w b = s := by
  have hx : ∃ s, s < g80 ∧ RG w b s := ⟨s, hs, h⟩
  have hc := Classical.choose_spec hx
  unfold regB
  rw [dif_pos hx]
  exact hc.2.inj h hc.1 hs
/-- The register on the way: its next bit is the one that is looked for. -/
structure BtR (w : World) (s s' : Nat) (wr : World) : Prop where
  gs : GS s'
  g : RG wr w.heap.size s'
  z : RG wr (w.heap.size + 1) 0
  b : Below w.heap.size w wr
  hb : gbit s' = gbit s
  hn : gnext s' = gnext s
theorem BtR.start (w : World) {s : Nat} (hs : GS s) : BtR w s s ((w.alloc (oR s)).alloc (oR 0)) := by
  have h := TuR.start w s
  exact ⟨hs, h.o, h.z, h.b, rfl, rfl⟩
theorem BtR.up {w wr w' : World} {s s' : Nat} (h : BtR w s s' wr) (hb : Below wr.heap.size wr w') : BtR w s s' w' := ⟨h.gs, BlkV.up h.g hb, BlkV.up h.z hb, h.b.trans (hb.mono h.b.size), h.hb, h.hn⟩

theorem BtR.pass {w : World} {s s' : Nat} {wr w2 : World} (h : BtR w s s' wr) (h0 : gtap s' = false) {x : Nat} (hx : x = gT (gT s')) (g2 : RG w2 w.heap.size x) (z2 : RG w2 (w.heap.size + 1) 0) (b2 : Below w.heap.size w w2) :
    BtR w s x w2 ∧ gnx (regB w2 w.heap.size) < gnx (regB wr w.heap.size) := by
  have e : x = gIt 2 s' := hx
  have g3 := h.gs.it 2
  rw [e] at g2 ⊢
  refine ⟨⟨g3, g2, z2, b2, ?_, ?_⟩, ?_⟩
  · rw [← h.hb]
    unfold gbit
    rw [ghd_succ h.gs h0]
  · rw [← h.hn]
    unfold gnext
    rw [ghd_succ h.gs h0]
  · rw [regB_eq g2 g3.lt, regB_eq h.g h.gs.lt, gnx_succ h.gs h0]
    exact Nat.lt_succ_self _
theorem BtR.end_ {w : World} {s s' : Nat} {wr : World} (h : BtR w s s' wr) (h0 : gtap s' = true) : gbit s = gtap (gT s') ∧ gnext s = gT (gT s') := by
  refine ⟨?_, ?_⟩
  · rw [← h.hb]
    unfold gbit
    rw [ghd_zero h.gs h0]
  · rw [← h.hn]
    unfold gnext
    rw [ghd_zero h.gs h0]
    rfl
/-- Some bools stored into a new variable. -/
theorem newR (w : World) (x : Nat) : (storeCells ⟨w.heap.size, 0, none⟩ (bcell 80 x.testBit)).run Tryz.prog (w.alloc (oR 0)) = .ok () ((w.alloc (oR 0)).setCells w.heap.size 0 (bcell 80 x.testBit)) ∧
    RG ((w.alloc (oR 0)).setCells w.heap.size 0 (bcell 80 x.testBit)) w.heap.size x ∧ Below w.heap.size w ((w.alloc (oR 0)).setCells w.heap.size 0 (bcell 80 x.testBit)) := by
  have h := oR_new w 0
  exact ⟨oR_store x h, h.put x, below_cells (Nat.le_refl _) _ _ _ ((Below.refl _ _).alloc (Nat.le_refl _) _)⟩

set_option maxRecDepth 20000 in
set_option maxHeartbeats 2000000 in
theorem rbit_c (s : Nat) (w : World) (hs : GS s) :
    Calls Tryz.prog 55 #[rg s] w fun e w' => e = .returned (.tuple #[rg (gnext s), .bool (gbit s)]) ∧ Below w.heap.size w w' := by
  have R0 := hid (BtR.start w hs)
  have hla := rg_len s
  have hlz := rg_len 0
  have hz := zeroR
  clear hs
  unfold oR at R0
  rw [show rg s = .agg (bcell 80 s.testBit).toArray from rfl]
  go_enter Tryz.func55, Tryz.ntmps55
  go_wp2_with fail
  clear hla
  generalize (((w.alloc _).alloc _)) = w0 at *
  go_loopw [4] (fun _ wr => ∃ s', BtR w s s' wr) (fun _ w' => gnx (regB w' w.heap.size))
  case atStart => exact ⟨s, R0.out⟩
  case round =>
    clear R0
    obtain ⟨s', hR⟩ := hrel
    have HR := hid hR
    have HO := hid hR.g.range
    have HSz := hid (sizeR_s s')
    clear hR
    go_wp2_with (with_reducible refine wpList_load_mid rfl 77 (.tmp 1) rfl w.heap.size 0 rfl (bcell 80 s'.testBit) _ (by with_reducible exact HO.out) Tryz.underlying77 rfl HSz.out ?_)
    refine (rturn_c s' wr HR.out.gs.lt).mono ?_
    rintro e w1 ⟨rfl, b1⟩
    obtain ⟨x1, hx1⟩ : ∃ x, x = gT s' := ⟨_, rfl⟩
    rw [← hx1]
    have HX1 := hid hx1
    obtain ⟨hst1, hn1, hb1⟩ := newR w1 x1
    have hl1 := rg_len x1
    have HO1 := hid hn1.range
    have HSz1 := hid (sizeR_s x1)
    have HR1 := hid (HR.out.up (b1.trans (hb1.mono b1.size)))
    unfold rg oR at *
    clear hx1 HO HSz b1 hb1
    go_wp2_with (with_reducible refine wpList_load_mid rfl 77 (.tmp 4) rfl w1.heap.size 0 rfl (bcell 80 x1.testBit) _ (by with_reducible exact HO1.out) Tryz.underlying77 rfl HSz1.out ?_)
    generalize ((w1.alloc _).setCells _ _ _) = w2 at *
    generalize w1.heap.size = p1 at *
    clear hst1 hn1 hl1 HO1 HSz1
    have hx80 : x1 < g80 := by rw [HX1.out]; exact gT_lt HR.out.gs.lt
    refine (rturn_c x1 w2 hx80).mono ?_
    rintro e w3 ⟨rfl, b3⟩
    obtain ⟨x2, hx2⟩ : ∃ x, x = gT x1 := ⟨_, rfl⟩
    rw [← hx2]
    have HX2 := hid (hx2.trans (congrArg gT HX1.out))
    obtain ⟨hst2, hn2, hb2⟩ := newR w3 x2
    have hl2 := rg_len x2
    have HO2 := hid hn2.range
    have HSz2 := hid (sizeR_s x2)
    have hR2 := HR1.out.up (b3.trans (hb2.mono b3.size))
    have hst3 := oR_store (P := Tryz.prog) x2 hR2.g
    have hg5 := hR2.g.put x2
    have hz5 := BlkV.put (show w.heap.size + 1 ≠ w.heap.size by omega) (bcell 80 x2.testBit) 0 _ hR2.z
    have hb5 := below_cells (Nat.le_refl w.heap.size) (bcell 80 x2.testBit) 0 _ hR2.b
    have hst5 := oR_store (P := Tryz.prog) x2 hz5
    have HZ5 := hid (RG.put x2 hz5)
    have HB5 := hid (below_cells (show w.heap.size ≤ w.heap.size + 1 by omega) (bcell 80 x2.testBit) 0 _ hb5)
    have HO5 := hid hg5.range
    have HT : Hid (gtap x1 = gtap (gT s')) := congrArg gtap HX1.out
    have HBT := hid hb5
    have HZT := hid hz5
    have HGT := hid hg5
    clear hx2 b3 hb2 hn2 hR2 hg5 hz5 hb5
    unfold rg oR at *
    cases ht : gtap s'
    · have HP := hid (HR.out.pass ht HX2.out HGT.out HZT.out HBT.out)
      clear HBT HZT HGT ht HR1
      go_wp2_with (with_reducible refine wpList_load_mid rfl 77 (.tmp 6) rfl w3.heap.size 0 rfl (bcell 80 x2.testBit) _ (by with_reducible exact HO2.out) Tryz.underlying77 rfl HSz2.out ?_)
      go_roundw
      case rel => exact ⟨_, HP.out.1⟩
      case measure => exact HP.out.2
    · have HP := hid (HR.out.end_ ht)
      clear HBT HZT HGT ht HR1
      go_wp2_with (first
        | with_reducible refine wpList_load_mid rfl 77 (.tmp 6) rfl w3.heap.size 0 rfl (bcell 80 x2.testBit) _ (by with_reducible exact HO2.out) Tryz.underlying77 rfl HSz2.out ?_
        | with_reducible refine wpList_load_mid rfl 77 (.tmp 1) rfl w.heap.size 0 rfl (bcell 80 x2.testBit) _ (by with_reducible exact HO5.out) Tryz.underlying77 rfl HSz2.out ?_)
      refine bodyPost_ret (RG.result HZ5 Tryz.results55 rfl rfl) rfl ?_
      exact ⟨by rw [HP.out.1, HP.out.2, ← HX2.out, ← HT.out]; rfl, HB5.out⟩
end Go.Proofs.YtdepkfdceidikaaGreatDoor
/-
  The eight digits of the next 254 bits, as avouchref08.Element lays them. Plain arithmetic.
-/
namespace Go.Proofs.YtdepkfdceidikaaGreatDoor
set_option linter.unusedVariables false

/-- Where the digit j begins; how many of its bits are drawn when k are. -/
def dgc (j : Nat) : Nat := 254 - 32 * (j + 1)
def dgm (k j : Nat) : Nat := min k (254 - 32 * j) - dgc j
noncomputable def drd (k s : Nat) : List Nat := (List.range 8).map fun j => gval (dgm k j) (gns (dgc j) s)
theorem drd_len (k s : Nat) : (drd k s).length = 8 := by unfold drd; rw [List.length_map, List.length_range]
theorem drd_at (k s : Nat) {j : Nat} (h : j < 8) : (drd k s).getD j 0 = gval (dgm k j) (gns (dgc j) s) := by
  unfold drd
  rw [List.getD_eq_getElem?_getD, List.getElem?_map, List.getElem?_range h]
  rfl
theorem dgm_le (k : Nat) {j : Nat} (h : j < 8) : dgm k j ≤ 32 := by unfold dgm dgc; omega
theorem drd_lt (k s : Nat) : ∀ x ∈ drd k s, x < 4294967296 := by
  intro x hx
  unfold drd at hx
  obtain ⟨j, hj, rfl⟩ := List.mem_map.1 hx
  have h8 := List.mem_range.1 hj
  have h1 := gval_lt (dgm k j) (gns (dgc j) s)
  have h2 : (2 : Nat) ^ dgm k j ≤ 2 ^ 32 := Nat.pow_le_pow_right (by decide) (dgm_le k h8)
  have e : (2 : Nat) ^ 32 = 4294967296 := by decide
  omega
theorem list_ext8 {l l' : List Nat} (h1 : l.length = 8) (h2 : l'.length = 8) (h : ∀ j, j < 8 → l.getD j 0 = l'.getD j 0) : l = l' := by
  apply List.ext_getElem (by omega)
  intro i hi hi'
  have := h i (by omega)
  rw [List.getD_eq_getElem?_getD, List.getD_eq_getElem?_getD, List.getElem?_eq_getElem hi, List.getElem?_eq_getElem hi'] at this
  exact this
theorem drd_zero (s : Nat) : drd 0 s = List.replicate 8 0 := by
  refine list_ext8 (drd_len 0 s) rfl fun j hj => ?_
  rw [drd_at 0 s hj, show dgm 0 j = 0 by unfold dgm; omega]
  rw [List.getD_eq_getElem?_getD, List.getElem?_replicate, if_pos hj]
  rfl
theorem drd_set {k : Nat} (hk : k < 254) (s : Nat) {j : Nat} (hj : j = (253 - k) / 32) : (drd k s).set j ((drd k s).getD j 0 * 2 + (gbit (gns k s)).toNat) = drd (k + 1) s := by
  have h8 : j < 8 := by omega
  refine list_ext8 (by rw [List.length_set]; exact drd_len k s) (drd_len (k + 1) s) fun i hi => ?_
  rw [drd_at (k + 1) s hi]
  by_cases c : i = j
  · subst c
    rw [List.getD_eq_getElem?_getD, List.getElem?_set_self (by rw [drd_len]; exact hi)]
    show (drd k s).getD i 0 * 2 + _ = _
    rw [drd_at k s hi]
    have e1 : dgm (k + 1) i = dgm k i + 1 := by unfold dgm dgc; omega
    have e2 : dgc i + dgm k i = k := by unfold dgm dgc; omega
    rw [e1, gval_last, ← gns_add, e2, Nat.mul_comm]
  · rw [List.getD_eq_getElem?_getD, List.getElem?_set_ne (by omega), ← List.getD_eq_getElem?_getD, drd_at k s hi, show dgm (k + 1) i = dgm k i by unfold dgm dgc; omega]
theorem drd_step (s : Nat) {j : Nat} (h : j < 7) : gval (254 - 32 * j) s = gval (dgm 254 j) (gns (dgc j) s) + 4294967296 * gval (254 - 32 * (j + 1)) s := by
  have e1 : 254 - 32 * j = dgc j + 32 := by unfold dgc; omega
  have e2 : dgm 254 j = 32 := by unfold dgm dgc; omega
  have e3 : (2 : Nat) ^ 32 = 4294967296 := by decide
  rw [e1, gval_join, e2, e3]
  show gval (dgc j) s * 4294967296 + _ = _ + 4294967296 * gval (dgc j) s
  rw [Nat.mul_comm, Nat.add_comm]
theorem drd_val (s : Nat) : val 4294967296 (drd 254 s) = gval 254 s := by
  have e : drd 254 s = [gval (dgm 254 0) (gns (dgc 0) s), gval (dgm 254 1) (gns (dgc 1) s), gval (dgm 254 2) (gns (dgc 2) s), gval (dgm 254 3) (gns (dgc 3) s), gval (dgm 254 4) (gns (dgc 4) s), gval (dgm 254 5) (gns (dgc 5) s), gval (dgm 254 6) (gns (dgc 6) s), gval (dgm 254 7) (gns (dgc 7) s)] := rfl
  have h0 := drd_step s (j := 0) (by decide)
  have h1 := drd_step s (j := 1) (by decide)
  have h2 := drd_step s (j := 2) (by decide)
  have h3 := drd_step s (j := 3) (by decide)
  have h4 := drd_step s (j := 4) (by decide)
  have h5 := drd_step s (j := 5) (by decide)
  have h6 := drd_step s (j := 6) (by decide)
  have h7 : gval (254 - 32 * (6 + 1)) s = gval (dgm 254 7) (gns (dgc 7) s) := rfl
  rw [e, val_consG, val_consG, val_consG, val_consG, val_consG, val_consG, val_consG, val_consG]
  rw [show val 4294967296 [] = 0 from rfl, Nat.mul_zero, Nat.add_zero, ← h7]
  have hh : gval 254 s = gval (254 - 32 * 0) s := rfl
  rw [hh, h0, h1, h2, h3, h4, h5, h6]
end Go.Proofs.YtdepkfdceidikaaGreatDoor
