/-
  avouchref08.Turn: what the call does.
-/
import Derived.Test.YtpjjobophplleaaDoorGnA
namespace Go.Proofs.YtpjjobophplleaaDoor
open Go.RowKit
set_option linter.unusedVariables false

def gtaps : List Nat := [62, 51, 38, 23, 13, 0]
/-- How many of the first k taps are 1. -/
def gcnt (s : Nat) : Nat → Nat
  | 0 => 0
  | k + 1 => gcnt s k + (s.testBit (gtaps.getD k 0)).toNat
theorem gcnt_le (s : Nat) : ∀ k, gcnt s k ≤ k
  | 0 => Nat.le_refl _
  | k + 1 => by
    show gcnt s k + (s.testBit (gtaps.getD k 0)).toNat ≤ k + 1
    have := gcnt_le s k
    have := bool_le (s.testBit (gtaps.getD k 0))
    omega
theorem gcnt_tap (s : Nat) : (((gcnt s 6 : Nat) : Int) % 2 == 1) = gtap s := by
  show (((0 + (s.testBit 62).toNat + (s.testBit 51).toNat + (s.testBit 38).toNat + (s.testBit 23).toNat + (s.testBit 13).toNat + (s.testBit 0).toNat : Nat) : Int) % 2 == 1) = gtap s
  unfold gtap
  cases s.testBit 62 <;> cases s.testBit 51 <;> cases s.testBit 38 <;> cases s.testBit 23 <;> cases s.testBit 13 <;> cases s.testBit 0 <;> rfl
theorem gtaps_lt {k : Nat} (h : k < 6) : gtaps.getD k 0 < 80 := by
  match k, h with
  | 0, _ => decide
  | 1, _ => decide
  | 2, _ => decide
  | 3, _ => decide
  | 4, _ => decide
  | 5, _ => decide
def tapV : List Value := [.int .i64 62, .int .i64 51, .int .i64 38, .int .i64 23, .int .i64 13, .int .i64 0]
theorem tapV_cell {w : World} {b : Nat} {t : TypeId} (h : BlkV w b t tapV) {k : Nat} (hk : k < 6) : w.cell? ⟨b, k, none⟩ = some (.int .i64 ((gtaps.getD k 0 : Nat) : Int)) := by
  rw [h.cell (show k < tapV.length from hk)]
  match k, hk with
  | 0, _ => rfl
  | 1, _ => rfl
  | 2, _ => rfl
  | 3, _ => rfl
  | 4, _ => rfl
  | 5, _ => rfl
/-- The register when k bits have stepped down. -/
def gshf (s k : Nat) : Nat → Bool := fun j => if j < k then s.testBit (j + 1) else s.testBit j
theorem gshf_set (s : Nat) {k : Nat} (j : Nat) : (if j = k then s.testBit (k + 1) else gshf s k j) = gshf s (k + 1) j := by
  unfold gshf
  by_cases c : j = k
  · rw [if_pos c, if_pos (by omega), c]
  · rw [if_neg c]
    by_cases d : j < k
    · rw [if_pos d, if_pos (by omega)]
    · rw [if_neg d, if_neg (by omega)]
theorem gshf_end {s : Nat} (h : s < g80) {j : Nat} (hj : j < 80) : (if j = 79 then gtap s else gshf s 79 j) = (gT s).testBit j := by
  rw [gT_bit h]
  by_cases c : j = 79
  · rw [if_pos c, c, if_neg (by decide)]
    cases gtap s <;> rfl
  · unfold gshf
    rw [if_neg c, if_pos (by omega), if_pos (by omega)]
structure TuR (w : World) (f : Nat → Bool) (wr : World) : Prop where
  o : BF wr w.heap.size 29 80 f
  z : RG wr (w.heap.size + 1) 0
  b : Below w.heap.size w wr
theorem TuR.set {w wr : World} {f : Nat → Bool} (h : TuR w f wr) {k : Nat} (hk : k < 80) (v : Bool) : TuR w (fun j => if j = k then v else f j) (wr.setCell ⟨w.heap.size, k, none⟩ (.bool v)) :=
  ⟨h.o.setf hk v, h.z.other (by omega), h.b.setCell (Nat.le_refl _) _⟩
theorem TuR.eq {w wr : World} {f g : Nat → Bool} (h : TuR w f wr) (e : ∀ k, k < 80 → f k = g k) : TuR w g wr := ⟨h.o.eq e, h.z, h.b⟩
theorem TuR.alloc {w wr : World} {f : Nat → Bool} (h : TuR w f wr) (o : Obj) : TuR w f (wr.alloc o) := ⟨BlkV.alloc h.o o, BlkV.alloc h.z o, h.b.alloc (h.b.size) o⟩
theorem TuR.start (w : World) (s : Nat) : TuR w s.testBit ((w.alloc (oR s)).alloc (oR 0)) := by
  have e1 : (w.alloc (oR s)).heap.size = w.heap.size + 1 := by simp
  have h2 := oR_new (w.alloc (oR s)) 0
  rw [e1] at h2
  exact ⟨BlkV.alloc (oR_new w s) _, h2, ((Below.refl _ _).alloc (Nat.le_refl _) _).alloc (by omega) _⟩

set_option maxRecDepth 20000 in
set_option maxHeartbeats 2000000 in
theorem rturn_c (s : Nat) (w : World) (hs : s < g80) :
    Calls Tryd.prog 19 #[rg s] w fun e w' => e = .returned (.tuple #[rg (gT s), .bool (gtap s)]) ∧ Below w.heap.size w w' := by
  have R1 := hid ((TuR.start w s).alloc (.cells tapV.toArray 3))
  have HI := hid (BlkV.new ((w.alloc (oR s)).alloc (oR 0)) 3 tapV)
  rw [show ((w.alloc (oR s)).alloc (oR 0)).heap.size = w.heap.size + 1 + 1 by simp] at HI
  have hla := rg_len s
  have hlz := rg_len 0
  have hz := zeroR
  have HEnd : Hid (∀ j, j < 80 → (if j = 79 then gtap s else gshf s 79 j) = (gT s).testBit j) := fun j hj => gshf_end hs hj
  have HT := hid (gcnt_tap s)
  obtain ⟨L, eL⟩ : ∃ L, L = gT s := ⟨_, rfl⟩
  obtain ⟨y, hy⟩ : ∃ y, y = gtap s := ⟨_, rfl⟩
  rw [← eL] at HEnd ⊢
  rw [← hy] at HEnd HT ⊢
  clear eL hy hs
  unfold oR tapV at R1 HI
  rw [show rg s = .agg (bcell 80 s.testBit).toArray from rfl]
  go_enter Tryd.func19, Tryd.ntmps19
  go_wp2_with fail
  clear hla hlz hz
  change Code.wp _ _ _ _ (((w.alloc _).alloc _).alloc (.cells #[.int .i64 62, .int .i64 51, .int .i64 38, .int .i64 23, .int .i64 13, .int .i64 0] 3))
  generalize (((w.alloc _).alloc _).alloc _) = w0 at *
  go_loopw [4, 10] (fun c i wr => ∃ k : Nat, k ≤ 6 ∧ c = .int .i64 (gcnt s k : Nat) ∧ i = .int .i64 k ∧ wr = w0) (fun _ i _ => 6 - (intOf i).toNat)
  case atStart => exact ⟨0, by omega, rfl, rfl, rfl⟩
  case round =>
    obtain ⟨k, hk, rfl, rfl, rfl⟩ := hrel
    have hc6 := gcnt_le s k
    obtain ⟨c, hc⟩ : ∃ c, c = gcnt s k := ⟨_, rfl⟩
    rw [← hc] at hc6 ⊢
    have HC := hid hc
    clear hc
    by_cases hlt : k < 6
    · have i2 : (k : Int) < 6 := by omega
      have c1 := tapV_cell HI.out hlt
      have hj := gtaps_lt hlt
      have HG : Hid (gcnt s (k + 1) = c + (s.testBit (gtaps.getD k 0)).toNat) := by
        show _ = _
        rw [HC.out]
        rfl
      generalize gtaps.getD k 0 = j at *
      have j2 : (j : Int) < 80 := by omega
      have c2 := R1.out.o.cellf hj
      cases hb : s.testBit j
      · rw [hb] at c2 HG
        have HG2 : Hid (gcnt s (k + 1) = c) := HG
        clear HG hb
        go_wp2
        go_roundw
        case rel => exact ⟨k + 1, by omega, by rw [HG2.out], by go_num, by trivial⟩
        case measure => simp [intOf]; omega
      · rw [hb] at c2 HG
        have HG2 : Hid (gcnt s (k + 1) = c + 1) := HG
        clear HG hb
        go_wp2
        go_roundw
        case rel => exact ⟨k + 1, by omega, by rw [HG2.out]; go_num, by go_num, by trivial⟩
        case measure => simp [intOf]; omega
    · obtain rfl : k = 6 := by omega
      rw [← HC.out] at HT
      have HR : Hid (TuR w (gshf s 0) wr) := R1.out.eq fun j _ => by unfold gshf; rw [if_neg (by omega)]
      have hc0 : 0 ≤ c := Nat.zero_le c
      have hbit : ((c : Int) % 2 == 1) = y := HT.out
      have HT2 := hid hbit
      clear R1 HI hbit
      go_wp2
      obtain ⟨w1, hw1⟩ : ∃ v, v = wr := ⟨wr, rfl⟩
      rw [← hw1] at HR ⊢
      clear hw1
      go_loopw [7] (fun i wr => ∃ k : Nat, k ≤ 79 ∧ i = .int .i64 k ∧ TuR w (gshf s k) wr) (fun i _ => 79 - (intOf i).toNat)
      case atStart => exact ⟨0, by omega, rfl, HR.out⟩
      case round =>
        clear HR
        obtain ⟨k, hk, rfl, hrel⟩ := hrel
        by_cases hlt : k < 79
        · have i2 : (k : Int) < 79 := by omega
          have i3 : ((k + 1 : Nat) : Int) < 80 := by omega
          have c1 := hrel.o.cellf (k := k + 1) (by omega)
          have c3 := hrel.o.cellf (k := k) (by omega)
          have f1 := hrel.o.frozen k
          have e1 : gshf s k (k + 1) = s.testBit (k + 1) := by unfold gshf; rw [if_neg (by omega)]
          rw [e1] at c1
          have HST := hid ((hrel.set (k := k) (by omega) (s.testBit (k + 1))).eq fun j _ => gshf_set s j)
          generalize s.testBit (k + 1) = v at *
          generalize gshf s k k = u at *
          clear hrel e1
          go_wp2
          go_roundw
          case rel => exact ⟨k + 1, by omega, by go_num, HST.out⟩
          case measure => simp [intOf]; omega
        · obtain rfl : k = 79 := by omega
          have f1 := hrel.o.frozen 79
          have c3 := hrel.o.cellf (k := 79) (by omega)
          have hS := (hrel.set (k := 79) (by omega) ((c : Int) % 2 == 1)).eq (by rw [HT2.out]; exact HEnd.out)
          generalize gshf s 79 79 = u at *
          have HO := hid hS.o.range
          have hst := oR_store (P := Tryd.prog) L hS.z
          have HZ := hid (hS.z.put L)
          have HB := hid hS.b
          have hlenL := rg_len L
          have HSz := hid (sizeR_s L)
          clear hrel hS
          go_wp2_with (with_reducible refine wpList_load_mid rfl 29 (.tmp 1) rfl w.heap.size 0 rfl (bcell 80 L.testBit) _ HO.out Tryd.underlying29 rfl HSz.out ?_)
          refine bodyPost_ret (RG.result HZ Tryd.results19 rfl rfl) rfl ?_
          exact ⟨by rw [HT2.out]; rfl, below_cells (by omega) _ _ _ HB.out⟩
end Go.Proofs.YtpjjobophplleaaDoor
