/-
  (*Ring).Read, avouchref04.Read: what each call does.
-/
import Derived.Test.YtfonpmahcdmajaaDoorWidT
namespace Go.Proofs.YtfonpmahcdmajaaDoor
open Go.RowKit
set_option linter.unusedVariables false

/-- The number of bytes, or 0; and the error's number. -/
def rdN (g : Bool) (bs : List Nat) : Nat := if bs.length = 96 ∧ val 256 bs < mOf g then val 256 bs else 0
def rdE (g : Bool) (bs : List Nat) : Int := if bs.length = 96 then (if val 256 bs < mOf g then 0 else 4) else 1
theorem results_cell_tmp {fn : Func} {p q : Tmp} {ty : TypeId} {P : Program} {w : World} {tmps : Array Value} (h : fn.results = #[.cell p ty, .tmp q]) (a : Addr) (v u : Value) (hp : tmps.getD p undef = .pointer (some a)) (hl : (loadVar ty a).run P w = .ok v w) (hq : tmps.getD q undef = u) :
    (results fn tmps).run P w = .ok (.tuple #[v, u]) w := by
  have hp' : tmps[p]?.getD undef = .pointer (some a) := by simpa using hp
  have hq' : tmps[q]?.getD undef = u := by simpa using hq
  simp only [results, h]
  simp [hp', asAddr, hl, hq', Result.andThen]
theorem num_result2 {fn : Func} {p q : Tmp} {w : World} {tmps : Array Value} {b X : Nat} {u : Value} (h : fn.results = #[.cell p 24, .tmp q]) (hp : tmps.getD p undef = .pointer (some ⟨b, 0, none⟩)) (hr : Hid (w.rangeAt b 0 (cellsOf64 (ds X)))) (hq : tmps.getD q undef = u) :
    (results fn tmps).run Tryd.prog w = .ok (.tuple #[num X, u]) w :=
  results_cell_tmp h ⟨b, 0, none⟩ _ u hp (run_loadVar_mid _ b 0 24 (cellsOf64 (ds X)) _ hr.out Tryd.underlying24 rfl (sizeNb.trans (congrArg some (dsc_len X).symm))) hq
theorem cells_zero : cellsOf64 (ds 0) = [.int .u64 0, .int .u64 0, .int .u64 0, .int .u64 0, .int .u64 0, .int .u64 0, .int .u64 0, .int .u64 0, .int .u64 0, .int .u64 0, .int .u64 0, .int .u64 0] := by rw [ds_zero]; rfl
theorem zero_stored {w : World} {b : Nat} (h : BlkW w b 24 (List.replicate 12 0)) :
    Hid (w.there b 0 12) ∧ Hid ((w.setCells b 0 [.int .u64 0, .int .u64 0, .int .u64 0, .int .u64 0, .int .u64 0, .int .u64 0, .int .u64 0, .int .u64 0, .int .u64 0, .int .u64 0, .int .u64 0, .int .u64 0]).rangeAt b 0 (cellsOf64 (ds 0))) := by
  have := (num_stored (X := 0) h).2
  rw [← cells_zero]
  exact ⟨h.there, this⟩
theorem all_zero : (#[.int .u64 0, .int .u64 0, .int .u64 0, .int .u64 0, .int .u64 0, .int .u64 0, .int .u64 0, .int .u64 0, .int .u64 0, .int .u64 0, .int .u64 0, .int .u64 0] : Array Value).all (·.oneCell') = true := by simp [Value.oneCell']
theorem size_zero : (Tryd.prog.info? 24).map (·.size) = some (#[.int .u64 0, .int .u64 0, .int .u64 0, .int .u64 0, .int .u64 0, .int .u64 0, .int .u64 0, .int .u64 0, .int .u64 0, .int .u64 0, .int .u64 0, .int .u64 0] : Array Value).size := sizeNb

set_option maxRecDepth 20000 in
set_option maxHeartbeats 1000000 in
theorem rRead_ok (b : Nat) (g : Bool) (A : Option Addr) (c : Nat) (bs : List Nat) (w : World) (hR : RingP w b (mOf g)) (ha : Rd8 w w.heap.size A 96 bs) (N : Nat) (hN : Hid (val 256 bs = N)) (hlt : Hid (N < mOf g)) :
    Calls Tryd.prog 60 #[.pointer (some ⟨b, 0, none⟩), .slice A 96 c] w fun e w' => e = .returned (.tuple #[num N, .int .i64 0]) ∧ Below w.heap.size w w' := by
  have hl0 := (Below.refl w.heap.size w).alloc (Nat.le_refl _) (z12 24)
  have hZ0 := z12_new w 24
  have HR0 := hid (hR.up hl0)
  have ra := ha.up hl0 (Nat.le_refl _)
  have HL := hid hl0
  have HZ := hid hZ0
  obtain ⟨p, c0, hM⟩ := HR0.out.cell
  have HM := hid hM
  clear hl0 hZ0 hR ha hM
  unfold z12 at c0
  go_enter Tryd.func60, Tryd.ntmps60
  go_wp2_with fail
  refine (limbWords_c A 96 c bs _ ra (by decide)).mono ?_
  rintro e w1 ⟨A1, c1, l1, rfl, hc1, r1, v1, b1⟩
  have c1' : w1.cell? ⟨b, 0, none⟩ = some (.pointer (some ⟨p, 0, none⟩)) := (b1.cell (p := ⟨b, 0, none⟩) (by obtain ⟨_, _, h, _⟩ := HR0.out; exact h)).trans c0
  have HM1 := hid (HM.out.keep b1 HM.out.lt)
  have HV1 := hid v1
  have HR1 := hid r1
  have HZ1 := hid (HZ.out.below b1 HZ.out.size)
  have HL1 := hid (HL.out.trans (Below.mono (B' := w.heap.size) b1 HL.out.size))
  clear v1 c0 r1 b1 ra
  go_wp2_with fail
  refine (mwords_c p (ds (mOf g)) _ HM1.out).mono ?_
  rintro e w2 ⟨A2, c2, l2, rfl, hc2, r2, v2, b2⟩
  rw [ds_len] at r2 hc2 ⊢
  rw [ds_val _ (mOf_lt g)] at v2
  have HV2 := hid v2
  have HR2 := hid r2
  have HR12 := hid (HR1.out.up b2 (Nat.le_refl _))
  have HZ2 := hid (HZ1.out.below b2 HZ1.out.size)
  have HL2 := hid (HL1.out.trans (b2.mono HL1.out.size))
  clear v2 r2 b2 c1'
  go_wp2_with fail
  refine (cmp_c A1 A2 12 12 c1 c2 l1 l2 w2 w2.heap.size HR12.out HR2.out (by omega) (by omega)).mono ?_
  rintro e w' ⟨rfl, rfl⟩
  rw [HV1.out, HV2.out]
  rw [hN.out]
  have hd : decide (0 ≤ cmpN N (mOf g)) = false := cmpN_lt' hlt.out
  go_wp2_with fail
  refine (numberOf_c A1 12 c1 l1 w2 HR12.out (by decide)).mono ?_
  rintro e w3 ⟨rfl, b3⟩
  rw [HV1.out, hN.out]
  have hZ3 := HZ2.out.below b3 HZ2.out.size
  have hl3 := HL2.out.trans (b3.mono HL2.out.size)
  obtain ⟨hst, HR⟩ := num_stored (X := N) hZ3
  have hlen := dsc_len N
  clear hZ3 b3 hd
  unfold num
  go_wp2
  refine bodyPost_ret (num_result2 Tryd.results60 rfl HR rfl) rfl ?_
  exact ⟨rfl, below_cells (Nat.le_refl _) _ _ _ hl3⟩

set_option maxRecDepth 20000 in
set_option maxHeartbeats 1000000 in
theorem rRead_canon (b : Nat) (g : Bool) (A : Option Addr) (c : Nat) (bs : List Nat) (w : World) (hR : RingP w b (mOf g)) (ha : Rd8 w w.heap.size A 96 bs) (hge : Hid (mOf g ≤ val 256 bs)) :
    Calls Tryd.prog 60 #[.pointer (some ⟨b, 0, none⟩), .slice A 96 c] w fun e w' => e = .returned (.tuple #[num 0, .int .i64 4]) ∧ Below w.heap.size w w' := by
  have hl0 := (Below.refl w.heap.size w).alloc (Nat.le_refl _) (z12 24)
  have hZ0 := z12_new w 24
  have HR0 := hid (hR.up hl0)
  have ra := ha.up hl0 (Nat.le_refl _)
  have HL := hid hl0
  have HZ := hid hZ0
  obtain ⟨p, c0, hM⟩ := HR0.out.cell
  have HM := hid hM
  clear hl0 hZ0 hR ha hM
  unfold z12 at c0
  go_enter Tryd.func60, Tryd.ntmps60
  go_wp2_with fail
  refine (limbWords_c A 96 c bs _ ra (by decide)).mono ?_
  rintro e w1 ⟨A1, c1, l1, rfl, hc1, r1, v1, b1⟩
  have c1' : w1.cell? ⟨b, 0, none⟩ = some (.pointer (some ⟨p, 0, none⟩)) := (b1.cell (p := ⟨b, 0, none⟩) (by obtain ⟨_, _, h, _⟩ := HR0.out; exact h)).trans c0
  have HM1 := hid (HM.out.keep b1 HM.out.lt)
  have HV1 := hid v1
  have HR1 := hid r1
  have HZ1 := hid (HZ.out.below b1 HZ.out.size)
  have HL1 := hid (HL.out.trans (Below.mono (B' := w.heap.size) b1 HL.out.size))
  clear v1 c0 r1 b1 ra
  go_wp2_with fail
  refine (mwords_c p (ds (mOf g)) _ HM1.out).mono ?_
  rintro e w2 ⟨A2, c2, l2, rfl, hc2, r2, v2, b2⟩
  rw [ds_len] at r2 hc2 ⊢
  rw [ds_val _ (mOf_lt g)] at v2
  have HV2 := hid v2
  have HR2 := hid r2
  have HR12 := hid (HR1.out.up b2 (Nat.le_refl _))
  have HZ2 := hid (HZ1.out.below b2 HZ1.out.size)
  have HL2 := hid (HL1.out.trans (b2.mono HL1.out.size))
  clear v2 r2 b2 c1'
  go_wp2_with fail
  refine (cmp_c A1 A2 12 12 c1 c2 l1 l2 w2 w2.heap.size HR12.out HR2.out (by omega) (by omega)).mono ?_
  rintro e w' ⟨rfl, rfl⟩
  rw [HV1.out, HV2.out]
  have hd : decide (0 ≤ cmpN (val 256 bs) (mOf g)) = true := cmpN_ge hge.out
  obtain ⟨HT, HR⟩ := zero_stored HZ2.out
  have hl2 := HL2.out
  go_wp2_with (refine wpList_store_mid rfl 24 (.tmp 4) (.tmp 21) rfl w.heap.size 0 #[.int .u64 0, .int .u64 0, .int .u64 0, .int .u64 0, .int .u64 0, .int .u64 0, .int .u64 0, .int .u64 0, .int .u64 0, .int .u64 0, .int .u64 0, .int .u64 0] rfl rfl HT.out size_zero all_zero ?_)
  refine bodyPost_ret (num_result2 Tryd.results60 rfl HR rfl) rfl ?_
  exact ⟨rfl, below_cells (Nat.le_refl _) _ _ _ hl2⟩

set_option maxRecDepth 20000 in
set_option maxHeartbeats 1000000 in
theorem rRead_len (b : Nat) (A : Option Addr) (n c : Nat) (w : World) (hn : n ≠ 96) :
    Calls Tryd.prog 60 #[.pointer (some ⟨b, 0, none⟩), .slice A n c] w fun e w' => e = .returned (.tuple #[num 0, .int .i64 1]) ∧ Below w.heap.size w w' := by
  have hl0 := (Below.refl w.heap.size w).alloc (Nat.le_refl _) (z12 24)
  have hZ0 := z12_new w 24
  have h : ((n : Int) != 96) = true := by simp; omega
  obtain ⟨HT, HR⟩ := zero_stored hZ0
  unfold z12 at *
  have HB := hid hl0
  clear hZ0 hn hl0
  go_enter Tryd.func60, Tryd.ntmps60
  go_wp2_with (refine wpList_store_mid rfl 24 (.tmp 4) (.tmp 10) rfl w.heap.size 0 #[.int .u64 0, .int .u64 0, .int .u64 0, .int .u64 0, .int .u64 0, .int .u64 0, .int .u64 0, .int .u64 0, .int .u64 0, .int .u64 0, .int .u64 0, .int .u64 0] rfl rfl HT.out size_zero all_zero ?_)
  refine bodyPost_ret (num_result2 Tryd.results60 rfl HR rfl) rfl ?_
  exact ⟨rfl, below_cells (Nat.le_refl _) _ _ _ HB.out⟩

theorem rd_cases (g : Bool) (bs : List Nat) : (bs.length ≠ 96 ∧ rdN g bs = 0 ∧ rdE g bs = 1) ∨ (bs.length = 96 ∧ mOf g ≤ val 256 bs ∧ rdN g bs = 0 ∧ rdE g bs = 4) ∨ (bs.length = 96 ∧ val 256 bs < mOf g ∧ rdN g bs = val 256 bs ∧ rdE g bs = 0) := by
  unfold rdN rdE
  by_cases h : bs.length = 96
  · rcases Nat.lt_or_ge (val 256 bs) (mOf g) with h' | h'
    · right; right
      exact ⟨h, h', by rw [if_pos ⟨h, h'⟩], by rw [if_pos h, if_pos h']⟩
    · right; left
      exact ⟨h, h', by rw [if_neg (by omega)], by rw [if_pos h, if_neg (by omega)]⟩
  · left
    exact ⟨h, by rw [if_neg (by omega)], by rw [if_neg h]⟩
theorem rRead_c (b : Nat) (g : Bool) (A : Option Addr) (n c : Nat) (bs : List Nat) (w : World) (hR : RingP w b (mOf g)) (ha : Rd8 w w.heap.size A n bs) :
    Calls Tryd.prog 60 #[.pointer (some ⟨b, 0, none⟩), .slice A n c] w fun e w' => e = .returned (.tuple #[num (rdN g bs), .int .i64 (rdE g bs)]) ∧ Below w.heap.size w w' := by
  have hl := ha.len
  rcases rd_cases g bs with ⟨h, e1, e2⟩ | ⟨h, h', e1, e2⟩ | ⟨h, h', e1, e2⟩
  · rw [e1, e2]; exact rRead_len b A n c w (by omega)
  · rw [e1, e2]
    obtain rfl : n = 96 := by omega
    exact rRead_canon b g A c bs w hR ha h'
  · rw [e1, e2]
    obtain rfl : n = 96 := by omega
    exact rRead_ok b g A c bs w hR ha _ rfl h'

theorem refRead_ok (g : Bool) (A : Option Addr) (c : Nat) (bs : List Nat) (w : World) (ha : Rd8 w w.heap.size A 96 bs) (hlt : Hid (val 256 bs < mOf g)) :
    Calls Tryd.prog 21 #[.bool g, .slice A 96 c] w fun e w' => ∃ r, e = .returned (.tuple #[r, .int .i64 0]) ∧ Dg w' r (val 256 bs) ∧ Below w.heap.size w w' := by
  have hbd : val 256 bs < 4294967296 ^ bigE := by
    have h1 := val_lt 256 (by decide) bs ha.lt
    rw [ha.len] at h1
    refine Nat.lt_of_lt_of_le h1 ?_
    rw [show (4294967296 : Nat) = 256 ^ 4 by decide, ← Nat.pow_mul]
    exact Nat.pow_le_pow_right (by decide) (by decide)
  have HBD := hid hbd
  clear hbd
  go_enter Tryd.func21, Tryd.ntmps21
  go_wp2_with fail
  refine (ofBytes_c A 96 c bs w ha (by decide)).mono ?_
  intro e w1 hd
  obtain ⟨r, rfl, hr, b1⟩ := Dg.of hd HBD.out
  have HD := hid hr
  clear hd hr ha
  go_wp2_with fail
  refine (refSize_c g w1).mono ?_
  rintro e w2 ⟨sv, rfl, hs, b2⟩
  have HD2 := hid (HD.out.up b2)
  have HS := hid hs
  have b02 := bchain b1 b2
  clear hs b1 b2
  go_wp2_with fail
  refine (gCmp_c r sv _ _ w2 HD2.out HS.out).mono ?_
  rintro e w' ⟨rfl, rfl⟩
  have hd : decide (0 ≤ cmpN (val 256 bs) (mOf g)) = false := cmpN_lt' hlt.out
  go_wp2
  go_ret2
  exact ⟨_, rfl, HD2.out, b02⟩
theorem refRead_canon (g : Bool) (A : Option Addr) (c : Nat) (bs : List Nat) (w : World) (ha : Rd8 w w.heap.size A 96 bs) (hge : Hid (mOf g ≤ val 256 bs)) :
    Calls Tryd.prog 21 #[.bool g, .slice A 96 c] w fun e w' => e = .returned (.tuple #[.slice none 0 0, .int .i64 4]) ∧ Below w.heap.size w w' := by
  have hbd : val 256 bs < 4294967296 ^ bigE := by
    have h1 := val_lt 256 (by decide) bs ha.lt
    rw [ha.len] at h1
    refine Nat.lt_of_lt_of_le h1 ?_
    rw [show (4294967296 : Nat) = 256 ^ 4 by decide, ← Nat.pow_mul]
    exact Nat.pow_le_pow_right (by decide) (by decide)
  have HBD := hid hbd
  clear hbd
  go_enter Tryd.func21, Tryd.ntmps21
  go_wp2_with fail
  refine (ofBytes_c A 96 c bs w ha (by decide)).mono ?_
  intro e w1 hd
  obtain ⟨r, rfl, hr, b1⟩ := Dg.of hd HBD.out
  have HD := hid hr
  clear hd hr ha
  go_wp2_with fail
  refine (refSize_c g w1).mono ?_
  rintro e w2 ⟨sv, rfl, hs, b2⟩
  have HD2 := hid (HD.out.up b2)
  have HS := hid hs
  have b02 := bchain b1 b2
  clear hs b1 b2
  go_wp2_with fail
  refine (gCmp_c r sv _ _ w2 HD2.out HS.out).mono ?_
  rintro e w' ⟨rfl, rfl⟩
  have hd : decide (0 ≤ cmpN (val 256 bs) (mOf g)) = true := cmpN_ge hge.out
  go_wp2
  go_ret2
  exact ⟨rfl, b02⟩
theorem refRead_len (g : Bool) (A : Option Addr) (n c : Nat) (w : World) (hn : n ≠ 96) :
    Calls Tryd.prog 21 #[.bool g, .slice A n c] w fun e w' => e = .returned (.tuple #[.slice none 0 0, .int .i64 1]) ∧ w = w' := by
  have h : ((n : Int) != 96) = true := by simp; omega
  clear hn
  go_enter Tryd.func21, Tryd.ntmps21
  go_wp2
  go_ret2
  exact ⟨rfl, rfl⟩
theorem refRead_c (g : Bool) (A : Option Addr) (n c : Nat) (bs : List Nat) (w : World) (ha : Rd8 w w.heap.size A n bs) :
    Calls Tryd.prog 21 #[.bool g, .slice A n c] w fun e w' => ∃ r, e = .returned (.tuple #[r, .int .i64 (rdE g bs)]) ∧ Dg w' r (rdN g bs) ∧ Below w.heap.size w w' := by
  have hl := ha.len
  rcases rd_cases g bs with ⟨h, e1, e2⟩ | ⟨h, h', e1, e2⟩ | ⟨h, h', e1, e2⟩
  · rw [e1, e2]
    refine (refRead_len g A n c w (by omega)).mono ?_
    rintro e w' ⟨rfl, rfl⟩
    exact ⟨_, rfl, Dg.nil _, Below.refl _ _⟩
  · rw [e1, e2]
    obtain rfl : n = 96 := by omega
    refine (refRead_canon g A c bs w ha h').mono ?_
    rintro e w' ⟨rfl, hb⟩
    exact ⟨_, rfl, Dg.nil _, hb⟩
  · rw [e1, e2]
    obtain rfl : n = 96 := by omega
    exact refRead_ok g A c bs w ha h'
theorem rdN_lt (g : Bool) (bs : List Nat) : rdN g bs < W12 := by
  unfold rdN
  split
  · rename_i h; exact Nat.lt_trans h.2 (mOf_lt g)
  · decide
end Go.Proofs.YtfonpmahcdmajaaDoor
