/-
  avouchref08.Element: what the call does.
-/
import Derived.Test.YtdepkfdceidikaaGreatDoorHrP
import Derived.Test.YtdepkfdceidikaaGreatDoorRef2C
import Derived.Deep.RegionHeld3
namespace Go.Proofs.YtdepkfdceidikaaGreatDoor
open Go.RowKit
set_option linter.unusedVariables false
set_option linter.unusedSimpArgs false


theorem gns_succ' (k s : Nat) : gns (k + 1) s = gnext (gns k s) := gns_add k 1 s
structure EmR (w : World) (z y x : Nat) (wr : World) : Prop where
  gs : GS x
  g : RG wr w.heap.size x
  zz : RG wr (w.heap.size + 1) 0
  b : Below w.heap.size w wr
  hv : gelv x = z
  hr : gelr x = y
theorem EmR.up {w wr w' : World} {z y x : Nat} (h : EmR w z y x wr) (hb : Below wr.heap.size wr w') : EmR w z y x w' := ⟨h.gs, BlkV.up h.g hb, BlkV.up h.zz hb, h.b.trans (hb.mono h.b.size), h.hv, h.hr⟩
/-- The digits when k bits are drawn. -/
structure EnR (w : World) (q x k : Nat) (wr : World) : Prop where
  g : RG wr w.heap.size (gns k x)
  z : RG wr (w.heap.size + 1) 0
  d : BlkW wr q 34 (drd k x)
  b : Below w.heap.size w wr
  hq : w.heap.size + 1 < q
theorem EnR.start {w wr : World} {z y x : Nat} (h : EmR w z y x wr) : EnR w wr.heap.size x 0 (wr.alloc (.cells (zeros 8) 34)) := by
  refine ⟨BlkV.alloc h.g _, BlkV.alloc h.zz _, ?_, h.b.alloc h.b.size _, BlkV.size h.zz⟩
  rw [drd_zero]
  exact blk_zeros wr 8
/-- The next bit drawn: into a new variable, back, and into its digit. -/
theorem EnR.up {w wr w' : World} {q x k : Nat} (h : EnR w q x k wr) (hb : Below wr.heap.size wr w') : EnR w q x k w' := ⟨BlkV.up h.g hb, BlkV.up h.z hb, h.d.below hb h.d.size, h.b.trans (hb.mono h.b.size), h.hq⟩
theorem blkW_puts {b c : Nat} {t : TypeId} {ws : List Nat} (hne : b ≠ c) : ∀ (us : List Value) (o : Nat) (w : World), BlkW w b t ws → BlkW (w.setCells c o us) b t ws
  | [], _, _, h => h
  | u :: us, o, w, h => blkW_puts hne us (o + 1) _ (h.otherC hne)
structure EnS (w : World) (q x k : Nat) (ws : List Nat) (wr : World) : Prop where
  g : RG wr w.heap.size (gns (k + 1) x)
  z : RG wr (w.heap.size + 1) 0
  d : BlkW wr q 34 ws
  b : Below w.heap.size w wr
  hq : w.heap.size + 1 < q
theorem EnR.put {w wr : World} {q x k : Nat} (h : EnR w q x k wr) : EnS w q x k (drd k x) (wr.setCells w.heap.size 0 (bcell 80 (gns (k + 1) x).testBit)) :=
  ⟨RG.put _ h.g, BlkV.put (by omega) _ _ _ h.z, blkW_puts (by have := h.hq; omega) _ _ _ h.d, below_cells (Nat.le_refl _) _ _ _ h.b, h.hq⟩
theorem EnS.set {w wr : World} {q x k : Nat} {ws : List Nat} (h : EnS w q x k ws wr) (j v : Nat) (hv : v < 18446744073709551616) : EnS w q x k (ws.set j v) (wr.setCell ⟨q, j, none⟩ (.int .u64 (v : Int))) :=
  ⟨BlkV.other h.g (by have := h.hq; omega), BlkV.other h.z (by have := h.hq; omega), h.d.set j v hv, h.b.setCell (p := ⟨q, j, none⟩) (by show w.heap.size ≤ q; have := h.hq; omega) _, h.hq⟩
theorem EnS.end_ {w wr : World} {q x k : Nat} {ws : List Nat} (h : EnS w q x k ws wr) (e : ws = drd (k + 1) x) : EnR w q x (k + 1) wr := ⟨h.g, h.z, by rw [← e]; exact h.d, h.b, h.hq⟩
theorem dg_trimmed {w : World} {q m x : Nat} (hd : BlkW w q 34 (drd 254 x)) (hm : m ≤ 8) (ht : Tr ((drd 254 x).take m)) (hz : ∀ j, m ≤ j → (drd 254 x).getD j 0 = 0) : Dg w (.slice (some ⟨q, 0, none⟩) m 8) (gval 254 x) := by
  have e1 : ((drd 254 x).take m).length = m := by rw [List.length_take, drd_len]; omega
  have hr := hd.rd (off := 0) (n := m) (B := w.heap.size) (by rw [drd_len]; omega) hd.size
  rw [List.drop_zero] at hr
  refine ⟨⟨some ⟨q, 0, none⟩, 8, (drd 254 x).take m, by rw [e1], by omega, by omega, by rw [e1]; exact hr, fun y hy => drd_lt 254 x y (List.mem_of_mem_take hy), ht, ?_⟩⟩
  rw [val_take_zeros _ _ _ (by rw [drd_len]; exact hm) hz, drd_val]
/-- The digits of a result: a block of its own, above B. -/
structure EnZ (w : World) (B : Nat) (r : Value) (X : Nat) : Prop where
  ex : ∃ q x m, r = .slice (some ⟨q, 0, none⟩) m 8 ∧ B ≤ q ∧ BlkW w q 34 (drd 254 x) ∧ m ≤ 8 ∧ Tr ((drd 254 x).take m) ∧ (∀ j, m ≤ j → (drd 254 x).getD j 0 = 0) ∧ gval 254 x = X
theorem EnZ.dg {w : World} {B : Nat} {r : Value} {X : Nat} (h : EnZ w B r X) : Dg w r X := by
  obtain ⟨q, x, m, rfl, _, hd, hm, ht, hz, rfl⟩ := h.ex
  exact dg_trimmed hd hm ht hz
theorem EnZ.up {w w' : World} {B : Nat} {r : Value} {X : Nat} (h : EnZ w B r X) (hb : Below w.heap.size w w') : EnZ w' B r X := by
  obtain ⟨q, x, m, e, hq, hd, hm, ht, hz, hx⟩ := h.ex
  exact ⟨⟨q, x, m, e, hq, hd.below hb hd.size, hm, ht, hz, hx⟩⟩
theorem EnZ.put {w : World} {B c : Nat} {r : Value} {X : Nat} (h : EnZ w B r X) (hc : c < B) (us : List Value) (o : Nat) : EnZ (w.setCells c o us) B r X := by
  obtain ⟨q, x, m, e, hq, hd, hm, ht, hz, hx⟩ := h.ex
  exact ⟨⟨q, x, m, e, hq, blkW_puts (by omega) _ _ _ hd, hm, ht, hz, hx⟩⟩
theorem EnZ.only {w w' : World} {B p : Nat} {r : Value} {X : Nat} (h : EnZ w B r X) (ho : Only p w w') (hp : p < B) : EnZ w' B r X := by
  obtain ⟨q, x, m, e, hq, hd, hm, ht, hz, hx⟩ := h.ex
  exact ⟨⟨q, x, m, e, hq, ⟨(ho.block q hd.size (by omega)).trans hd.heap, hd.lt⟩, hm, ht, hz, hx⟩⟩
/-- What is known at the end, in the world behind a draw. -/
structure EnD (w : World) (q x Y : Nat) (v : World) : Prop where
  o : v.rangeAt w.heap.size 0 (bcell 80 Y.testBit)
  d : BlkW v q 34 (drd 254 x)
  st : (storeCells ⟨w.heap.size + 1, 0, none⟩ (bcell 80 Y.testBit)).run Tryz.prog v = .ok () (v.setCells (w.heap.size + 1) 0 (bcell 80 Y.testBit))
  f1 : RG (v.setCells (w.heap.size + 1) 0 (bcell 80 Y.testBit)) (w.heap.size + 1) Y
  f2 : BlkW (v.setCells (w.heap.size + 1) 0 (bcell 80 Y.testBit)) q 34 (drd 254 x)
  f3 : Below w.heap.size w (v.setCells (w.heap.size + 1) 0 (bcell 80 Y.testBit))
theorem EnR.fin {w v : World} {q x : Nat} (h : EnR w q x 254 v) : EnD w q x (gns 254 x) v :=
  ⟨h.g.range, h.d, oR_store _ h.z, RG.put _ h.z, blkW_puts (by have := h.hq; omega) _ _ _ h.d, below_cells (Nat.le_succ _) _ _ _ h.b⟩
theorem EnR.drew {w v : World} {q x k : Nat} (h : EnR w q x k v) : EnR w q x k v.drew := ⟨BlkV.drew h.g, BlkV.drew h.z, ⟨h.d.heap, h.d.lt⟩, h.b.drew, h.hq⟩
set_option maxRecDepth 100000 in
set_option maxHeartbeats 4000000 in
theorem relem_c (s : Nat) (w : World) (hs : GS s) :
    Calls Tryz.prog 29 #[rg s] w fun e w' => ∃ r, e = .returned (.tuple #[rg (gelr s), r]) ∧ EnZ w' w.heap.size r (gelv s) ∧ Below w.heap.size w w' := by
  have st := TuR.start w s
  have R0 : Hid (EmR w (gelv s) (gelr s) s ((w.alloc (oR s)).alloc (oR 0))) := ⟨hs, st.o, st.z, st.b, rfl, rfl⟩
  have hla := rg_len s
  have hlz := rg_len 0
  have hz := zeroR
  generalize gelv s = z at *
  generalize gelr s = y at *
  clear hs st
  unfold oR at R0
  rw [show rg s = .agg (bcell 80 s.testBit).toArray from rfl]
  go_enter Tryz.func29, Tryz.ntmps29
  go_wp2_with fail
  clear hla
  generalize ((w.alloc _).alloc _) = w0 at *
  go_loopw [4] (fun _ wr => ∃ x, EmR w z y x wr) (fun _ w' => gel (regB w' w.heap.size))
  case atStart => exact ⟨s, R0.out⟩
  case round =>
    clear R0
    obtain ⟨x, hrel⟩ := hrel
    have HR := hid hrel
    clear hrel
    have hmk : ∀ v, (Instr.makeSlice 50 (.int .i64 8) (.int .i64 8)).run Tryz.prog v = .ok (.slice (some ⟨v.heap.size, 0, none⟩) 8 8) (v.alloc (.cells (zeros 8) 34)) := fun v => make64I 8 8 (by decide) (by decide) 8 8 rfl rfl v
    have HN0 := hid (EnR.start HR.out)
    have HM : Hid (gel (regB wr w.heap.size) = gel x) := by
      show _ = _
      rw [regB_eq HR.out.g HR.out.gs.lt]
    obtain ⟨wA, hwA⟩ : ∃ v, v = wr := ⟨wr, rfl⟩
    rw [← hwA] at HR HN0 HM ⊢
    clear hwA
    go_wp2_with fail
    clear hmk
    generalize wA.alloc _ = w1 at *
    generalize wA.heap.size = q at *
    go_loopw [5] (fun i wr => ∃ (k : Nat) (i' : Int), k ≤ 254 ∧ Hid (i' = 253 - (k : Int)) ∧ i = .int .i64 i' ∧ EnR w q x k wr) (fun i _ => (intOf i + 1).toNat)
    case atStart => exact ⟨0, 253, Nat.zero_le _, rfl, rfl, HN0.out⟩
    case round =>
      clear HN0
      obtain ⟨k, i', hk, HI, rfl, hrel⟩ := hrel
      have HE := hid hrel
      clear hrel
      by_cases hlt : k < 254
      · obtain ⟨i, hi⟩ : ∃ i : Nat, i = 253 - k := ⟨_, rfl⟩
        obtain rfl : i' = (i : Int) := by have := HI.out; omega
        have i0 : (0 : Int) ≤ (i : Int) := by omega
        have HIN := hid hi
        have hi253 : i ≤ 253 := by omega
        clear HI hi
        have HO := hid HE.out.g.range
        have HSz := hid (sizeR_s (gns k x))
        have HXk := hid (GS.ns k HR.out.gs)
        have HNS := hid (gns_succ' k x)
        go_wp2_with (with_reducible refine wpList_load_mid rfl 77 (.tmp 1) rfl w.heap.size 0 rfl (bcell 80 (gns k x).testBit) _ (by with_reducible exact HO.out) Tryz.underlying77 rfl HSz.out ?_)
        refine (rbit_c (gns k x) wr HXk.out).mono ?_
        rintro e w3 ⟨rfl, b3⟩
        rw [← HNS.out]
        obtain ⟨hst, hn, hbn⟩ := newR w3 (gns (k + 1) x)
        have E3 := HE.out.up (b3.trans (hbn.mono b3.size))
        have hst2 := oR_store (P := Tryz.prog) (gns (k + 1) x) E3.g
        have E4 := E3.put
        have HO2 := hid hn.range
        have HSz2 := hid (sizeR_s (gns (k + 1) x))
        have hl2 := rg_len (gns (k + 1) x)
        obtain ⟨y2, hy2⟩ : ∃ y2, y2 = gns (k + 1) x := ⟨_, rfl⟩
        rw [← hy2] at hst hn hst2 E4 HO2 HSz2 hl2 ⊢
        have HY2 := hid hy2
        clear hy2 hn hbn b3 HO HSz HE
        obtain ⟨j, hj⟩ : ∃ j, j = (253 - k) / 32 := ⟨_, rfl⟩
        have HJ := hid hj
        have hj8 : j < 8 := by omega
        have j8 : (j : Int) < 8 := by omega
        have j0 : (0 : Int) ≤ (j : Int) := by omega
        have ji : (i : Int) / 32 = (j : Int) := by have := HIN.out; omega
        clear hj
        have HDS := hid (drd_set hlt x HJ.out)
        have hu := drd_lt k x
        have hu2 := getD_lt 4294967296 (by decide) (drd k x) hu j
        have c1 := E4.d.cell (i := j) (by rw [drd_len]; exact hj8)
        have f1 := E4.d.frozen j
        have g1 : at64 (drd k x) j = (((drd k x).getD j 0 : Nat) : Int) := rfl
        rw [g1] at c1
        obtain ⟨u, huu⟩ : ∃ u, u = (drd k x).getD j 0 := ⟨_, rfl⟩
        rw [← huu] at c1 hu2 HDS
        have HE4 := hid E4
        unfold rg oR at *
        clear huu g1 hu E4 E3
        cases hb : gbit (gns k x)
        · rw [hb] at HDS
          have HN : Hid (EnR w q x (k + 1) _) := (HE4.out.set j (u * 2) (by omega)).end_ HDS.out
          clear HDS HE4 hb
          go_wp2_with (with_reducible refine wpList_load_mid rfl 77 (.tmp 6) rfl w3.heap.size 0 rfl (bcell 80 y2.testBit) _ (by with_reducible exact HO2.out) Tryz.underlying77 rfl HSz2.out ?_)
          go_roundw
          case rel => exact ⟨k + 1, 253 - ((k + 1 : Nat) : Int), by omega, rfl, by have := HIN.out; first | go_num | (congr 1; omega), HN.out⟩
          case measure => simp [intOf] <;> omega
        · rw [hb] at HDS
          have hs2 := (HE4.out.set j (u * 2) (by omega)).set j (u * 2 + 1) (by omega)
          rw [List.set_set] at hs2
          have HN : Hid (EnR w q x (k + 1) _) := hs2.end_ HDS.out
          have f2 := (HE4.out.set j (u * 2) (by omega)).d.frozen j
          clear HDS HE4 hb hs2
          go_wp2_with (with_reducible refine wpList_load_mid rfl 77 (.tmp 6) rfl w3.heap.size 0 rfl (bcell 80 y2.testBit) _ (by with_reducible exact HO2.out) Tryz.underlying77 rfl HSz2.out ?_)
          go_roundw
          case rel => exact ⟨k + 1, 253 - ((k + 1 : Nat) : Int), by omega, rfl, by have := HIN.out; first | go_num | (congr 1; omega), HN.out⟩
          case measure => simp [intOf] <;> omega
      · have e254 : k = 254 := by omega
        obtain rfl : i' = -1 := by have := HI.out; omega
        rw [e254] at HE
        clear HI hlt hk e254
        go_wp2_with fail
        refine (p2_c wr).mono ?_
        rintro e w5 ⟨r, rfl, hP, b5⟩
        obtain ⟨A, c, lp, rfl, hc, h2, hrp, hdp, htp, hvp⟩ := hP.ex
        have HE5 := hid (HE.out.up b5)
        have hdr := HE5.out.d.rd (off := 0) (n := 8) (B := w5.heap.size) (by rw [drd_len]; decide) HE5.out.d.size
        rw [List.drop_zero, List.take_of_length_le (by rw [drd_len]; exact Nat.le_refl _)] at hdr
        have HDR := hid hdr
        clear b5 HE hdr hP
        go_wp2_with fail
        refine (refCmp_c (some ⟨q, 0, none⟩) A 8 lp.length 8 c (drd 254 x) lp w5 w5.heap.size HDR.out hrp (drd_lt 254 x) hdp (by decide) (by omega)).mono ?_
        rintro e w6 ⟨rfl, rfl⟩
        rw [drd_val, hvp]
        by_cases hp : gval 254 x < pN
        · rw [cmpN_lt hp]
          have HH := hid (gel_here HR.out.gs hp)
          clear hrp hdp htp hvp hc h2
          have HQB : Hid (w.heap.size ≤ q) := by have := HE5.out.hq; show _ ≤ _; omega
          have HD0 := HE5.out.drew.fin
          have HX1 : Hid (gval 254 x = z) := HH.out.1.symm.trans HR.out.hv
          have HX2 : Hid (gns 254 x = y) := HH.out.2.symm.trans HR.out.hr
          rw [HX2.out] at HD0
          have HLT : Hid (∀ v, EnD w q x y v → Calls Tryz.prog 58 #[.slice (some ⟨q, 0, none⟩) 8 8] v fun e w' => ∃ m, m ≤ 8 ∧ e = .returned (.slice (some ⟨q, 0, none⟩) m 8) ∧ v = w' ∧ Tr ((drd 254 x).take m) ∧ ∀ j, m ≤ j → (drd 254 x).getD j 0 = 0) := by
            intro v hv
            have hr := hv.d.rd (off := 0) (n := 8) (B := v.heap.size) (by rw [drd_len]; decide) hv.d.size
            rw [List.drop_zero, List.take_of_length_le (by rw [drd_len]; exact Nat.le_refl _)] at hr
            exact trim_c _ 8 8 _ _ v hr (by decide) (Nat.le_refl _)
          have hly := rg_len y
          have HSy := hid (sizeR_s y)
          go_wp2_with fail
          clear HR HH HE5 HDR HM hlz hz
          refine wp_region_held_drew (S := fun _ => True) (by kernel_rfl) trivial (fun hHeld => ?_)
          generalize w5.drew = v0 at *
          have HD := hid HD0
          have hst := HD0.st
          clear HD0
          refine wpAnyH_take (i := 1) (v := ?_) rfl (by kernel_rfl) (by kernel_rfl) (by kernel_rfl) (fun _ _ _ h => h) (Or.inl ⟨by rfl, fun v hv => ?_⟩) (by with_reducible assumption) ?_
          rotate_left
          · go_simp
            try with_reducible rfl
          try simp only [Act.put, List.setIfInBounds_toArray, List.set_cons_zero, List.set_cons_succ, List.getElem_toArray, List.getElem_cons_zero, List.getElem_cons_succ]
          refine wpAnyH_ready (rs := [0, 2]) (by kernel_rfl) (by simp) ?_
          refine (AllReadyH.cons rfl (fun K hK => ?_) (AllReadyH.cons rfl (fun K hK => ?_) AllReadyH.nil))
          · rw [if_pos (by rfl)]
            refine wp_load_mid 77 (.tmp 1) rfl w.heap.size 0 rfl (bcell 80 y.testBit) _ HD.out.o Tryz.underlying77 rfl HSy.out ?_
            refine hK.out _ _ trivial (fun hHeld => ?_)
            clear hK K
            try simp only [Act.put, List.setIfInBounds_toArray, List.set_cons_zero, List.set_cons_succ, List.getElem_toArray, List.getElem_cons_zero, List.getElem_cons_succ]
            refine wpAnyH_ready (rs := [2]) (by kernel_rfl) (by simp) ?_
            refine (AllReadyH.cons rfl (fun K hK => ?_) AllReadyH.nil)
            go_simp
            go_at_call 58
            with_reducible refine (HLT.out _ HD.out).mono ?_
            rintro e v2 ⟨mm, hmm, rfl, rfl, htr, hzz⟩
            have HTR := hid htr
            have HZZ := hid hzz
            clear htr hzz
            dsimp only
            refine hK.out _ _ trivial (fun hHeld => ?_)
            clear hK K
            try simp only [Act.put, List.setIfInBounds_toArray, List.set_cons_zero, List.set_cons_succ, List.getElem_toArray, List.getElem_cons_zero, List.getElem_cons_succ]
            refine wpAnyH_ready (rs := [3]) (by kernel_rfl) (by simp) ?_
            refine (AllReadyH.cons rfl (fun K hK => ?_) AllReadyH.nil)
            go_simp
            refine hK.out _ _ trivial (fun hHeld => ?_)
            clear hK K
            try simp only [Act.put, List.setIfInBounds_toArray, List.set_cons_zero, List.set_cons_succ, List.getElem_toArray, List.getElem_cons_zero, List.getElem_cons_succ]
            refine wpAnyH_take (i := 4) (v := ?_) rfl (by kernel_rfl) (by kernel_rfl) (by kernel_rfl) (fun _ _ _ h => h) (Or.inl ⟨by rfl, fun v hv => ?_⟩) (by with_reducible assumption) ?_
            rotate_left
            · go_simp
              try with_reducible rfl
            try simp only [Act.put, List.setIfInBounds_toArray, List.set_cons_zero, List.set_cons_succ, List.getElem_toArray, List.getElem_cons_zero, List.getElem_cons_succ]
            refine wpAnyH_done (by kernel_rfl) ?_ _
            go_wp2_with fail
            refine bodyPost_ret (RG.result (hid HD.out.f1) Tryz.results29 rfl rfl) rfl ?_
            exact ⟨_, rfl, ⟨⟨q, x, mm, rfl, HQB.out, HD.out.f2, hmm, HTR.out, HZZ.out, HX1.out⟩⟩, HD.out.f3⟩
          · go_simp
            go_at_call 58
            with_reducible refine (HLT.out _ HD.out).mono ?_
            rintro e v2 ⟨mm, hmm, rfl, rfl, htr, hzz⟩
            have HTR := hid htr
            have HZZ := hid hzz
            clear htr hzz
            dsimp only
            refine hK.out _ _ trivial (fun hHeld => ?_)
            clear hK K
            try simp only [Act.put, List.setIfInBounds_toArray, List.set_cons_zero, List.set_cons_succ, List.getElem_toArray, List.getElem_cons_zero, List.getElem_cons_succ]
            refine wpAnyH_ready (rs := [0]) (by kernel_rfl) (by simp) ?_
            refine (AllReadyH.cons rfl (fun K hK => ?_) AllReadyH.nil)
            rw [if_pos (by rfl)]
            refine wp_load_mid 77 (.tmp 1) rfl w.heap.size 0 rfl (bcell 80 y.testBit) _ HD.out.o Tryz.underlying77 rfl HSy.out ?_
            refine hK.out _ _ trivial (fun hHeld => ?_)
            clear hK K
            try simp only [Act.put, List.setIfInBounds_toArray, List.set_cons_zero, List.set_cons_succ, List.getElem_toArray, List.getElem_cons_zero, List.getElem_cons_succ]
            refine wpAnyH_ready (rs := [3]) (by kernel_rfl) (by simp) ?_
            refine (AllReadyH.cons rfl (fun K hK => ?_) AllReadyH.nil)
            go_simp
            refine hK.out _ _ trivial (fun hHeld => ?_)
            clear hK K
            try simp only [Act.put, List.setIfInBounds_toArray, List.set_cons_zero, List.set_cons_succ, List.getElem_toArray, List.getElem_cons_zero, List.getElem_cons_succ]
            refine wpAnyH_take (i := 4) (v := ?_) rfl (by kernel_rfl) (by kernel_rfl) (by kernel_rfl) (fun _ _ _ h => h) (Or.inl ⟨by rfl, fun v hv => ?_⟩) (by with_reducible assumption) ?_
            rotate_left
            · go_simp
              try with_reducible rfl
            try simp only [Act.put, List.setIfInBounds_toArray, List.set_cons_zero, List.set_cons_succ, List.getElem_toArray, List.getElem_cons_zero, List.getElem_cons_succ]
            refine wpAnyH_done (by kernel_rfl) ?_ _
            go_wp2_with fail
            refine bodyPost_ret (RG.result (hid HD.out.f1) Tryz.results29 rfl rfl) rfl ?_
            exact ⟨_, rfl, ⟨⟨q, x, mm, rfl, HQB.out, HD.out.f2, hmm, HTR.out, HZZ.out, HX1.out⟩⟩, HD.out.f3⟩
        · have hcm : decide (cmpN (gval 254 x) pN < 0) = false := by
            rcases Nat.lt_or_ge pN (gval 254 x) with h | h
            · rw [cmpN_gt h]; rfl
            · rw [show gval 254 x = pN by omega, cmpN_eq]; rfl
          have HL := hid (gel_later HR.out.gs hp)
          have HN : Hid (EmR w z y (gns 254 x) w5) := ⟨GS.ns 254 HR.out.gs, HE5.out.g, HE5.out.z, HE5.out.b, HL.out.1.trans HR.out.hv, HL.out.2.1.trans HR.out.hr⟩
          have HM2 : Hid (gel (regB w5 w.heap.size) < gel (regB wA w.heap.size)) := by
            show _ < _
            rw [HM.out, regB_eq HN.out.g HN.out.gs.lt]
            exact HL.out.2.2
          generalize cmpN (gval 254 x) pN = cm at *
          clear hrp hdp htp hvp hc h2 hp
          go_wp2
          go_roundw
          case rel => exact ⟨_, HN.out⟩
          case measure => exact HM2.out
end Go.Proofs.YtdepkfdceidikaaGreatDoor
