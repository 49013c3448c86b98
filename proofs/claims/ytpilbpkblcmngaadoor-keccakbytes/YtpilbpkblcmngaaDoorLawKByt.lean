/-
  avouchlaw06.KeccakBytes: the walk.
-/
import Derived.Test.YtpilbpkblcmngaaDoorLawKIota
import Derived.Test.YtpilbpkblcmngaaDoorKBa
namespace Go.Proofs.YtpilbpkblcmngaaDoor
open Go.RowKit
set_option linter.unusedVariables false
set_option linter.unusedSimpArgs false

/-- The load of a long array whose guard holds. -/
theorem wpList_load_gk {P : Program} {ops : Array Oper} {rest : List Oper} {op : Oper} {a : Act} {w : World} {Q : Exit → Act → World → Prop} (hw : Region.wanted op (yielded ops a.tmps) = true) (ty : TypeId) (x : Operand) (ho : op.op = .load ty x)
    (b o : Nat) (hx : a.eval x = .pointer (some ⟨b, o, none⟩)) (cs : List Value) (d : TypeDesc) (hc : w.rangeAt b o cs)
    (hu : P.underlying ty = some d) (hd : d.isRow = true) (hi : (P.info? ty).map (·.size) = some cs.length)
    (h : wpList P ops Q rest (a.put op.dst (.agg cs.toArray)) w) : wpList P ops Q (op :: rest) a w := by
  unfold wpList
  rw [if_pos hw]
  exact Or.inl (wp_load_mid ty x ho b o hx cs d hc hu hd hi h)
/-- What is kept: the bytes, the state that they tell, and its bytes. -/
structure EnvB (w : World) (A : Option Addr) (b l : List Nat) (b3 b5 : Nat) (v : World) : Prop where
  a : Rd8 v v.heap.size A 200 b
  x : BlkW v b3 24 l
  y : BlkB v b5 45 b
  g : GlobK v
  b : Below w.heap.size w v
theorem EnvB.up {w : World} {A : Option Addr} {b l : List Nat} {b3 b5 : Nat} {v v' : World} (h : EnvB w A b l b3 b5 v) (hb : Below v.heap.size v v') : EnvB w A b l b3 b5 v' := ⟨h.a.up hb (Nat.le_refl _), h.x.up hb, h.y.up hb, h.g.up hb, bchain h.b hb⟩

set_option maxRecDepth 100000 in
set_option maxHeartbeats 4000000 in
theorem keccakBytes_w (A : Option Addr) (n c : Nat) (b : List Nat) (w : World) (ha : Rd8 w w.heap.size A n b) (hG : GlobK w) :
    Calls Tryd.prog 5 #[.slice A n c] w fun e w' => e = .returned (.bool true) ∧ Below w.heap.size w w' := by
  have HA := hid ha
  have HG := hid hG
  clear ha hG
  by_cases hbig : 300 < n
  · have i1 : (300 : Int) < (n : Int) := by omega
    clear hbig
    go_enter Tryd.func5, Tryd.ntmps5
    go_wp2_with fail
    refine (speaks6_c w HG.out).mono ?_
    rintro e w1 ⟨rfl, b1⟩
    go_wp2_with fail
    refine (speaks6_c w1 (HG.out.up b1)).mono ?_
    rintro e w2 ⟨rfl, b2⟩
    go_wp2
    go_ret
    exact ⟨rfl, bchain b1 b2⟩
  · have i1 : decide ((300 : Int) < (n : Int)) = false := decide_eq_false (by omega)
    by_cases hn : n = 200
    · subst hn
      clear hbig i1
      go_enter Tryd.func5, Tryd.ntmps5
      go_wp2_with fail
      refine (speaks6_c w HG.out).mono ?_
      rintro e w1 ⟨rfl, b1⟩
      have HB1 := hid b1
      clear b1
      go_wp2_with fail
      refine (kofBytes_ok A c b w1 (HA.out.up HB1.out (Nat.le_refl _))).mono ?_
      rintro e w2 ⟨l, rfl, hl, hv, b2⟩
      have HL := hid hl
      have HV := hid hv
      obtain ⟨hst, hn, hbn⟩ := new_st w2 24 hl
      have b02 := bchain HB1.out (bchain b2 hbn)
      have hlen := st_len hl
      have X3 := hid hn
      have B3 := hid b02
      have O3 := hid hn.range
      have HSz := hid (st_size hl)
      clear hn hbn b2 b02 hl hv HB1
      unfold zS at hst X3 B3 O3
      unfold st
      go_wp2_with (with_reducible refine wpList_load_mid rfl 24 (.tmp 3) rfl w2.heap.size 0 rfl (cellsOf64 l) _ O3.out Tryd.underlying24 rfl HSz.out ?_)
      clear hst hlen O3
      generalize ((w2.alloc _).setCells _ _ _) = w3 at *
      generalize w2.heap.size = b3 at *
      refine (kbytes_c l w3 HL.out).mono ?_
      rintro e w4 ⟨bs, rfl, hbs, b4⟩
      have ebs : bs = b := val_inj 256 (by decide) _ _ hbs.lt HA.out.lt (by rw [hbs.len, HA.out.len]) (by rw [hbs.v, HV.out])
      subst ebs
      obtain ⟨hst, hn, hbn⟩ := new_200 w4 hbs
      have b34 := bchain b4 hbn
      have b04 := bchain B3.out b34
      have E0 : Hid (EnvB w A bs l b3 w4.heap.size ((w4.alloc (o200 45)).setCells w4.heap.size 0 (cells8 bs))) := ⟨HA.out.up b04 (Nat.le_refl _), X3.out.up b34, hn, HG.out.up b04, b04⟩
      have hlb : (cells8 bs).length = 200 := by rw [c8_len, hbs.len]
      have hl0 : (cells8 z200).length = 200 := by rw [c8_len, z200_len]
      have hz := zero200
      clear b4 b34 b04 hbn hn hbs X3 B3 HG
      unfold o200 at hst E0
      go_wp2_with fail
      clear hst hlb hl0 hz
      generalize ((w4.alloc _).setCells _ _ _) = w5 at *
      generalize w4.heap.size = b5 at *
      have EX : EnvB w A bs l b3 b5 w5.drew := E0.out.up (Below.refl _ _).drew
      clear E0
      go_cut [2] (fun s wx => s = .bool true ∧ EnvB w A bs l b3 b5 wx)
      case first =>
        obtain ⟨n25, hn25⟩ : ∃ n : Nat, n = 25 := ⟨_, rfl⟩
        obtain ⟨sb, hsb⟩ : ∃ s, s = strOfNums (bs.map fun (x : Nat) => (x : Int)) := ⟨_, rfl⟩
        have L1 : ∀ v, EnvB w A bs l b3 b5 v → (loadCellsFrom ⟨b3, 0, none⟩ 0 n25 #[]).run Tryd.prog v = .ok (cellsOf64 l).toArray v := fun v h => by rw [hn25]; exact cells_st h.x HL.out
        have CO : ∀ v, EnvB w A bs l b3 b5 v → Calls Tryd.prog 19 #[.slice A 200 c] v fun e w' => e = .returned (.agg (cellsOf64 l).toArray) ∧ Below v.heap.size v w' := fun v h => by
          refine (ofBytes6_c A c bs v h.a).mono ?_
          rintro e w' ⟨m, rfl, hm, hmv, hb⟩
          have em : m = l := val_inj 18446744073709551616 (by decide) _ _ hm.all HL.out.all (by rw [hm.len, HL.out.len]) (hmv.trans HV.out.symm)
          subst em
          exact ⟨rfl, hb⟩
        have CB : ∀ v, EnvB w A bs l b3 b5 v → Calls Tryd.prog 20 #[.agg (cellsOf64 l).toArray] v fun e w' => ∃ A2 c2, e = .returned (.slice A2 200 c2) ∧ (convert 41 9 (.slice A2 200 c2)).run Tryd.prog w' = .ok (.string sb) w' ∧ Below v.heap.size v w' := fun v h => by
          refine (bytes6_c l v HL.out).mono ?_
          rintro e w' ⟨A2, c2, l2, rfl, hc2, r2, v2, b2⟩
          have e2 : l2 = bs := val_inj 256 (by decide) _ _ r2.lt HA.out.lt (by rw [r2.len, HA.out.len]) (v2.trans HV.out)
          subst e2
          exact ⟨A2, c2, rfl, by rw [hsb]; exact conv8l r2 (by decide) c2, b2⟩
        have V1 : ∀ v, EnvB w A bs l b3 b5 v → (convert 41 9 (.slice A 200 c)).run Tryd.prog v = .ok (.string sb) v := fun v h => by rw [hsb]; exact conv8l h.a (by decide) c
        have V2 : ∀ v, EnvB w A bs l b3 b5 v → (convert 41 9 (.slice (some ⟨b5, 0, none⟩) 200 200)).run Tryd.prog v = .ok (.string sb) v := fun v h => by
          have hr := h.y.rd h.y.size
          rw [HA.out.len] at hr
          rw [hsb]
          exact conv8l hr (by decide) 200
        have F1 : ∀ v, (Op.equalIn 10000 24 (.agg (cellsOf64 l).toArray) (.agg (cellsOf64 l).toArray)).run Tryd.prog v = .ok true v := fun v => same_st v HL.out
        have F3 : ∀ v, (binOp .eql 42 (.int .i64 0) (.int .i64 0)).run Tryd.prog v = .ok (.bool true) v := fun v => by kernel_rfl
        have F4 : ∀ v, (Instr.sliceAt 45 (.pointer (some ⟨b5, 0, none⟩)) none none none).run Tryd.prog v = .ok (.slice (some ⟨b5, 0, none⟩) 200 200) v := fun v => by kernel_rfl
        have G1 := agg_st
        have G2 : ∀ v, (sizeOf 24).run Tryd.prog v = .ok n25 v := by rw [hn25]; exact size_st
        have G5 := Tryd.eqGuardType24
        have N1 := Tryd.call19
        have N2 := Tryd.call20
        clear hn25 hsb HL HV HSz HA
        have HMX : Tryd.prog.follows .mixedOrders = true := by kernel_rfl
        generalize Tryd.prog = P at HMX CO CB L1 V1 V2 F1 F3 F4 G1 G2 G5 N1 N2 ⊢
        refine wp_region_held_drew (S := fun v => EnvB w A bs l b3 b5 v) HMX EX (fun hHeld => ?_)
        refine wpAnyH_take (i := 0) (v := ?_) rfl (by kernel_rfl) (by kernel_rfl) (by kernel_rfl) (fun _ _ _ h => h) (Or.inl ⟨by rfl, fun v hv => ?_⟩) (by with_reducible assumption) ?_
        rotate_left
        · go_simp
          try with_reducible rfl
        simp only [Act.put, List.setIfInBounds_toArray, List.set_cons_zero, List.set_cons_succ, List.getElem_toArray, List.getElem_cons_zero, List.getElem_cons_succ]
        refine wpAnyH_take (i := 1) (v := ?_) rfl (by kernel_rfl) (by kernel_rfl) (by kernel_rfl) (fun _ _ _ h => h) (Or.inl ⟨by rfl, fun v hv => ?_⟩) (by with_reducible assumption) ?_
        rotate_left
        · go_simp
          try with_reducible rfl
        simp only [Act.put, List.setIfInBounds_toArray, List.set_cons_zero, List.set_cons_succ, List.getElem_toArray, List.getElem_cons_zero, List.getElem_cons_succ]
        refine wpAnyH_take (i := 2) (v := ?_) rfl (by kernel_rfl) (by kernel_rfl) (by kernel_rfl) (fun _ _ _ h => h) (Or.inl ⟨by rfl, fun v hv => ?_⟩) (by with_reducible assumption) ?_
        rotate_left
        · go_simp
          try with_reducible rfl
        simp only [Act.put, List.setIfInBounds_toArray, List.set_cons_zero, List.set_cons_succ, List.getElem_toArray, List.getElem_cons_zero, List.getElem_cons_succ]
        refine wpAnyH_take (i := 3) (v := ?_) rfl (by kernel_rfl) (by kernel_rfl) (by kernel_rfl) (fun _ _ _ h => h) (Or.inl ⟨by rfl, fun v hv => ?_⟩) (by with_reducible assumption) ?_
        rotate_left
        · go_simp
          try with_reducible rfl
        simp only [Act.put, List.setIfInBounds_toArray, List.set_cons_zero, List.set_cons_succ, List.getElem_toArray, List.getElem_cons_zero, List.getElem_cons_succ]
        refine wpAnyH_take (i := 4) (v := ?_) rfl (by kernel_rfl) (by kernel_rfl) (by kernel_rfl) (fun _ _ _ h => h) (Or.inl ⟨by rfl, fun v hv => ?_⟩) (by with_reducible assumption) ?_
        rotate_left
        · go_simp
          try with_reducible rfl
        simp only [Act.put, List.setIfInBounds_toArray, List.set_cons_zero, List.set_cons_succ, List.getElem_toArray, List.getElem_cons_zero, List.getElem_cons_succ]
        refine wpAnyH_ready (rs := [5]) (by kernel_rfl) (by simp) ?_
        refine AllReadyH.cons rfl (fun K hK => ?_) AllReadyH.nil
        go_simp
        go_at_call 19
        with_reducible refine (CO _ (by with_reducible assumption)).mono ?_
        rintro e v1 ⟨rfl, hb1⟩
        have hE1 := EnvB.up (by with_reducible assumption) hb1
        dsimp only
        refine hK.out _ _ hE1 (fun hHeld => ?_)
        clear hK K
        try simp only [Act.put, List.setIfInBounds_toArray, List.set_cons_zero, List.set_cons_succ, List.getElem_toArray, List.getElem_cons_zero, List.getElem_cons_succ]
        refine wpAnyH_take (i := 6) (v := ?_) rfl (by kernel_rfl) (by kernel_rfl) (by kernel_rfl) (fun _ _ _ h => h) (Or.inl ⟨by rfl, fun v hv => ?_⟩) (by with_reducible assumption) ?_
        rotate_left
        · go_simp
          try with_reducible rfl
        simp only [Act.put, List.setIfInBounds_toArray, List.set_cons_zero, List.set_cons_succ, List.getElem_toArray, List.getElem_cons_zero, List.getElem_cons_succ]
        refine wpAnyH_take (i := 7) (v := ?_) rfl (by kernel_rfl) (by kernel_rfl) (by kernel_rfl) (fun _ _ _ h => h) (Or.inl ⟨by rfl, fun v hv => ?_⟩) (by with_reducible assumption) ?_
        rotate_left
        · go_simp
          try with_reducible rfl
        simp only [Act.put, List.setIfInBounds_toArray, List.set_cons_zero, List.set_cons_succ, List.getElem_toArray, List.getElem_cons_zero, List.getElem_cons_succ]
        refine wpAnyH_take (i := 8) (v := ?_) rfl (by kernel_rfl) (by kernel_rfl) (by kernel_rfl) (fun _ _ _ h => h) (Or.inl ⟨by rfl, fun v hv => ?_⟩) (by with_reducible assumption) ?_
        rotate_left
        · go_simp
          try with_reducible rfl
        simp only [Act.put, List.setIfInBounds_toArray, List.set_cons_zero, List.set_cons_succ, List.getElem_toArray, List.getElem_cons_zero, List.getElem_cons_succ]
        refine wpAnyH_take (i := 9) (v := ?_) rfl (by kernel_rfl) (by kernel_rfl) (by kernel_rfl) (fun _ _ _ h => h) (Or.inl ⟨by rfl, fun v hv => ?_⟩) (by with_reducible assumption) ?_
        rotate_left
        · go_simp
          try with_reducible rfl
        simp only [Act.put, List.setIfInBounds_toArray, List.set_cons_zero, List.set_cons_succ, List.getElem_toArray, List.getElem_cons_zero, List.getElem_cons_succ]
        refine wpAnyH_take (i := 10) (v := ?_) rfl (by kernel_rfl) (by kernel_rfl) (by kernel_rfl) (fun _ _ _ h => h) (Or.inl ⟨by rfl, fun v hv => ?_⟩) (by with_reducible assumption) ?_
        rotate_left
        · go_simp
          try with_reducible rfl
        simp only [Act.put, List.setIfInBounds_toArray, List.set_cons_zero, List.set_cons_succ, List.getElem_toArray, List.getElem_cons_zero, List.getElem_cons_succ]
        refine wpAnyH_take (i := 11) (v := ?_) rfl (by kernel_rfl) (by kernel_rfl) (by kernel_rfl) (fun _ _ _ h => h) (Or.inl ⟨by rfl, fun v hv => ?_⟩) (by with_reducible assumption) ?_
        rotate_left
        · go_simp
          try with_reducible rfl
        simp only [Act.put, List.setIfInBounds_toArray, List.set_cons_zero, List.set_cons_succ, List.getElem_toArray, List.getElem_cons_zero, List.getElem_cons_succ]
        refine wpAnyH_take (i := 12) (v := ?_) rfl (by kernel_rfl) (by kernel_rfl) (by kernel_rfl) (fun _ _ _ h => h) (Or.inl ⟨by rfl, fun v hv => ?_⟩) (by with_reducible assumption) ?_
        rotate_left
        · go_simp
          try with_reducible rfl
        simp only [Act.put, List.setIfInBounds_toArray, List.set_cons_zero, List.set_cons_succ, List.getElem_toArray, List.getElem_cons_zero, List.getElem_cons_succ]
        refine wpAnyH_take (i := 13) (v := ?_) rfl (by kernel_rfl) (by kernel_rfl) (by kernel_rfl) (fun _ _ _ h => h) (Or.inl ⟨by rfl, fun v hv => ?_⟩) (by with_reducible assumption) ?_
        rotate_left
        · go_simp
          try with_reducible rfl
        simp only [Act.put, List.setIfInBounds_toArray, List.set_cons_zero, List.set_cons_succ, List.getElem_toArray, List.getElem_cons_zero, List.getElem_cons_succ]
        refine wpAnyH_take (i := 14) (v := ?_) rfl (by kernel_rfl) (by kernel_rfl) (by kernel_rfl) (fun _ _ _ h => h) (Or.inl ⟨by rfl, fun v hv => ?_⟩) (by with_reducible assumption) ?_
        rotate_left
        · go_simp
          try with_reducible rfl
        simp only [Act.put, List.setIfInBounds_toArray, List.set_cons_zero, List.set_cons_succ, List.getElem_toArray, List.getElem_cons_zero, List.getElem_cons_succ]
        refine wpAnyH_take (i := 15) (v := ?_) rfl (by kernel_rfl) (by kernel_rfl) (by kernel_rfl) (fun _ _ _ h => h) (Or.inl ⟨by rfl, fun v hv => ?_⟩) (by with_reducible assumption) ?_
        rotate_left
        · go_simp
          try with_reducible rfl
        simp only [Act.put, List.setIfInBounds_toArray, List.set_cons_zero, List.set_cons_succ, List.getElem_toArray, List.getElem_cons_zero, List.getElem_cons_succ]
        refine wpAnyH_take (i := 16) (v := ?_) rfl (by kernel_rfl) (by kernel_rfl) (by kernel_rfl) (fun _ _ _ h => h) (Or.inl ⟨by rfl, fun v hv => ?_⟩) (by with_reducible assumption) ?_
        rotate_left
        · go_simp
          try with_reducible rfl
        simp only [Act.put, List.setIfInBounds_toArray, List.set_cons_zero, List.set_cons_succ, List.getElem_toArray, List.getElem_cons_zero, List.getElem_cons_succ]
        refine wpAnyH_take (i := 17) (v := ?_) rfl (by kernel_rfl) (by kernel_rfl) (by kernel_rfl) (fun _ _ _ h => h) (Or.inl ⟨by rfl, fun v hv => ?_⟩) (by with_reducible assumption) ?_
        rotate_left
        · go_simp
          try with_reducible rfl
        simp only [Act.put, List.setIfInBounds_toArray, List.set_cons_zero, List.set_cons_succ, List.getElem_toArray, List.getElem_cons_zero, List.getElem_cons_succ]
        refine wpAnyH_take (i := 18) (v := ?_) rfl (by kernel_rfl) (by kernel_rfl) (by kernel_rfl) (fun _ _ _ h => h) (Or.inl ⟨by rfl, fun v hv => ?_⟩) (by with_reducible assumption) ?_
        rotate_left
        · go_simp
          try with_reducible rfl
        simp only [Act.put, List.setIfInBounds_toArray, List.set_cons_zero, List.set_cons_succ, List.getElem_toArray, List.getElem_cons_zero, List.getElem_cons_succ]
        refine wpAnyH_ready (rs := [19]) (by kernel_rfl) (by simp) ?_
        refine AllReadyH.cons rfl (fun K hK => ?_) AllReadyH.nil
        go_simp
        go_at_call 20
        with_reducible refine (CB _ (by with_reducible assumption)).mono ?_
        rintro e v2 ⟨A2, c2, rfl, cv2, hb2⟩
        have hE2 := EnvB.up (by with_reducible assumption) hb2
        dsimp only
        refine hK.out _ _ hE2 (fun hHeld => ?_)
        clear hK K
        try simp only [Act.put, List.setIfInBounds_toArray, List.set_cons_zero, List.set_cons_succ, List.getElem_toArray, List.getElem_cons_zero, List.getElem_cons_succ]
        refine wpAnyH_ready (rs := [20]) (by kernel_rfl) (by simp) ?_
        refine AllReadyH.cons rfl (fun K hK => ?_) AllReadyH.nil
        go_simp
        refine hK.out _ _ hE2 (fun hHeld => ?_)
        clear hK K
        try simp only [Act.put, List.setIfInBounds_toArray, List.set_cons_zero, List.set_cons_succ, List.getElem_toArray, List.getElem_cons_zero, List.getElem_cons_succ]
        refine wpAnyH_take (i := 21) (v := ?_) rfl (by kernel_rfl) (by kernel_rfl) (by kernel_rfl) (fun _ _ _ h => h) (Or.inl ⟨by rfl, fun v hv => ?_⟩) (by with_reducible assumption) ?_
        rotate_left
        · go_simp
          try with_reducible rfl
        simp only [Act.put, List.setIfInBounds_toArray, List.set_cons_zero, List.set_cons_succ, List.getElem_toArray, List.getElem_cons_zero, List.getElem_cons_succ]
        refine wpAnyH_take (i := 22) (v := ?_) rfl (by kernel_rfl) (by kernel_rfl) (by kernel_rfl) (fun _ _ _ h => h) (Or.inl ⟨by rfl, fun v hv => ?_⟩) (by with_reducible assumption) ?_
        rotate_left
        · go_simp
          try with_reducible rfl
        simp only [Act.put, List.setIfInBounds_toArray, List.set_cons_zero, List.set_cons_succ, List.getElem_toArray, List.getElem_cons_zero, List.getElem_cons_succ]
        refine wpAnyH_take (i := 23) (v := ?_) rfl (by kernel_rfl) (by kernel_rfl) (by kernel_rfl) (fun _ _ _ h => h) (Or.inl ⟨by rfl, fun v hv => ?_⟩) (by with_reducible assumption) ?_
        rotate_left
        · go_simp
          try with_reducible rfl
        simp only [Act.put, List.setIfInBounds_toArray, List.set_cons_zero, List.set_cons_succ, List.getElem_toArray, List.getElem_cons_zero, List.getElem_cons_succ]
        refine wpAnyH_done (by kernel_rfl) ?_ _
        go_wp2_with fail
        go_meet
        exact ⟨rfl, hE2⟩
      case rest =>
        obtain ⟨rfl, hE⟩ := hcut
        clear EX
        go_wp2
        go_ret
        exact ⟨rfl, hE.b⟩
    · have i2 : ((n : Int) != 200) = true := by rw [bne_iff_ne]; omega
      have HN := hid hn
      obtain ⟨z, hz⟩ : ∃ z, z = l0 := ⟨_, rfl⟩
      have HZL : Hid (Lanes z) := hz ▸ l0_lanes
      have HQ : Hid (∀ v, (Op.equalIn 10000 24 (.agg (cellsOf64 z).toArray) (.agg #[.int .u64 0, .int .u64 0, .int .u64 0, .int .u64 0, .int .u64 0, .int .u64 0, .int .u64 0, .int .u64 0, .int .u64 0, .int .u64 0, .int .u64 0, .int .u64 0, .int .u64 0, .int .u64 0, .int .u64 0, .int .u64 0, .int .u64 0, .int .u64 0, .int .u64 0, .int .u64 0, .int .u64 0, .int .u64 0, .int .u64 0, .int .u64 0, .int .u64 0])).run Tryd.prog v = .ok true v) := by
        intro v
        rw [hz]
        exact same_st v l0_lanes
      have CE : ∀ v, Calls Tryd.prog 17 #[.slice A n c] v fun e w' => e = .returned (.tuple #[.agg (cellsOf64 z).toArray, .int .i64 1]) ∧ Below v.heap.size v w' := fun v => by
        rw [hz]
        exact kofBytes_err A n c v HN.out
      clear hn hz hbig
      go_enter Tryd.func5, Tryd.ntmps5
      go_wp2_with fail
      refine (speaks6_c w HG.out).mono ?_
      rintro e w1 ⟨rfl, b1⟩
      have HB1 := hid b1
      clear b1
      go_wp2_with fail
      refine (CE w1).mono ?_
      rintro e w2 ⟨rfl, b2⟩
      obtain ⟨hst, hn, hbn⟩ := new_st w2 24 HZL.out
      have B3 := hid (bchain HB1.out (bchain b2 hbn))
      have hlen := st_len HZL.out
      have O3 := hid hn.range
      have HSz := hid (st_size HZL.out)
      clear hn hbn b2 HB1 CE
      unfold zS at hst B3 O3
      have hq := HQ.out ((w2.alloc (.cells #[.int .u64 0, .int .u64 0, .int .u64 0, .int .u64 0, .int .u64 0, .int .u64 0, .int .u64 0, .int .u64 0, .int .u64 0, .int .u64 0, .int .u64 0, .int .u64 0, .int .u64 0, .int .u64 0, .int .u64 0, .int .u64 0, .int .u64 0, .int .u64 0, .int .u64 0, .int .u64 0, .int .u64 0, .int .u64 0, .int .u64 0, .int .u64 0, .int .u64 0] 24)).setCells w2.heap.size 0 (cellsOf64 z))
      go_wp2_with (first
        | with_reducible refine wpList_load_mid rfl 24 (.tmp 3) rfl w2.heap.size 0 rfl (cellsOf64 z) _ O3.out Tryd.underlying24 rfl HSz.out ?_
        | refine wpList_load_gk (by rfl) 24 (.tmp 3) rfl w2.heap.size 0 rfl (cellsOf64 z) _ (by with_reducible exact O3.out) Tryd.underlying24 rfl HSz.out ?_)
      go_ret
      exact ⟨rfl, B3.out⟩
end Go.Proofs.YtpilbpkblcmngaaDoor
