/-
  digest.Hash.Write: what the call does.
-/
import Derived.Test.YteogjnendkbjcaaDoorDhE
import Derived.Test.YteogjnendkbjcaaDoorDrA
namespace Go.Proofs.YteogjnendkbjcaaDoor
open Go.RowKit
set_option linter.unusedVariables false
set_option linter.unusedSimpArgs false

/-- What is left to take, and what was taken. -/
structure WrR (w : World) (b n : Nat) (m l : List Nat) (v : Value) (wr : World) : Prop where
  ex : ∃ k A' c', k ≤ n ∧ v = .slice A' (n - k) c' ∧ n - k ≤ c' ∧ Rd8 wr b A' (n - k) (l.drop k) ∧ HashM wr b (m ++ l.take k)
  o : Only b w wr
  g : GlobK wr
theorem Rd8.pick {w : World} {B n : Nat} {A : Option Addr} {l : List Nat} (h : Rd8 w B A n l) (t : Nat) (ht : t ≤ n) (h0 : 0 < t) : ∃ ad, A = some ad ∧ ∀ j v, (cells8 (l.take t))[j]? = some v → w.cell? (ad.add j) = some v := by
  obtain ⟨ad, e, hc⟩ := src8 h (by omega)
  refine ⟨ad, e, fun j v hj => hc j v ?_⟩
  have hj2 : j < t := by
    have := (List.getElem?_eq_some_iff.1 hj).1
    rw [c8_len, List.length_take] at this
    omega
  unfold cells8 at hj ⊢
  rw [List.map_take, List.getElem?_take_of_lt hj2] at hj
  exact hj
theorem Rd8.rest {w w' : World} {b n : Nat} {ad : Addr} {l : List Nat} (h : Rd8 w b (some ad) n l) (hb : Below b w w') (t : Nat) (ht : t ≤ n) : Rd8 w' b (some ⟨ad.block, ad.off + t, none⟩) (n - t) (l.drop t) := by
  refine ⟨by rw [List.length_drop, h.len], fun x hx => h.lt x (List.mem_of_mem_drop hx), fun h0 => ?_⟩
  obtain ⟨ba, oa, e, hba, hc⟩ := h.cells (by omega)
  obtain rfl := Option.some.inj e
  refine ⟨ba, oa + t, rfl, hba, fun i hi => ?_⟩
  rw [show oa + t + i = oa + (t + i) by omega, hb.cell (p := ⟨ba, oa + (t + i), none⟩) hba, hc (t + i) (by omega)]
  unfold at64
  rw [getD_drop]

theorem addr_add7 {b off i : Nat} : (⟨b, off, none⟩ : Addr).add i = ⟨b, off + i, none⟩ := by unfold Addr.add; split <;> simp_all
/-- What is kept through the turn of a full block. -/
structure EnvW (w wr : World) (b : Nat) (L ws : List Nat) (s : Nat) (v : World) : Prop where
  hb : HashB v b L ws s
  o : Only b w v
  o2 : Only b wr v
  g : GlobK v
theorem EnvW.up {w wr : World} {b : Nat} {L ws : List Nat} {s : Nat} {v v' : World} (h : EnvW w wr b L ws s v) (hb : Below v.heap.size v v') : EnvW w wr b L ws s v' := ⟨h.hb.up hb, h.o.trans (Only.of hb), h.o2.trans (Only.of hb), h.g.up hb⟩
theorem EnvW.st {w wr : World} {b : Nat} {L L' ws : List Nat} {s : Nat} {v : World} (h : EnvW w wr b L ws s v) (hL : Lanes L') (hlo : 1 < b ∧ 0 < b) : EnvW w wr b L' ws s (v.setCells b 0 (cellsOf64 L')) :=
  ⟨h.hb.setState hL, Only.sets _ 0 v h.o, Only.sets _ 0 v h.o2, (Only.sets (cellsOf64 L') 0 v (Only.refl b v)).glob h.g hlo⟩
theorem EnvW.store {w wr : World} {b : Nat} {L L' ws : List Nat} {s : Nat} {v : World} (h : EnvW w wr b L ws s v) (hL : Lanes L') : (storeCells ⟨b, 0, none⟩ (cellsOf64 L')).run Tryd.prog v = .ok () (v.setCells b 0 (cellsOf64 L')) :=
  storeV (cellsOf64 L') 0 h.hb.blk (by rw [c64_len, hL.len, hcl_len h.hb.ll h.hb.lb]; decide) (one64 L')
theorem EnvW.zero {w wr : World} {b : Nat} {L ws : List Nat} {s : Nat} {v : World} (h : EnvW w wr b L ws s v) : (storeCells ⟨b, 25, none⟩ (cells8 z136)).run Tryd.prog v = .ok () (v.setCells b 25 (cells8 z136)) ∧
    (v.setCells b 25 (cells8 z136)).cell? ⟨b, 161, none⟩ = some (.int .i64 (s : Int)) ∧ (v.setCells b 25 (cells8 z136)).frozen? ⟨b, 161, none⟩ = false := by
  have h1 := h.hb.setBlock z136_len (zeros_lt8 _)
  exact ⟨storeV (cells8 z136) 25 h.hb.blk (by rw [c8_len, z136_len, hcl_len h.hb.ll h.hb.lb]; decide) (one8 z136), h1.held, h1.blk.frozen 161⟩
theorem results_none7 {fn : Func} {P : Program} {w : World} {tmps : Array Value} (h : fn.results = #[]) : (results fn tmps).run P w = .ok (.tuple #[]) w := by
  simp [results, h]
set_option maxRecDepth 20000 in
set_option maxHeartbeats 2000000 in
theorem write_c7 (A : Option Addr) (n c b : Nat) (m l : List Nat) (w : World) (hc : n ≤ c) (ha : Rd8 w b A n l) (hB : HashM w b m) (hG : GlobK w) (hlo : 1 < b ∧ 0 < b) :
    Calls Tryd.prog 10 #[.pointer (some ⟨b, 0, none⟩), .slice A n c] w fun e w' => e = .returned (.tuple #[]) ∧ HashM w' b (m ++ l) ∧ Only b w w' := by
  have R0 := hid (show WrR w b n m l (.slice A n c) w from ⟨⟨0, A, c, Nat.zero_le _, by rw [Nat.sub_zero], by rw [Nat.sub_zero]; exact hc, by rw [Nat.sub_zero, List.drop_zero]; exact ha, by rw [List.take_zero, List.append_nil]; exact hB⟩, Only.refl _ _, hG⟩)
  have HN := hid ha.len
  have HLO := hid hlo
  have HLL := hid ha.lt
  clear ha hB hG hlo hc
  go_enter Tryd.func10, Tryd.ntmps10
  go_wp2
  go_loopw [1] (fun v wr => WrR w b n m l v wr) (fun v _ => slen v)
  case atStart => exact R0.out
  case round =>
    clear R0
    obtain ⟨⟨k, A', c', hk, rfl, hc', hrd, hM⟩, hO, hG⟩ := hrel
    have HO := hid hO
    have HG := hid hG
    have HD : Hid (l.drop k = l.drop k) := rfl
    obtain ⟨r, hr⟩ : ∃ r, r = n - k := ⟨_, rfl⟩
    rw [← hr] at hrd hc' ⊢
    have HRN := hid hr
    clear hO hG hr
    by_cases h0 : 0 < r
    · have i1 : (0 : Int) < (r : Int) := by omega
      obtain ⟨M, hMM⟩ : ∃ M, M = m ++ l.take k := ⟨_, rfl⟩
      rw [← hMM] at hM
      have HMM := hid hMM
      obtain ⟨h, hh⟩ : ∃ h, h = M.length % 136 := ⟨_, rfl⟩
      have h136 : h < 136 := by rw [hh]; exact Nat.mod_lt _ (by decide)
      have HB := hM.h
      have HMB := hid hM.lt
      rw [← hh] at HB
      have HH := hid hh
      obtain ⟨t, ht⟩ : ∃ t, t = Nat.min r (136 - h) := ⟨_, rfl⟩
      have htr : t ≤ r := by rw [ht]; exact Nat.min_le_left _ _
      have hth : t ≤ 136 - h := by rw [ht]; exact Nat.min_le_right _ _
      have ht0 : 0 < t := by rw [ht]; exact Nat.lt_min.2 ⟨h0, by omega⟩
      obtain ⟨ad, rfl, hsrc⟩ := hrd.pick t htr ht0
      have c161 := HB.held
      have HBB := hid HB
      have HRD := hid hrd
      have HSR : Hid (∀ j v, (cells8 ((l.drop k).take t))[j]? = some v → wr.drew.cell? (ad.add j) = some v) := hsrc
      have htl : ((l.drop k).take t).length = t := by rw [List.length_take, hrd.len]; omega
      have HTL := hid htl
      have HT := hid ht
      have i2 : (h : Int) < 136 := by omega
      have i3 : (0 : Int) ≤ (h : Int) := by omega
      have i4 : (h : Int) ≤ 136 := by omega
      have i5 : ¬ 136 = h := by omega
      clear hM hMM HB hh hsrc hrd htl ht
      go_wp2
      go_region_law (
        refine step_copy_only rfl (.tmp 15) (.tmp 16) 22 22 rfl 5 Tryd.underlying22 (by kernel_rfl) b (25 + h) (136 - h) (136 - h) ad r c' rfl rfl
          _ 35 HBB.out.blk.drew.heap (cells8 ((l.drop k).take t)) (by rw [c8_len, HTL.out]; exact HT.out) HSR.out (by rw [c8_len, HTL.out, hcl_len HBB.out.ll HBB.out.lb]; omega) (one8 _) ?_; intro w2 hg2 ho2)
      -- BEHIND REGION 1
      obtain ⟨cs, hcs⟩ : ∃ x, x = (l.drop k).take t := ⟨_, rfl⟩
      have HCS := hid hcs
      rw [← hcs] at hg2 HTL ⊢
      clear hcs
      have HCB : Hid (allLt8 cs) := by rw [HCS.out]; exact fun x hx => HLL.out x (List.mem_of_mem_drop (List.mem_of_mem_take hx))
      have hcl2 : (cells8 cs).length = t := by rw [c8_len, HTL.out]
      have hfit : h + cs.length ≤ 136 := by rw [HTL.out]; omega
      have HF := hid hfit
      have X2 : HashB w2 b (lblk M (M.length / 136)) (splice (hwait M) h cs) h := ⟨by rw [← splice_hcl HBB.out.ll HBB.out.lb hfit]; exact hg2.out, HBB.out.ll, by rw [splice_len (by rw [HBB.out.lb]; exact hfit), HBB.out.lb], splice_lt8 HBB.out.lt HCB.out h⟩
      have O2 : Only b w w2 := HO.out.drew.trans ho2
      have G2 : GlobK w2 := ho2.glob (show GlobK wr.drew from HG.out.up (Below.refl _ _).drew) HLO.out
      have HLB := hid HBB.out.ll
      obtain ⟨s, hs⟩ : ∃ s, s = h + t := ⟨_, rfl⟩
      have HS := hid hs
      have c161' := X2.held
      have f161 := X2.blk.frozen 161
      have X3 := X2.setHeld s
      have c161b := X3.held
      have f161b := X3.blk.frozen 161
      have O3 := hid (O2.set 161 (.int .i64 (s : Int)))
      have G3 := hid ((Only.refl b w2).set 161 (.int .i64 (s : Int)) |>.glob G2 HLO.out)
      have HX3 := hid X3
      obtain ⟨A2, hA2⟩ : ∃ x, x = (if c' = t then some ad else some (ad.add t)) := ⟨_, rfl⟩
      have HRR : Hid (∀ w', Below b wr w' → Rd8 w' b A2 (r - t) (l.drop (k + t))) := by
        intro w' hb'
        have hz : ad.spot = none := by
          obtain ⟨ba, oa, e, _⟩ := HRD.out.cells h0
          exact congrArg Addr.spot (Option.some.inj e)
        by_cases hct : c' = t
        · have e0 : r - t = 0 := by omega
          have e1 : l.drop (k + t) = [] := List.eq_nil_of_length_eq_zero (by rw [List.length_drop, HN.out]; have := HRN.out; omega)
          rw [e0, e1]
          exact Rd8.nil _ _ _
        · rw [hA2, if_neg hct, ← List.drop_drop]
          have e2 : ad.add t = ⟨ad.block, ad.off + t, none⟩ := by
            obtain ⟨ba, oa, sp⟩ := ad
            simp only at hz
            subst hz
            exact addr_add7
          rw [e2]
          exact HRD.out.rest hb' t htr
      have HSL : ∀ v, (Instr.slice 22 (.slice (some ad) r c') (some (.int .i64 (t : Int))) none none).run Tryd.prog v = .ok (.slice A2 (r - t) (c' - t)) v := fun v => by
        have h1 := run_slice_l (P := Tryd.prog) v 22 (some ad) r c' (by kernel_rfl) .i64 (t : Int) (by omega) (by omega)
        rw [h1, show (sizeOf (Tryd.prog.elem 22)).run Tryd.prog v = .ok 1 v by kernel_rfl]
        show Result.ok (Value.slice (if c' = t then some ad else some (ad.add (t * 1))) (r - t) (c' - t)) v = _
        rw [Nat.mul_one, hA2]
      have HTR := hid htr
      have HRC := hid hc'
      have i6 : (t : Int) ≤ 136 := by omega
      have i7 : (0 : Int) ≤ (t : Int) := by omega
      have i8 : (h : Int) + (t : Int) = (s : Int) := by omega
      have HNX : Hid (M ++ cs = m ++ l.take (k + t)) := by
        show _ = _
        rw [HMM.out, HCS.out, List.append_assoc, List.take_add]
      have HR2 : Hid (n - (k + t) = r - t) := by show _ = _; have := HRN.out; omega
      have HKN : Hid (k + t ≤ n) := by show _ ≤ _; have := HRN.out; omega
      have HSS := hid (show s ≤ 136 by omega)
      have HOW := hid (show Only b wr.drew w2 from ho2)
      clear X2 O2 G2 hs X3 hg2 ho2 hA2 htr hc' hth hfit HSR HRD HG HO c161
      by_cases hs136 : s = 136
      · have j1 : (s : Int) = 136 := by omega
        obtain ⟨q1, q2, q3, q4⟩ := hmore_full (m := M) (c := cs) (by rw [HTL.out, ← HH.out, ← HS.out]; exact hs136)
        rw [← HH.out] at q4
        have E0 : EnvW w wr b (lblk M (M.length / 136)) (splice (hwait M) h cs) s (w2.setCell ⟨b, 161, none⟩ (.int .i64 (s : Int))).drew := ⟨HX3.out.drew, O3.out.drew, ((Only.refl b wr).drew.trans (HOW.out.set 161 (.int .i64 (s : Int)))).drew, G3.out.up (Below.refl _ _).drew⟩
        generalize hLq : lblk M (M.length / 136) = Lq at *
        generalize hws : splice (hwait M) h cs = ws2 at *
        obtain ⟨L', hL'⟩ : ∃ x, x = labs Lq ws2 0 := ⟨_, rfl⟩
        have LL' := hid (show Lanes L' by rw [hL']; exact labs_lanes HX3.out.lt 0)
        have HW8 := hid (show (cells8 ws2).length = 136 by rw [c8_len, HX3.out.lb])
        have C9 : ∀ v, GlobK v → Calls Tryd.prog 20 #[.agg (cellsOf64 Lq).toArray, .agg (cells8 ws2).toArray] v fun e w' => e = .returned (.agg (cellsOf64 L').toArray) ∧ Below v.heap.size v w' := fun v hg => by
          rw [hL']; exact behind_c Lq ws2 v HX3.out.ll HX3.out.lb HX3.out.lt hg
        have HFIN : ∀ v, EnvW w wr b L' ws2 s v → WrR w b n m l (.slice A2 (r - t) (c' - t)) ((v.setCells b 25 (cells8 z136)).setCell ⟨b, 161, none⟩ (.int .i64 0)) := fun v hE => by
          have hh : HashB ((v.setCells b 25 (cells8 z136)).setCell ⟨b, 161, none⟩ (.int .i64 0)) b L' z136 0 := (hE.hb.setBlock z136_len (zeros_lt8 _)).setHeld 0
          have ho := (Only.sets (cells8 z136) 25 v hE.o).set 161 (.int .i64 0)
          have ho2 := (Only.sets (cells8 z136) 25 v hE.o2).set 161 (.int .i64 0)
          have hg := ((Only.sets (cells8 z136) 25 v (Only.refl b v)).set 161 (.int .i64 0)).glob hE.g HLO.out
          have hb' := ho2.below (Nat.le_refl _) (Nat.le_of_lt HBB.out.size)
          refine ⟨⟨k + t, A2, c' - t, HKN.out, by rw [HR2.out], by rw [HR2.out]; have := HRC.out; omega, by rw [HR2.out]; exact HRR.out _ hb', ?_⟩, ho, hg⟩
          rw [← HNX.out]
          refine ⟨?_, fun x hx => ?_⟩
          · rw [q2, q3, q4, ← hL']
            exact hh
          · rcases List.mem_append.1 hx with hx | hx
            · exact HMB.out x hx
            · exact HCB.out x hx
        clear q1 q2 q3 q4 hLq hws hL'
        go_wp2_with fail
        clear O3 G3 HX3 HOW HRR HSL HBB HLB HMB HCB HNX HR2 HKN HMM HCS HTL HT c161b f161b c161' f161
        refine wp_region_held_drew (S := fun _ => True) (by kernel_rfl) trivial (fun hHeld => ?_)
        rw [j1] at E0
        generalize (w2.setCell ⟨b, 161, none⟩ (.int .i64 136)).drew = v0 at *
        refine wpAnyH_take (i := 0) (v := ?_) rfl (by kernel_rfl) (by kernel_rfl) (by kernel_rfl) (fun _ _ _ h => h) (Or.inl ⟨by rfl, fun v hv => ?_⟩) (by with_reducible assumption) ?_
        rotate_left
        · go_simp
          try with_reducible rfl
        simp only [Act.put, List.setIfInBounds_toArray, List.set_cons_zero, List.set_cons_succ, List.getElem_toArray, List.getElem_cons_zero, List.getElem_cons_succ]
        refine wpAnyH_take (i := 1) (v := ?_) rfl (by kernel_rfl) (by kernel_rfl) (by kernel_rfl) (fun _ _ _ h => h) (Or.inl ⟨by rfl, fun v hv => ?_⟩) (by with_reducible assumption) ?_
        rotate_left
        · go_simp
          try with_reducible rfl
        simp only [Act.put, List.setIfInBounds_toArray, List.set_cons_zero, List.set_cons_succ, List.getElem_toArray, List.getElem_cons_zero, List.getElem_cons_succ]
        refine wpAnyH_take (i := 2) (v := ?_) rfl (by kernel_rfl) (by kernel_rfl) (by kernel_rfl) (fun _ _ _ h => h) (Or.inl ⟨by rfl, fun v hv => ?_⟩) (by with_reducible assumption) ?_
        rotate_left
        · go_simp
          try with_reducible rfl
        simp only [Act.put, List.setIfInBounds_toArray, List.set_cons_zero, List.set_cons_succ, List.getElem_toArray, List.getElem_cons_zero, List.getElem_cons_succ]
        refine wpAnyH_take (i := 3) (v := ?_) rfl (by kernel_rfl) (by kernel_rfl) (by kernel_rfl) (fun _ _ _ h => h) (Or.inl ⟨by rfl, fun v hv => ?_⟩) (by with_reducible assumption) ?_
        rotate_left
        · go_simp
          try with_reducible rfl
        simp only [Act.put, List.setIfInBounds_toArray, List.set_cons_zero, List.set_cons_succ, List.getElem_toArray, List.getElem_cons_zero, List.getElem_cons_succ]
        refine wpAnyH_take (i := 5) (v := ?_) rfl (by kernel_rfl) (by kernel_rfl) (by kernel_rfl) (fun _ _ _ h => h) (Or.inl ⟨by rfl, fun v hv => ?_⟩) (by with_reducible assumption) ?_
        rotate_left
        · go_simp
          try with_reducible rfl
        simp only [Act.put, List.setIfInBounds_toArray, List.set_cons_zero, List.set_cons_succ, List.getElem_toArray, List.getElem_cons_zero, List.getElem_cons_succ]
        refine wpAnyH_take (i := 6) (v := ?_) rfl (by kernel_rfl) (by kernel_rfl) (by kernel_rfl) (fun _ _ _ h => h) (Or.inl ⟨by rfl, fun v hv => ?_⟩) (by with_reducible assumption) ?_
        rotate_left
        · go_simp
          try with_reducible rfl
        simp only [Act.put, List.setIfInBounds_toArray, List.set_cons_zero, List.set_cons_succ, List.getElem_toArray, List.getElem_cons_zero, List.getElem_cons_succ]
        refine wpAnyH_take (i := 7) (v := ?_) rfl (by kernel_rfl) (by kernel_rfl) (by kernel_rfl) (fun _ _ _ h => h) (Or.inl ⟨by rfl, fun v hv => ?_⟩) (by with_reducible assumption) ?_
        rotate_left
        · go_simp
          try with_reducible rfl
        simp only [Act.put, List.setIfInBounds_toArray, List.set_cons_zero, List.set_cons_succ, List.getElem_toArray, List.getElem_cons_zero, List.getElem_cons_succ]
        refine wpAnyH_ready (rs := [4, 8]) (by kernel_rfl) (by simp) ?_
        refine (AllReadyH.cons rfl (fun K hK => ?_) (AllReadyH.cons rfl (fun K hK => ?_) AllReadyH.nil))
        · rw [if_pos (by rfl)]
          refine wp_load_mid 31 (.tmp 37) rfl b 0 rfl (cellsOf64 Lq) _ E0.hb.state Tryd.underlying31 rfl (st_size E0.hb.ll) ?_
          refine hK.out _ _ trivial (fun hHeld => ?_)
          clear hK K
          try simp only [Act.put, List.setIfInBounds_toArray, List.set_cons_zero, List.set_cons_succ, List.getElem_toArray, List.getElem_cons_zero, List.getElem_cons_succ]
          refine wpAnyH_ready (rs := [8]) (by kernel_rfl) (by simp) ?_
          refine (AllReadyH.cons rfl (fun K hK => ?_) AllReadyH.nil)
          rw [if_pos (by rfl)]
          refine wp_load_mid 33 (.tmp 41) rfl b 25 rfl (cells8 ws2) _ E0.hb.block Tryd.underlying33 rfl (size136.trans (congrArg some HW8.out.symm)) ?_
          refine hK.out _ _ trivial (fun hHeld => ?_)
          clear hK K
          try simp only [Act.put, List.setIfInBounds_toArray, List.set_cons_zero, List.set_cons_succ, List.getElem_toArray, List.getElem_cons_zero, List.getElem_cons_succ]
          refine wpAnyH_ready (rs := [9]) (by kernel_rfl) (by simp) ?_
          refine (AllReadyH.cons rfl (fun K hK => ?_) AllReadyH.nil)
          go_simp
          go_at_call 20
          with_reducible refine (C9 _ E0.g).mono ?_
          rintro e v3 ⟨rfl, hb3⟩
          have E3 := E0.up hb3
          dsimp only
          refine hK.out _ _ trivial (fun hHeld => ?_)
          clear hK K
          try simp only [Act.put, List.setIfInBounds_toArray, List.set_cons_zero, List.set_cons_succ, List.getElem_toArray, List.getElem_cons_zero, List.getElem_cons_succ]
          refine wpAnyH_take (i := 10) (v := ?_) rfl (by kernel_rfl) (by kernel_rfl) (by kernel_rfl) (fun _ _ _ h => h) (Or.inl ⟨by rfl, fun v hv => ?_⟩) (by with_reducible assumption) ?_
          rotate_left
          · go_simp
            try with_reducible rfl
          simp only [Act.put, List.setIfInBounds_toArray, List.set_cons_zero, List.set_cons_succ, List.getElem_toArray, List.getElem_cons_zero, List.getElem_cons_succ]
          refine wpAnyH_take (i := 11) (v := ?_) rfl (by kernel_rfl) (by kernel_rfl) (by kernel_rfl) (fun _ _ _ h => h) (Or.inl ⟨by rfl, fun v hv => ?_⟩) (by with_reducible assumption) ?_
          rotate_left
          · go_simp
            try with_reducible rfl
          simp only [Act.put, List.setIfInBounds_toArray, List.set_cons_zero, List.set_cons_succ, List.getElem_toArray, List.getElem_cons_zero, List.getElem_cons_succ]
          refine wpAnyH_ready (rs := [12]) (by kernel_rfl) (by simp) ?_
          refine (AllReadyH.cons rfl (fun K hK => ?_) AllReadyH.nil)
          have hst4 := E3.store LL'.out
          have hl4 := st_len LL'.out
          go_simp
          have E4 := E3.st LL'.out HLO.out
          refine hK.out _ _ trivial (fun hHeld => ?_)
          clear hst4 hl4
          clear hK K
          try simp only [Act.put, List.setIfInBounds_toArray, List.set_cons_zero, List.set_cons_succ, List.getElem_toArray, List.getElem_cons_zero, List.getElem_cons_succ]
          generalize v3.setCells b 0 (cellsOf64 L') = v4 at *
          refine wpAnyH_done (by kernel_rfl) ?_ _
          have HFN := HFIN v4 E4
          have hz := zero136
          have hlz : (cells8 z136).length = 136 := by rw [c8_len, z136_len]
          obtain ⟨hst, c161c, f161c⟩ := E4.zero
          have HFI := hid HFN
          clear HFN HFIN
          go_wp2
          go_roundw
          case rel => exact HFI.out
          case measure => have := HTR.out; simp only [slen]; omega
        · rw [if_pos (by rfl)]
          refine wp_load_mid 33 (.tmp 41) rfl b 25 rfl (cells8 ws2) _ E0.hb.block Tryd.underlying33 rfl (size136.trans (congrArg some HW8.out.symm)) ?_
          refine hK.out _ _ trivial (fun hHeld => ?_)
          clear hK K
          try simp only [Act.put, List.setIfInBounds_toArray, List.set_cons_zero, List.set_cons_succ, List.getElem_toArray, List.getElem_cons_zero, List.getElem_cons_succ]
          refine wpAnyH_ready (rs := [4]) (by kernel_rfl) (by simp) ?_
          refine (AllReadyH.cons rfl (fun K hK => ?_) AllReadyH.nil)
          rw [if_pos (by rfl)]
          refine wp_load_mid 31 (.tmp 37) rfl b 0 rfl (cellsOf64 Lq) _ E0.hb.state Tryd.underlying31 rfl (st_size E0.hb.ll) ?_
          refine hK.out _ _ trivial (fun hHeld => ?_)
          clear hK K
          try simp only [Act.put, List.setIfInBounds_toArray, List.set_cons_zero, List.set_cons_succ, List.getElem_toArray, List.getElem_cons_zero, List.getElem_cons_succ]
          refine wpAnyH_ready (rs := [9]) (by kernel_rfl) (by simp) ?_
          refine (AllReadyH.cons rfl (fun K hK => ?_) AllReadyH.nil)
          go_simp
          go_at_call 20
          with_reducible refine (C9 _ E0.g).mono ?_
          rintro e v7 ⟨rfl, hb7⟩
          have E7 := E0.up hb7
          dsimp only
          refine hK.out _ _ trivial (fun hHeld => ?_)
          clear hK K
          try simp only [Act.put, List.setIfInBounds_toArray, List.set_cons_zero, List.set_cons_succ, List.getElem_toArray, List.getElem_cons_zero, List.getElem_cons_succ]
          refine wpAnyH_take (i := 10) (v := ?_) rfl (by kernel_rfl) (by kernel_rfl) (by kernel_rfl) (fun _ _ _ h => h) (Or.inl ⟨by rfl, fun v hv => ?_⟩) (by with_reducible assumption) ?_
          rotate_left
          · go_simp
            try with_reducible rfl
          simp only [Act.put, List.setIfInBounds_toArray, List.set_cons_zero, List.set_cons_succ, List.getElem_toArray, List.getElem_cons_zero, List.getElem_cons_succ]
          refine wpAnyH_take (i := 11) (v := ?_) rfl (by kernel_rfl) (by kernel_rfl) (by kernel_rfl) (fun _ _ _ h => h) (Or.inl ⟨by rfl, fun v hv => ?_⟩) (by with_reducible assumption) ?_
          rotate_left
          · go_simp
            try with_reducible rfl
          simp only [Act.put, List.setIfInBounds_toArray, List.set_cons_zero, List.set_cons_succ, List.getElem_toArray, List.getElem_cons_zero, List.getElem_cons_succ]
          refine wpAnyH_ready (rs := [12]) (by kernel_rfl) (by simp) ?_
          refine (AllReadyH.cons rfl (fun K hK => ?_) AllReadyH.nil)
          have hst8 := E7.store LL'.out
          have hl8 := st_len LL'.out
          go_simp
          have E8 := E7.st LL'.out HLO.out
          refine hK.out _ _ trivial (fun hHeld => ?_)
          clear hst8 hl8
          clear hK K
          try simp only [Act.put, List.setIfInBounds_toArray, List.set_cons_zero, List.set_cons_succ, List.getElem_toArray, List.getElem_cons_zero, List.getElem_cons_succ]
          generalize v7.setCells b 0 (cellsOf64 L') = v8 at *
          refine wpAnyH_done (by kernel_rfl) ?_ _
          have HFN := HFIN v8 E8
          have hz := zero136
          have hlz : (cells8 z136).length = 136 := by rw [c8_len, z136_len]
          obtain ⟨hst, c161c, f161c⟩ := E8.zero
          have HFI := hid HFN
          clear HFN HFIN
          go_wp2
          go_roundw
          case rel => exact HFI.out
          case measure => have := HTR.out; simp only [slen]; omega
      · have j1 : ¬ (s : Int) = 136 := by omega
        obtain ⟨q1, q2, q3, q4⟩ := hmore_less (m := M) (c := cs) (by rw [HTL.out, ← HH.out, ← HS.out]; have := HSS.out; omega)
        have HFIN : Hid (WrR w b n m l (.slice A2 (r - t) (c' - t)) (w2.setCell ⟨b, 161, none⟩ (.int .i64 (s : Int)))) := by
          have hb' : Below b wr (w2.setCell ⟨b, 161, none⟩ (.int .i64 (s : Int))) := ((Only.refl b wr).drew.trans (HOW.out.set 161 (.int .i64 (s : Int)))).below (Nat.le_refl _) (Nat.le_of_lt HBB.out.size)
          refine ⟨⟨k + t, A2, c' - t, HKN.out, by rw [HR2.out], by rw [HR2.out]; have := HRC.out; omega, by rw [HR2.out]; exact HRR.out _ hb', ?_⟩, O3.out, G3.out⟩
          rw [← HNX.out]
          refine ⟨?_, fun x hx => ?_⟩
          · rw [q2, q3, q4, HTL.out, ← HH.out, ← HS.out]
            exact HX3.out
          · rcases List.mem_append.1 hx with hx | hx
            · exact HMB.out x hx
            · exact HCB.out x hx
        clear q1 q2 q3 q4 O3 G3 HX3
        go_wp2
        go_roundw
        case rel => exact HFIN.out
        case measure => have := HTR.out; simp only [slen]; omega
    · have hr0 : r = 0 := by omega
      have HFM : Hid (HashM wr b (m ++ l)) := by
        rw [show l.take k = l from List.take_of_length_le (by rw [HN.out]; have := HRN.out; omega)] at hM
        exact hM
      have i1 : ¬ (0 : Int) < (r : Int) := by omega
      clear hM hrd hr0
      go_wp2
      exact ⟨rfl, _, results_none7 Tryd.results10, rfl, HFM.out, HO.out⟩
end Go.Proofs.YteogjnendkbjcaaDoor
