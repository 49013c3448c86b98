/-
  calc.Run: what the call does.
-/
import Derived.Test.YtjohbepdmnigcaaDoorCalE
namespace Go.Proofs.YtjohbepdmnigcaaDoor
open Go.RowKit
set_option linter.unusedVariables false

/-- The slice of n steps at A reads as st, and lies below block B. -/
structure RdS (w : World) (B : Nat) (A : Option Addr) (n : Nat) (st : List (Int × Nat)) : Prop where
  len : st.length = n
  lt : ∀ s ∈ st, s.2 < 18446744073709551616
  cells : 0 < n → ∃ b off, A = some ⟨b, off, none⟩ ∧ b < B ∧ ∀ i, i < n → w.cell? ⟨b, off + i * 2, none⟩ = some (.int .i64 (st.getD i (0, 0)).1) ∧ w.cell? ⟨b, off + i * 2 + 1, none⟩ = some (.int .u64 (((st.getD i (0, 0)).2 : Nat) : Int))
theorem RdS.below {w w' : World} {B B' n : Nat} {A : Option Addr} {l : List (Int × Nat)} (h : RdS w B A n l) (hb : Below B' w w') (hB : B ≤ B') : RdS w' B A n l :=
  ⟨h.len, h.lt, fun hn => by
    obtain ⟨b, off, e, hbB, hc⟩ := h.cells hn
    have k : ∀ i, w'.cell? ⟨b, i, none⟩ = w.cell? ⟨b, i, none⟩ := fun i => hb.cell (p := ⟨b, i, none⟩) (Nat.lt_of_lt_of_le hbB hB)
    exact ⟨b, off, e, hbB, fun i hi => ⟨(k _).trans (hc i hi).1, (k _).trans (hc i hi).2⟩⟩⟩
theorem RdS.more {w : World} {B B' n : Nat} {A : Option Addr} {l : List (Int × Nat)} (h : RdS w B A n l) (hB : B ≤ B') : RdS w B' A n l :=
  ⟨h.len, h.lt, fun hn => by
    obtain ⟨b, off, e, hb, hc⟩ := h.cells hn
    exact ⟨b, off, e, by omega, hc⟩⟩
theorem RdS.nil (w : World) (B : Nat) (A : Option Addr) : RdS w B A 0 [] := ⟨rfl, fun s hs => by simp at hs, fun h => absurd h (by omega)⟩
theorem RdS.up {w w' : World} {B n : Nat} {A : Option Addr} {l : List (Int × Nat)} (h : RdS w B A n l) (hb : Below w.heap.size w w') (hB : B ≤ w.heap.size) : RdS w' w'.heap.size A n l := (h.below hb hB).more (Nat.le_trans hB hb.size)

structure RunR (w0 : World) (b : Nat) (st : List (Int × Nat)) (xs0 : List Nat) (wr : World) (k : Nat) (v : Value) (xs : List Nat) : Prop where
  p : Pile wr w0.heap.size v xs
  m : FM wr b table
  ne : v.ownBlock ≠ some b
  b0 : w0.heap.size ≤ b
  bl : Below w0.heap.size w0 wr
  le : xs.length ≤ 64
  eq : runL st 0 xs0 = runL (st.drop k) k xs
theorem RunR.up {w0 : World} {b : Nat} {st : List (Int × Nat)} {xs0 : List Nat} {wr w' : World} {k : Nat} {v : Value} {xs : List Nat} (h : RunR w0 b st xs0 wr k v xs) (hb : Below wr.heap.size wr w') : RunR w0 b st xs0 w' k v xs :=
  ⟨h.p.below hb, h.m.below hb, h.ne, h.b0, h.bl.trans (hb.mono h.bl.size), h.le, h.eq⟩
theorem drop_at (st : List (Int × Nat)) (k : Nat) (h : k < st.length) : st.drop k = st.getD k (0, 0) :: st.drop (k + 1) := by
  rw [List.drop_eq_getElem_cons h]
  simp [List.getD_eq_getElem?_getD, h]
theorem runL_bad (st : List (Int × Nat)) (k : Nat) (xs : List Nat) (h : k < st.length) (e : Nat) (he : stepE (st.getD k (0, 0)).1 (st.getD k (0, 0)).2 xs = e) (h0 : e ≠ 0) : runL (st.drop k) k xs = ([], (k : Int), e) := by
  rw [drop_at st k h, runL, if_neg (by rw [he]; exact h0), he]
theorem runL_good (st : List (Int × Nat)) (k : Nat) (xs : List Nat) (h : k < st.length) (he : stepE (st.getD k (0, 0)).1 (st.getD k (0, 0)).2 xs = 0) : runL (st.drop k) k xs = runL (st.drop (k + 1)) (k + 1) (act (st.getD k (0, 0)).1.toNat (st.getD k (0, 0)).2 xs) := by
  rw [drop_at st k h, runL, if_pos he]
theorem runL_end (st : List (Int × Nat)) (k : Nat) (xs : List Nat) (h : st.length ≤ k) : runL (st.drop k) k xs = (xs, -1, 0) := by
  rw [List.drop_eq_nil_of_le h]; rfl

set_option maxRecDepth 20000 in
set_option maxHeartbeats 4000000 in
theorem run_c (A A2 : Option Addr) (n c n2 c2 : Nat) (st : List (Int × Nat)) (xs0 : List Nat) (w : World) (hS : RdS w w.heap.size A n st) (hn : n ≤ 100000) (hR : RdE w w.heap.size A2 n2 xs0) (hn2 : n2 ≤ 100000) (hG : Gc w.heap.size w)
    (ys : List Nat) (pl : Int) (er : Nat) (hA : runA st xs0 = (ys, pl, er)) :
    Calls Tryd.prog 9 #[.slice A n c, .slice A2 n2 c2] w fun e w' => ∃ v, e = .returned (.tuple #[v, .int .i64 pl, .int .i64 (er : Int)]) ∧ Pile w' w.heap.size v ys ∧ Below w.heap.size w w' := by
  have hl2 := hR.len
  have HA := hid hA
  have HL := hid hl2
  clear hA hl2
  by_cases h64 : 64 < n2
  · have e := HA.out
    unfold runA at e
    rw [if_pos (by rw [HL.out]; exact h64)] at e
    simp only [Prod.mk.injEq] at e
    obtain ⟨rfl, rfl, rfl⟩ := e
    clear hS hR hG HA HL
    go_enter Tryd.func9, Tryd.ntmps9
    go_wp2
    go_ret3
    exact ⟨_, rfl, ⟨[], World.ownsRow_nil _ _ _ 4, fun q hq => by simp at hq, rfl⟩, Below.refl _ _⟩
  · have e := HA.out
    unfold runA at e
    rw [if_neg (by rw [HL.out]; exact h64)] at e
    have HE := hid e
    clear e HA
    go_enter Tryd.func9, Tryd.ntmps9
    go_wp2_with fail
    refine (cloneE_c A2 n2 c2 xs0 w hR (by omega)).mono ?_
    rintro e w1 ⟨v1, rfl, hP1, hb1⟩
    go_wp2_with fail
    refine (deeds_c w1).mono ?_
    rintro e w2 ⟨rfl, hF2, hb2⟩
    have hRel : RunR w w1.heap.size st xs0 w2 0 v1 xs0 := ⟨hP1.below hb2, hF2, fun e => by have := (hP1.lt _ e).2; omega, hb1.size, hb1.trans (hb2.mono hb1.size), by rw [HL.out]; omega, rfl⟩
    obtain ⟨b, hb⟩ : ∃ b, b = w1.heap.size := ⟨_, rfl⟩
    rw [← hb] at hRel ⊢
    clear hP1 hb1 hF2 hb2 hb
    go_wp2
    go_loopw [7, 21] (fun p i wr => ∃ (k : Nat) (xs : List Nat), k ≤ n ∧ i = .int .i64 k ∧ RunR w b st xs0 wr k p xs) (fun _ i _ => n - (intOf i).toNat)
    case atStart => exact ⟨0, xs0, by omega, rfl, hRel⟩
    case round =>
      obtain ⟨k, xs, hk, rfl, hrel⟩ := hrel
      by_cases hlt : k < n
      · obtain ⟨sb, off, rfl, hsb, hc⟩ := hS.cells (by omega)
        obtain ⟨d0, d1⟩ := hc k hlt
        obtain ⟨⟨op, N⟩, hs⟩ : ∃ s, s = st.getD k (0, 0) := ⟨_, rfl⟩
        have hN : N < 18446744073709551616 := hS.lt (op, N) (by rw [hs, List.getD_eq_getElem?_getD, List.getElem?_eq_getElem (by rw [hS.len]; exact hlt)]; exact List.getElem_mem _)
        rw [← hs] at d0 d1
        have c0 := (hrel.bl.cell (p := ⟨sb, off + k * 2, none⟩) hsb).trans d0
        have c1 := (hrel.bl.cell (p := ⟨sb, off + k * 2 + 1, none⟩) hsb).trans d1
        have HS := hid hs
        have HRel := hid hrel
        have HLen := hid hS.len
        have k0 : (0 : Int) ≤ (k : Int) := by omega
        have k1 : (k : Int) < (n : Int) := by omega
        clear hc d0 d1 hs hrel hS hR hRel
        by_cases hop : op < 0 ∨ 10 < op
        · go_wp2_with (at_lookup; refine look_op rfl (.tmp 27) (.tmp 29) 53 56 Tryd.underlying53 rfl b table op .nilFunc (Tryd.zeroValue56 _) rfl rfl (HRel.out.m.below (by go_grown)) .nilFunc false (by rw [deed_none op hop]; rfl) (by rw [deed_none op hop]; rfl) ?_)
          go_wp2
          go_ret3
          have e1 := HE.out
          rw [HRel.out.eq, runL_bad st k xs (by rw [HLen.out]; exact hlt) 5 (by rw [← HS.out]; unfold stepE; exact if_pos hop) (by decide)] at e1
          simp only [Prod.mk.injEq] at e1
          obtain ⟨rfl, rfl, rfl⟩ := e1
          exact ⟨_, rfl, ⟨[], World.ownsRow_nil _ _ _ 4, fun q hq => by simp at hq, rfl⟩, HRel.out.bl.alloc HRel.out.bl.size _⟩
        · obtain ⟨j, hj⟩ : ∃ j : Nat, op = (j : Int) := ⟨op.toNat, by omega⟩
          subst hj
          have hj11 : j < 11 := by omega
          obtain ⟨F, hF, hent, hdo⟩ := deed_c j hj11
          have HDo := hid hdo
          obtain ⟨A3, c3, hv, hc3, hm3, hr3⟩ := HRel.out.p.form
          subst hv
          have hle := HRel.out.le
          have HStep : Hid (stepE (j : Int) N xs = if xs.length < needN j N then 13 else if 64 < (act j N xs).length then 9 else 0) := by
            unfold stepE
            rw [if_neg (by omega)]
            rfl
          have HLe := hid hle
          obtain ⟨m, hm⟩ : ∃ m, m = xs.length := ⟨_, rfl⟩
          rw [← hm] at hle hc3 HRel ⊢
          have HM := hid hm
          clear hr3 hdo hop hm
          have hGr := (hG.below HRel.out.bl).more HRel.out.bl.size
          go_wp2_with (first
            | (at_lookup; refine look_op rfl (.tmp 27) (.tmp 29) 53 56 Tryd.underlying53 rfl b table (j : Int) .nilFunc (Tryd.zeroValue56 _) rfl rfl (HRel.out.m.below (by go_grown)) (fv F) true (by rw [hF]; rfl) (by rw [hF]; rfl) ?_)
            | fail)
          unfold fv
          go_wp2_with fail
          have hl3 : Below wr.heap.size wr (wr.alloc (.cells #[.int .i64 (j : Int), .int .u64 (N : Int)] 46)) := (Below.refl _ _).alloc (Nat.le_refl _) _
          have hs3 : (wr.alloc (.cells #[.int .i64 (j : Int), .int .u64 (N : Int)] 46)).heap.size = wr.heap.size + 1 := by simp
          have hc31 := cell_of_row (wr.alloc (.cells #[.int .i64 (j : Int), .int .u64 (N : Int)] 46)) wr.heap.size 1 _ _ (0, 0) (heap_alloc_new wr _)
          have hG3 := (hGr.below hl3).more hl3.size
          refine (enough_c A3 m c3 j N _ hj11 (by omega) hN hG3).mono ?_
          rintro e w4 ⟨rfl, hb4⟩
          have hl4 := hl3.trans (hb4.mono hl3.size)
          have hc41 : w4.cell? ⟨wr.heap.size, 1, none⟩ = some (.int .u64 (N : Int)) := (hb4.cell (p := ⟨wr.heap.size, 1, none⟩) (by simp)).trans hc31
          have HRel4 := hid (HRel.out.up hl4)
          have hG4 := ((hGr.below hl4).more hl4.size).g
          have hsz4 : wr.heap.size + 1 ≤ w4.heap.size := by have := hb4.size; omega
          clear hl3 hs3 hc31 hG3 hb4 hl4 hGr HRel hG
          by_cases hen : needN j N ≤ m
          · rw [decide_eq_true hen]
            have HEn : Hid (¬ xs.length < needN j N) := hid (by rw [← HM.out]; omega)
            go_wp2_with fail
            have hbase := HRel4.out.bl.size
            refine (HDo.out _ w.heap.size N xs w4 HRel4.out.p (by rw [← HM.out]; exact hen) (by have := HLe.out; omega) hbase hN hG4).mono ?_
            rintro e w5 ⟨v5, rfl, hP5, hM5⟩
            have hRel5 : Below w.heap.size w w5 := HRel4.out.bl.trans (hM5.below HRel4.out.p hbase)
            have hF5 := HRel4.out.m.kept hM5.gb (fun e => HRel4.out.ne e.symm)
            have hne5 : v5.ownBlock ≠ some b := by
              intro e5
              rcases hM5.own with e6 | ⟨q, e6, hq⟩
              · exact HRel4.out.ne (e6.symm.trans e5)
              · rw [e6] at e5
                injection e5 with e5
                have := HRel4.out.m.size
                omega
            obtain ⟨A5, c5, hv5, hc5, hm5, hr5⟩ := hP5.form
            subst hv5
            have HP5 := hid hP5
            obtain ⟨m5, hmm5⟩ : ∃ m5, m5 = (act j N xs).length := ⟨_, rfl⟩
            rw [← hmm5] at hc5 hne5 ⊢
            have HM5 := hid hmm5
            clear hP5 hM5 hr5 hmm5
            by_cases h65 : 64 < m5
            · go_wp2
              go_ret3
              have e1 := HE.out
              rw [HRel4.out.eq, runL_bad st k xs (by rw [HLen.out]; exact hlt) 9 (by rw [← HS.out, HStep.out, if_neg HEn.out, if_pos (by rw [← HM5.out]; exact h65)]) (by decide)] at e1
              simp only [Prod.mk.injEq] at e1
              obtain ⟨rfl, rfl, rfl⟩ := e1
              exact ⟨_, rfl, ⟨[], World.ownsRow_nil _ _ _ 4, fun q hq => by simp at hq, rfl⟩, hRel5⟩
            · have HRel5 : Hid (RunR w b st xs0 w5 (k + 1) (.slice A5 m5 c5) (act j N xs)) := by
                refine hid ⟨by rw [HM5.out]; exact HP5.out, hF5, hne5, HRel4.out.b0, hRel5, by rw [← HM5.out]; omega, ?_⟩
                rw [HRel4.out.eq, runL_good st k xs (by rw [HLen.out]; exact hlt) (by rw [← HS.out, HStep.out, if_neg HEn.out, if_neg (by rw [← HM5.out]; exact h65)]), ← HS.out]
                rfl
              clear hF5 hne5 HRel4 hG4 hRel5 HP5 HE HStep HEn HDo hent hF
              go_wp2
              go_roundw
              case rel => exact ⟨k + 1, _, by omega, by go_num, HRel5.out⟩
              case measure => simp [intOf]; omega
          · rw [decide_eq_false hen]
            go_wp2
            go_ret3
            have e1 := HE.out
            rw [HRel4.out.eq, runL_bad st k xs (by rw [HLen.out]; exact hlt) 13 (by rw [← HS.out, HStep.out, if_pos (by rw [← HM.out]; omega)]) (by decide)] at e1
            simp only [Prod.mk.injEq] at e1
            obtain ⟨rfl, rfl, rfl⟩ := e1
            exact ⟨_, rfl, ⟨[], World.ownsRow_nil _ _ _ 4, fun q hq => by simp at hq, rfl⟩, HRel4.out.bl⟩
      · have hkn : k = n := by omega
        subst hkn
        have e1 := HE.out
        rw [hrel.eq, runL_end st k xs (by rw [hS.len]; exact Nat.le_refl _)] at e1
        simp only [Prod.mk.injEq] at e1
        obtain ⟨rfl, rfl, rfl⟩ := e1
        have HRel := hid hrel
        clear hS hR hRel hrel HE hG
        go_wp2
        go_ret3
        exact ⟨_, rfl, HRel.out.p, HRel.out.bl⟩
end Go.Proofs.YtjohbepdmnigcaaDoor
