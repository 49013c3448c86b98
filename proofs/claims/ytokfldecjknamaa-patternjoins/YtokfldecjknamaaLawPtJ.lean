/-
  avouchlaw13.PatternJoins returns true, of any two lists of items and any cut: the walk.
-/
import Derived.Test.YtokfldecjknamaaLawPtL
namespace Go.Proofs.Ytokfldecjknamaa
open Go.RowKit
set_option linter.unusedVariables false
set_option linter.unusedSimpArgs false

theorem byS_len_le {l : List IV} (h : ∀ x ∈ l, x.ok) : (byS l).length ≤ l.length * 263 := by
  induction l with
  | nil => exact Nat.zero_le _
  | cons x l ih =>
    have h1 := ih fun y hy => h y (List.mem_cons_of_mem _ hy)
    have hx := h x (List.mem_cons_self ..)
    have h2 := IV.by_len hx
    have h3 := (ck_ok (show ck _ _ _ _ = 0 from hx)).2.2.2.2.2.2
    show (x.by_ ++ byS l).length ≤ _
    rw [List.length_append, List.length_cons, Nat.succ_mul]
    omega
set_option maxRecDepth 20000 in
set_option maxHeartbeats 4000000 in
theorem patternJoins_w (A : Option Addr) (n c : Nat) (l : List IV) (A' : Option Addr) (n' c' : Nat) (l' : List IV) (cut : Nat) (w : World) (ha : RdV w w.heap.size A n l) (hc : n ≤ c) (hz : ∀ y ∈ l, y.s.size ≤ maxLen ∧ (Lit.int .i64 y.k).wf = true) (ha' : RdV w w.heap.size A' n' l') (hc' : n' ≤ c') (hz' : ∀ y ∈ l', y.s.size ≤ maxLen ∧ (Lit.int .i64 y.k).wf = true) (hcut : cut < 256) :
    Calls Try.prog 7 #[.slice A n c, .slice A' n' c', .int .u8 (cut : Int)] w fun e w' => e = .returned (.bool true) ∧ Below w.heap.size w w' := by
  have hs : ∀ y ∈ l, y.s.size ≤ 9223372036854775807 := fun y hy => (hz y hy).1
  have hs' : ∀ y ∈ l', y.s.size ≤ 9223372036854775807 := fun y hy => (hz' y hy).1
  have hw : ∀ y ∈ l, wfk y.k := fun y hy => (hz y hy).2
  have hw' : ∀ y ∈ l', wfk y.k := fun y hy => (hz' y hy).2
  have hln := ha.len
  have hln' := ha'.len
  clear hz hz'
  go_enter Try.func7, Try.ntmps7
  go_wp2_with fail
  refine (speaks13_c w).mono ?_
  rintro e w1 ⟨rfl, b1⟩
  by_cases hn : 30 < n
  · have h' : (30 : Int) < (n : Int) := by omega
    go_wp2_with fail
    refine (speaks13_c w1).mono ?_
    rintro e w2 ⟨rfl, b2⟩
    have b3 := bchain b1 b2
    go_wp2
    go_ret
    exact ⟨rfl, b3⟩
  have h1 : ¬ (30 : Int) < (n : Int) := by omega
  by_cases hn' : 30 < n'
  · have h' : (30 : Int) < (n' : Int) := by omega
    go_wp2_with fail
    refine (speaks13_c w1).mono ?_
    rintro e w2 ⟨rfl, b2⟩
    have b3 := bchain b1 b2
    go_wp2
    go_ret
    exact ⟨rfl, b3⟩
  have h2 : ¬ (30 : Int) < (n' : Int) := by omega
  have CC := ofs_c A n c l w1 (ha.below b1 (Nat.le_refl _)) b1.size (by omega)
  go_wp2_with fail
  refine CC.mono ?_
  rintro e w2 ⟨v2, rfl, O2, b2⟩
  have b2 := bchain b1 b2
  obtain ⟨AX, cX, hv, hcX, rX, _⟩ := O2.rd
  rw [hln] at hv hcX rX
  subst hv
  have CC := ser_c AX n cX l w2 rX (Nat.le_refl _) (by omega) hs
  clear b1 O2 rX
  go_wp2_with fail
  refine CC.mono ?_
  rintro e w3 ⟨i, AS, mS, cS, hi, rfl, rS, hcS, b3⟩
  have b3 := bchain b2 b3
  have CC := ofs_c A' n' c' l' w3 (ha'.below b3 (Nat.le_refl _)) b3.size (by omega)
  clear b2
  go_wp2_with fail
  refine CC.mono ?_
  rintro e w4 ⟨v4, rfl, O4, b4⟩
  have rS := rS.up b4 (Nat.le_refl _)
  have b4 := bchain b3 b4
  obtain ⟨AY, cY, hv, hcY, rY, _⟩ := O4.rd
  rw [hln'] at hv hcY rY
  subst hv
  have CC := ser_c AY n' cY l' w4 rY (Nat.le_refl _) (by omega) hs'
  clear b3 O4 rY
  go_wp2_with fail
  refine CC.mono ?_
  rintro e w5 ⟨j, AT, mT, cT, hj, rfl, rT, hcT, b5⟩
  have rS := rS.up b5 (Nat.le_refl _)
  have b5 := bchain b4 b5
  clear b4 CC
  obtain ⟨E, hE⟩ : ∃ E, E = sE l i := ⟨_, rfl⟩
  obtain ⟨F, hF⟩ : ∃ F, F = sE l' j := ⟨_, rfl⟩
  by_cases e0 : E = 0
  case neg =>
    have ei : ((E : Int) != 0) = true := by simp; omega
    rw [← hE, ← hF]
    clear hE hF rS rT hi hj e0
    go_wp2
    go_ret
    exact ⟨rfl, b5⟩
  by_cases f0 : F = 0
  case neg =>
    have fi : ((F : Int) != 0) = true := by simp; omega
    rw [← hE, ← hF, e0]
    clear hE hF e0 rS rT hi hj f0
    go_wp2
    go_ret
    exact ⟨rfl, b5⟩
  obtain ⟨_, hok, _, _, q1⟩ := hi.zero (hE.symm.trans e0)
  obtain ⟨_, hok', _, _, q2⟩ := hj.zero (hF.symm.trans f0)
  rw [q1] at rS
  rw [q2] at rT
  rw [← hE, ← hF, e0, f0]
  have hmS := rS.len
  have hmT := rT.len
  have hl1 := byS_len_le hok
  have hl2 := byS_len_le hok'
  rw [hln] at hl1
  rw [hln'] at hl2
  clear hE hF e0 f0 q1 q2 hi hj E F
  have a5 : Below w5.heap.size w5 (w5.alloc (.cells #[] 5)) := (Below.refl _ _).alloc (Nat.le_refl _) _
  have O5 := ownB_empty w5
  have rS5 := rS.below a5 (Nat.le_refl _)
  have hz5 : ([] : List Nat).length + mS ≤ 1000000 := by simp; omega
  have hz6 : (byS l).length + mT ≤ 1000000 := by omega
  have HSL := hid hmS
  have HTL := hid hmT
  clear hmS hmT
  go_wp2_with (at_builtin; refine append_rd rfl (.tmp 57) (.tmp 58) rfl w5.heap.size _ [] rfl O5 AS _ cS _ (byS l) rS5 rfl hz5 a5.size ?_)
  intro v6 w6 O6 b6
  have a6 := a5.trans b6
  have rT6 := rT.below a6 (Nat.le_refl _)
  clear rS5 b6 O5 rS a5
  go_wp2_with (at_builtin; refine append_rd rfl (.tmp 59) (.tmp 60) rfl w5.heap.size _ (byS l) rfl O6 AT _ cT _ (byS l') rT6 rfl hz6 a6.size ?_)
  intro v7 w7 O7 b7
  have a7 := a6.trans b7
  have b7 := bchain b5 a7
  rw [← byS_append] at O7
  clear rT6 O6 rT a6 a7 b5
  obtain ⟨L, hL⟩ : ∃ L, L = l ++ l' := ⟨_, rfl⟩
  have hLok : ∀ x ∈ L, x.ok := fun x hx => by
    rw [hL] at hx
    rcases List.mem_append.1 hx with h | h
    · exact hok x h
    · exact hok' x h
  have hLw : ∀ x ∈ L, wfk x.k := fun x hx => by
    rw [hL] at hx
    rcases List.mem_append.1 hx with h | h
    · exact hw x h
    · exact hw' x h
  have hLl : L.length = n + n' := by rw [hL, List.length_append, hln, hln']
  have hT1 : ((tot 1 L : Nat) : Int) = ((tot 1 l : Nat) : Int) + ((tot 1 l' : Nat) : Int) := by rw [hL, tot_append]; omega
  have hT2 : ((tot 2 L : Nat) : Int) = ((tot 2 l : Nat) : Int) + ((tot 2 l' : Nat) : Int) := by rw [hL, tot_append]; omega
  have hpa : preB L l = true := by rw [hL]; exact preB_app l l'
  rw [← hL] at O7
  have hbl := byS_len_le hLok
  obtain ⟨m, hm⟩ : ∃ m, m = (byS L).length := ⟨_, rfl⟩
  obtain ⟨AB, cB, hv, hcB, rB, _⟩ := O7.rdB
  rw [← hm] at hv hcB rB hbl
  subst hv
  have CC := parse_c AB m cB (byS L) w7 rB (Nat.le_refl _) hcB (by rw [hLl] at hbl; omega)
  have HLL := hid hLl
  have HHL := hid hL
  have HT1 := hid hT1
  have HT2 := hid hT2
  clear hLl hL hm O7 rB hbl hT1 hT2 hcB hl1 hl2 hz5 hz6
  go_wp2_with fail
  refine CC.mono ?_
  rintro e w8 ⟨k, AP, mP, cP, hk, rfl, rP, hcP, b8⟩
  obtain ⟨d1, d2, d3, d4⟩ := pEnd_byS hLok (by rw [HLL.out]; omega)
  obtain rfl := hk.uniq d1
  have hmP := rP.len
  rw [d4] at rP hmP
  rw [HLL.out] at hmP
  rw [d2, d3]
  have b8 := bchain b7 b8
  have HMP := hid hmP
  clear CC hk d1 d2 d3 d4 hmP b7
  have a8 : Below w8.heap.size w8 (w8.alloc (.cells #[] 25)) := (Below.refl _ _).alloc (Nat.le_refl _) _
  have O8 := ownV_empty 25 w8
  have ra8 := (ha.below b8 (Nat.le_refl _)).below (a8.mono b8.size) (Nat.le_refl _)
  have hz8 : ([] : List IV).length + n ≤ 100000 := by simp; omega
  have hz9 : l.length + n' ≤ 100000 := by omega
  go_wp2_with (at_builtin; refine append_items itR rfl (.tmp 66) (.tmp 67) rfl w8.heap.size _ [] rfl O8 A _ c _ l ra8 rfl hz8 a8.size ?_)
  intro v9 w9 O9 b9
  have a9 := a8.trans b9
  have ra9 := (ha'.below b8 (Nat.le_refl _)).below (a9.mono b8.size) (Nat.le_refl _)
  clear ra8 O8 a8 b9
  go_wp2_with (at_builtin; refine append_items itR rfl (.tmp 68) (.tmp 69) rfl w8.heap.size _ l rfl O9 A' _ c' _ l' ra9 rfl hz9 a9.size ?_)
  intro v10 w10 O10 b10
  have a10 := a9.trans b10
  have rP := rP.up a10 (Nat.le_refl _)
  have b10 := bchain b8 a10
  rw [← HHL.out] at O10
  obtain ⟨AL, cL, hv, hcL, rL, _⟩ := O10.rd
  rw [HLL.out, HMP.out] at hv hcL rL
  subst hv
  clear a10 a9 O9 ra9 O10 b8 hz8 hz9
  have hmP60 : mP ≤ 60 := by have := HMP.out; omega
  have CC := tos_c AP mP cP L w10 rP (Nat.le_refl _) (by omega)
  go_wp2_with fail
  refine CC.mono ?_
  rintro e w11 ⟨v11, rfl, O11, b11⟩
  have rP := rP.up b11 (Nat.le_refl _)
  have rL := rL.up b11 (Nat.le_refl _)
  have b11 := bchain b10 b11
  obtain ⟨AM, cM, hv, hcM, rM, _⟩ := O11.rd
  rw [HLL.out, HMP.out] at hv hcM rM
  subst hv
  have CC := rsameS_c AM mP cM L AL mP cL L w11 rM rL (Nat.le_refl _) (by omega)
  rw [eqS_self] at CC
  clear O11 b10
  go_wp2_with fail
  refine CC.mono ?_
  rintro e w12 ⟨rfl, b12⟩
  have rP := rP.up b12 (Nat.le_refl _)
  have b12 := bchain b11 b12
  have CC := ofs_c A n c l w12 (ha.below b12 (Nat.le_refl _)) b12.size (by omega)
  clear b11 rM rL
  go_wp2_with fail
  refine CC.mono ?_
  rintro e w13 ⟨v13, rfl, O13, b13⟩
  have rP := rP.up b13 (Nat.le_refl _)
  have b13 := bchain b12 b13
  obtain ⟨AX, cX, hv, hcX, rX, _⟩ := O13.rd
  rw [hln] at hv hcX rX
  subst hv
  have CC := total_c AX n cX l w13 rX (Nat.le_refl _) (by omega) hw
  clear b12 O13 rX
  go_wp2_with fail
  refine CC.mono ?_
  rintro e w14 ⟨rfl, b14⟩
  have rP := rP.up b14 (Nat.le_refl _)
  have b14 := bchain b13 b14
  have CC := ofs_c A' n' c' l' w14 (ha'.below b14 (Nat.le_refl _)) b14.size (by omega)
  clear b13
  go_wp2_with fail
  refine CC.mono ?_
  rintro e w15 ⟨v15, rfl, O15, b15⟩
  have rP := rP.up b15 (Nat.le_refl _)
  have b15 := bchain b14 b15
  obtain ⟨AY, cY, hv, hcY, rY, _⟩ := O15.rd
  rw [hln'] at hv hcY rY
  subst hv
  have CC := total_c AY n' cY l' w15 rY (Nat.le_refl _) (by omega) hw'
  clear b14 O15 rY
  go_wp2_with fail
  refine CC.mono ?_
  rintro e w16 ⟨rfl, b16⟩
  have rP := rP.up b16 (Nat.le_refl _)
  have b16 := bchain b15 b16
  have CC := total_c AP mP cP L w16 rP (Nat.le_refl _) (by omega) hLw
  rw [HT1.out, HT2.out] at CC
  clear b15
  go_wp2_with fail
  refine CC.mono ?_
  rintro e w17 ⟨rfl, b17⟩
  have rP := rP.up b17 (Nat.le_refl _)
  have b17 := bchain b16 b17
  have t1 := tot_le 1 l
  have t2 := tot_le 1 l'
  have t3 := tot_le 2 l
  have t4 := tot_le 2 l'
  rw [hln] at t1 t3
  rw [hln'] at t2 t4
  generalize tot 1 l = T1 at *
  generalize tot 1 l' = T2 at *
  generalize tot 2 l = T3 at *
  generalize tot 2 l' = T4 at *
  have s1 : (0 : Int) ≤ (T1 : Int) + (T2 : Int) := by omega
  have s2 : (T1 : Int) + (T2 : Int) ≤ 1000000000 := by omega
  have s3 : (0 : Int) ≤ (T3 : Int) + (T4 : Int) := by omega
  have s4 : (T3 : Int) + (T4 : Int) ≤ 1000000000 := by omega
  obtain ⟨q, hq⟩ : ∃ q, q = cut % (mP + 1) := ⟨_, rfl⟩
  have hqm : q ≤ mP := Nat.le_of_lt_succ (by rw [hq]; exact Nat.mod_lt cut (Nat.succ_pos mP))
  have m0 : (0 : Int) < (mP : Int) + 1 := by omega
  have m1 : ¬ ((mP : Int) + 1 = 0) := by omega
  have hJ : (cut : Int) % ((mP : Int) + 1) = (q : Int) := by rw [hq]; exact (Int.natCast_emod cut (mP + 1)).symm
  obtain ⟨A2, s5, r2⟩ := cutV_h rP cP q hqm hcP (q : Int) rfl
  have CC := prefix_c AP mP cP L A2 q cP (L.take q) w17 rP hcP r2 (Nat.le_refl _) (by omega)
  rw [preB_take] at CC
  clear b16 t1 t2 t3 t4 HT1 HT2 hq r2
  go_wp2_with fail
  refine CC.mono ?_
  rintro e w18 ⟨rfl, b18⟩
  have rP := rP.up b18 (Nat.le_refl _)
  have b18 := bchain b17 b18
  have CC := ofs_c A n c l w18 (ha.below b18 (Nat.le_refl _)) b18.size (by omega)
  clear b17
  go_wp2_with fail
  refine CC.mono ?_
  rintro e w19 ⟨v19, rfl, O19, b19⟩
  have rP := rP.up b19 (Nat.le_refl _)
  have b19 := bchain b18 b19
  obtain ⟨AX, cX, hv, hcX, rX, _⟩ := O19.rd
  rw [hln] at hv hcX rX
  subst hv
  have CC := prefix_c AP mP cP L AX n cX l w19 rP hcP rX (Nat.le_refl _) (by omega)
  rw [hpa] at CC
  clear b18 O19 rX
  go_wp2_with fail
  refine CC.mono ?_
  rintro e w20 ⟨rfl, b20⟩
  have b20 := bchain b19 b20
  clear CC b19 rP
  go_wp2
  go_ret
  exact ⟨rfl, b20⟩
end Go.Proofs.Ytokfldecjknamaa
