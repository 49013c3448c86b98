/-
  avouchlaw13.PatternLong returns true, of any item and any number of it: the walk.
-/
import Derived.Test.YtokfldecjknamaaLawPtU
namespace Go.Proofs.Ytokfldecjknamaa
open Go.RowKit
set_option linter.unusedVariables false
set_option linter.unusedSimpArgs false

/-- Rows of unlike types don't lie in one block. -/
theorem own_apart {w : World} {b1 b2 : Nat} {e : TypeId} {v u : Value} {l : List Nat} {m : List IV} (h : OwnB w b1 v l) (k : OwnV e w b2 u m) (he : e ≠ 5) : v.ownBlock = none ∨ u.ownBlock = none ∨ v.ownBlock ≠ u.ownBlock := by
  rcases h.own.2 with ⟨rfl, _⟩ | ⟨g, cap, cur, rfl, _, hg, _⟩
  · exact Or.inl rfl
  · rcases k.own.2 with ⟨rfl, _⟩ | ⟨g', cap', cur', rfl, _, hg', _⟩
    · exact Or.inr (Or.inl rfl)
    · refine Or.inr (Or.inr fun hh => ?_)
      have e1 : g = g' := by simpa [Value.ownBlock] using hh
      subst e1
      rw [hg] at hg'
      injection hg' with hg'
      injection hg' with _ q
      exact he q.symm
theorem OwnV.keptB {w w' : World} {b1 b2 : Nat} {e : TypeId} {v u : Value} {l : List Nat} {m : List IV} (h : OwnB w b1 v l) (k : OwnV e w b2 u m) (he : e ≠ 5) (hg : w.grownBy w' v.ownBlock) : OwnV e w' b2 u m := by
  refine ⟨k.own.kept hg ?_⟩
  rcases own_apart h k he with hh | hh | hh
  · rcases hq : u.ownBlock with _ | q
    · exact Or.inl rfl
    · rw [hh]; exact Or.inr (by simp)
  · exact Or.inl hh
  · exact Or.inr (Ne.symm hh)
theorem OwnB.keptV {w w' : World} {b1 b2 : Nat} {e : TypeId} {v u : Value} {l : List Nat} {m : List IV} (h : OwnB w b1 v l) (k : OwnV e w b2 u m) (he : e ≠ 5) (hg : w.grownBy w' u.ownBlock) : OwnB w' b1 v l := by
  refine ⟨h.own.kept hg ?_, h.lt⟩
  rcases own_apart h k he with hh | hh | hh
  · exact Or.inl hh
  · rcases hq : v.ownBlock with _ | q
    · exact Or.inl rfl
    · rw [hh]; exact Or.inr (by simp)
  · exact Or.inr hh
theorem append_rdG {ops : Array Oper} {rest : List Oper} {o : Oper} {a : Act} {Q : Exit → Act → World → Prop} {w : World} (hgd : o.guard = none) (s x : Operand)
    (ho : o.op = .call { callee := .builtin .append, args := #[s, x], argTypes := #[28, 28] })
    (base : Nat) (v : Value) (l : List Nat) (hs : a.eval s = v) (hown : OwnB w base v l) (A : Option Addr) (n c B : Nat) (news : List Nat) (hr : Rd8 w B A n news) (hx : a.eval x = .slice A n c)
    (hlen : l.length + n ≤ 1000000) (hbase : base ≤ w.heap.size)
    (h : ∀ v' w', OwnB w' base v' (l ++ news) → w.grownBy w' v.ownBlock → wpList Try.prog ops Q rest (a.put o.dst v') w') : wpList Try.prog ops Q (o :: rest) a w := by
  refine wpList_plain hgd fun K hK => ?_
  exact wp_append_rd s x ho base v l hs hown A n c B news hr hx hlen hbase fun v' w' h1 h2 => hK _ _ (h v' w' h1 h2)
theorem append_itemsG {t e : TypeId} (hT : ItT t e) {ops : Array Oper} {rest : List Oper} {o : Oper} {a : Act} {Q : Exit → Act → World → Prop} {w : World} (hgd : o.guard = none) (s x : Operand)
    (ho : o.op = .call { callee := .builtin .append, args := #[s, x], argTypes := #[t, t] })
    (base : Nat) (v : Value) (l : List IV) (hs : a.eval s = v) (hown : OwnV e w base v l) (A : Option Addr) (n c B : Nat) (news : List IV) (hr : RdV w B A n news) (hx : a.eval x = .slice A n c)
    (hlen : l.length + n ≤ 100000) (hbase : base ≤ w.heap.size)
    (h : ∀ v' w', OwnV e w' base v' (l ++ news) → w.grownBy w' v.ownBlock → wpList Try.prog ops Q rest (a.put o.dst v') w') : wpList Try.prog ops Q (o :: rest) a w := by
  refine wpList_plain hgd fun K hK => ?_
  exact wp_append_items hT s x ho base v l hs hown A n c B news hr hx hlen hbase fun v' w' h1 h2 => hK _ _ (h v' w' h1 h2)
/-- What is read of the bytes of items that may be. -/
theorem pEnd_byS {l : List IV} (h : ∀ x ∈ l, x.ok) (hl : l.length ≤ 1024) : PEnd (byS l) l.length ∧ pE (byS l) l.length = 0 ∧ pAt (byS l) l.length = -1 ∧ pX (byS l) l.length = l := by
  obtain ⟨h1, h2⟩ := rsN_byS l [] h l.length (Nat.le_refl _)
  rw [List.append_nil, List.drop_length, List.append_nil] at h1
  rw [List.append_nil, List.take_length] at h2
  have h3 : rsN (byS l) l.length = [] := h1
  obtain ⟨p1, p2, p3⟩ := pE_eq h3
  refine ⟨⟨fun i hi => ?_, fun hg => hg.1 h3⟩, p1, p2, p3.trans h2⟩
  have := goes_byS l [] h hi (by omega)
  rw [List.append_nil] at this
  exact this
theorem pEnd_long {l : List IV} (h : ∀ x ∈ l, x.ok) (hl : 1024 < l.length) : PEnd (byS l) 1024 ∧ pE (byS l) 1024 = 9 ∧ pAt (byS l) 1024 = 1024 ∧ pX (byS l) 1024 = [] := by
  obtain ⟨h1, h2⟩ := rsN_byS l [] h 1024 (by omega)
  rw [List.append_nil, List.append_nil] at h1
  have h3 : rsN (byS l) 1024 ≠ [] := by
    rw [h1]
    intro e
    have := congrArg List.length e
    have h4 := byS_len (l := l.drop 1024) fun x hx => h x (List.mem_of_mem_drop hx)
    rw [List.length_drop] at h4
    have h0 : ([] : List Nat).length = 0 := rfl
    omega
  obtain ⟨p1, p2, p3⟩ := pE_ne h3
  refine ⟨⟨fun i hi => ?_, fun hg => hg.2.1 rfl⟩, by rw [p1]; rfl, p2, p3⟩
  have := goes_byS l [] h (j := i) (by omega) (by omega)
  rw [List.append_nil] at this
  exact this
theorem sEnd_long {l : List IV} (h : ∀ x ∈ l, x.ok) (hl : 1024 < l.length) : SEnd l 1024 ∧ sE l 1024 = 9 ∧ sAt l 1024 = 1024 ∧ sB l 1024 = [] := by
  refine ⟨⟨fun i hi => ⟨by omega, by omega, h _ (List.getElem_mem _)⟩, fun hg => hg.choose_spec.1 rfl⟩, ?_, ?_, ?_⟩
  · rw [sE_at hl]; rfl
  · unfold sAt; rw [if_pos hl]; rfl
  · unfold sB; rw [if_pos hl]
theorem byS_rep (y : IV) (k : Nat) : byS (List.replicate (k + 1) y) = byS (List.replicate k y) ++ y.by_ := by
  rw [List.replicate_succ', byS_append, byS_one]
theorem rep_ok {y : IV} (h : y.ok) (k : Nat) : ∀ x ∈ List.replicate k y, x.ok := fun x hx => by rw [List.eq_of_mem_replicate hx]; exact h
theorem byS_rep_len {y : IV} (h : y.ok) : ∀ k, (byS (List.replicate k y)).length = k * (8 + y.s.size)
  | 0 => by simp [byS]
  | k + 1 => by
    rw [byS_rep, List.length_append, byS_rep_len h k, IV.by_len h, Nat.succ_mul]
set_option maxRecDepth 20000 in
set_option maxHeartbeats 4000000 in
theorem patternLong_w (K T C : Int) (S : ByteArray) (many : Nat) (w : World) (hS0 : S.size ≤ maxLen) (hm : many < 65536) :
    Calls Try.prog 5 #[.agg #[.int .i64 K, .int .i64 T, .int .i64 C, .string S], .int .u16 (many : Int)] w fun e w' => e = .returned (.bool true) ∧ Below w.heap.size w w' := by
  have hS : S.size ≤ 9223372036854775807 := hS0
  have b0 : Below w.heap.size w (w.alloc (.cells #[.int .i64 K, .int .i64 T, .int .i64 C, .string S] 25)) := (Below.refl _ _).alloc (Nat.le_refl _) _
  have B0 := BlkV.new w 25 [.int .i64 K, .int .i64 T, .int .i64 C, .string S]
  go_enter Try.func5, Try.ntmps5
  go_wp2_with fail
  generalize w.alloc (.cells #[.int .i64 K, .int .i64 T, .int .i64 C, .string S] 25) = w0 at *
  refine (speaks13_c w0).mono ?_
  rintro e w1 ⟨rfl, b1⟩
  have b01 := bchain b0 b1
  have B1 := B0.up b1
  have r1 := B1.range
  obtain ⟨y0, y1, y2, y3⟩ := B1.four
  have CC := rcheck_c K T C S w1 hS
  clear b0 B0 b1
  obtain ⟨r, hr⟩ : ∃ r, r = ck K T C S.size := ⟨_, rfl⟩
  rw [← hr] at CC
  have HR := hid hr
  clear hr
  go_wp2_with (first
    | fail
    | refine wpList_load_mid rfl 25 (.tmp 2) rfl w.heap.size 0 rfl [.int .i64 K, .int .i64 T, .int .i64 C, .string S] _ (by with_reducible exact r1) Try.underlying25 rfl sizeR4 ?_)
  refine CC.mono ?_
  rintro e w2 ⟨rfl, b2⟩
  have b02 := bchain b01 b2
  have B2 := B1.up b2
  have r2 := B2.range
  obtain ⟨z0, z1, z2, z3⟩ := B2.four
  clear CC r1 b01 b2 B1 y0 y1 y2 y3
  by_cases h0 : r = 0
  · subst h0
    by_cases h20 : 20 < S.size
    · have h' : (20 : Int) < (S.size : Int) := by omega
      go_wp2_with fail
      refine (speaks13_c w2).mono ?_
      rintro e w3 ⟨rfl, b3⟩
      have b4 := bchain b02 b3
      go_wp2
      go_ret
      exact ⟨rfl, b4⟩
    have h' : ¬ (20 : Int) < (S.size : Int) := by omega
    have CC := rencode_c K T C S w2 hS
    go_wp2_with (first
      | fail
      | refine wpList_load_mid rfl 25 (.tmp 2) rfl w.heap.size 0 rfl [.int .i64 K, .int .i64 T, .int .i64 C, .string S] _ (by with_reducible exact r2) Try.underlying25 rfl sizeR4 ?_)
    refine CC.mono ?_
    rintro e w3 ⟨v3, rfl, O3, b3⟩
    obtain ⟨y, hy⟩ : ∃ y : IV, y = ⟨K, T, C, S⟩ := ⟨_, rfl⟩
    have yk : y.k = K := by rw [hy]
    have yt : y.t = T := by rw [hy]
    have yc : y.c = C := by rw [hy]
    have ys : y.s = S := by rw [hy]
    have hok : y.ok := by
      have h1 := HR.out.symm
      rw [← yk, ← yt, ← yc, ← ys] at h1
      exact h1
    have hby : iE K T C S = y.by_ := by rw [← yk, ← yt, ← yc, ← ys]; rfl
    rw [show ck K T C S.size = 0 from HR.out.symm]
    rw [hby] at O3
    have hbl := IV.by_len hok
    have hy20 : y.s.size ≤ 20 := by rw [ys]; omega
    obtain ⟨A1, c1, hv1, hc1, rO, _⟩ := O3.rdB
    obtain ⟨M, hM⟩ : ∃ M, M = y.by_.length := ⟨_, rfl⟩
    rw [← hM] at hv1 hc1 rO hbl
    subst hv1
    have HM := hid hbl
    clear hM hbl
    have b03 := bchain b02 b3
    have B3 := B2.up b3
    obtain ⟨N, hN, hN1⟩ : ∃ N : Nat, (many : Int) % 1100 = (N : Int) ∧ N < 1100 := ⟨many % 1100, by omega, by omega⟩
    rw [hN]
    have HO1 := hid rO
    have HX1 := hid B3
    have hs3 : w.heap.size < w3.heap.size := B3.size
    have hw3 : w.heap.size ≤ w3.heap.size := b03.size
    have HB3 := hid b03
    have HY := hid hy
    have HK := hid yk
    have HT := hid yt
    have HC := hid yc
    have HS := hid ys
    clear CC hy yk yt yc ys HR z0 z1 z2 z3 r2 B2 b02 b3 O3 rO B3 b03 hN hby h' h20
    go_wp2
    go_loopw [8, 9, 39] (fun vb vl i wr => ∃ k : Nat, k ≤ N ∧ i = .int .i64 k ∧ OwnB wr w3.heap.size vb (byS (List.replicate k y)) ∧ OwnV 52 wr w3.heap.size vl (List.replicate k y) ∧ Below w3.heap.size w3 wr) (fun _ _ i _ => N - (intOf i).toNat)
    case atStart => exact ⟨0, by omega, rfl, ownB_nil _ _, ownV_nil _ _ _, Below.refl _ _⟩
    case round =>
      obtain ⟨k, hk, rfl, ob, ov, hb⟩ := hrel
      by_cases hlt : k < N
      · have hsz := hb.size
        have hl1 : (byS (List.replicate k y)).length + M ≤ 1000000 := by
          rw [byS_rep_len hok, HM.out]
          have : k * (8 + y.s.size) ≤ 1100 * 28 := Nat.mul_le_mul (by omega) (by omega)
          omega
        have rO := HO1.out.below hb (Nat.le_refl _)
        have HBy := hid (byS_rep y k)
        have HRp : Hid (List.replicate (k + 1) y = List.replicate k y ++ [y]) := List.replicate_succ'
        have k0 : (0 : Int) ≤ (k : Int) := by omega
        have k1 : (k : Int) < (N : Int) := by omega
        have HOV := hid ov
        have HB := hid hb
        clear ov hb
        go_wp2_with (at_builtin; refine append_rdG rfl (.tmp 41) (.tmp 42) rfl w3.heap.size _ (byS (List.replicate k y)) rfl ob A1 _ c1 _ (y.by_) rO rfl hl1 hsz ?_)
        intro vb' w4 ob4 g4
        have b4 := ob.below (row := none) g4 (Nat.le_refl _) hsz
        have HB4 := hid (HB.out.trans b4)
        have hsz4 := HB4.out.size
        have ov4 := OwnV.keptB ob HOV.out (by decide) g4
        have HOV4 := hid ov4
        have HOB4 := hid ob4
        have B4 : BlkV w4 w.heap.size 25 [.int .i64 K, .int .i64 T, .int .i64 C, .string S] := HX1.out.below HB4.out hs3
        have HR4 := hid B4.range
        clear ob4 ov4 g4 b4 HB HOV ob rO B4
        go_wp2_with (first
          | fail
          | refine wpList_load_mid rfl 25 (.tmp 2) rfl w.heap.size 0 rfl [.int .i64 K, .int .i64 T, .int .i64 C, .string S] _ (by with_reducible exact HR4.out) Try.underlying25 rfl sizeR4 ?_)
        refine (of12_c K T C S w4).mono ?_
        rintro e w5 ⟨rfl, b5⟩
        have b6 : Below w4.heap.size w4 (w5.alloc (.cells #[.int .i64 K, .int .i64 T, .int .i64 C, .string S] 52)) := b5.alloc b5.size _
        have HOV6 := hid (HOV4.out.up b6)
        have HOB6 := hid (HOB4.out.up b6)
        have HB6 := hid (HB4.out.trans (b6.mono hsz4))
        have hsz6 := HB6.out.size
        have hN6 := rdV_new w5 52 y
        rw [HK.out, HT.out, HC.out, HS.out] at hN6
        have HN6 := hid hN6
        have hl2 : (List.replicate k y).length + 1 ≤ 100000 := by rw [List.length_replicate]; omega
        clear hN6 b5 b6 HOV4 HOB4 HB4 HR4
        go_wp2_with (at_builtin; refine append_itemsG itI rfl (.tmp 44) (.tmp 47) rfl w3.heap.size _ (List.replicate k y) rfl HOV6.out (some ⟨w5.heap.size, 0, none⟩) 1 1 _ [y] HN6.out rfl hl2 hsz6 ?_)
        intro vl' w7 ov7 g7
        have HB7 := hid (HB6.out.trans (HOV6.out.below g7 (Nat.le_refl _) hsz6))
        have ob7 := HOB6.out.keptV HOV6.out (by decide) g7
        have HOB7 := hid ob7
        have HOV7 := hid ov7
        clear ob7 ov7 g7 HN6 HOB6 HOV6 HB6
        go_wp2
        go_roundw
        case rel => exact ⟨k + 1, by omega, by go_num, by rw [HBy.out]; exact HOB7.out, by rw [HRp.out]; exact HOV7.out, HB7.out⟩
        case measure => simp [intOf]; omega
      · obtain rfl : k = N := by omega
        have hLl : (List.replicate k y).length = k := List.length_replicate ..
        have hLb := byS_rep_len hok k
        have hLok := rep_ok hok k
        have hLs : ∀ x ∈ List.replicate k y, x.s.size ≤ 9223372036854775807 := fun x hx => IV.size_ok (hLok x hx)
        have hLb6 : (byS (List.replicate k y)).length ≤ 1000000 := by
          rw [hLb]
          have : k * (8 + y.s.size) ≤ 1100 * 28 := Nat.mul_le_mul (by omega) (by omega)
          omega
        obtain ⟨AB, cB, hv, hcB, rB, _⟩ := ob.rdB
        obtain ⟨m, hmm⟩ : ∃ m, m = (byS (List.replicate k y)).length := ⟨_, rfl⟩
        rw [← hmm] at hv hcB rB hLb6
        subst hv
        obtain ⟨AL, cL, hv, hcL, rL, _⟩ := ov.rd
        rw [hLl] at hv hcL rL
        subst hv
        obtain ⟨L, hL⟩ : ∃ L, L = List.replicate k y := ⟨_, rfl⟩
        rw [← hL] at rB rL hLok hLs hLl
        have b0w := HB3.out.trans (hb.mono hw3)
        have CC := parse_c AB m cB (byS L) wr rB (Nat.le_refl _) hcB hLb6
        clear ob ov hb hL hLb hmm
        go_wp2_with fail
        refine CC.mono ?_
        rintro e w4 ⟨i, AP, mP, cP, hi, rfl, rP, hcP, b4⟩
        have b14 := b0w.trans (b4.mono b0w.size)
        have CC := ser_c AL _ cL L w4 (rL.up b4 (Nat.le_refl _)) (Nat.le_refl _) (by omega) hLs
        have rB4 := rB.up b4 (Nat.le_refl _)
        have rmP := rP.len
        clear rB rL b0w b4
        go_wp2_with fail
        refine CC.mono ?_
        rintro e w5 ⟨j, AS, mS, cS, hj, rfl, rS, hcS, b5⟩
        have b15 := b14.trans (b5.mono b14.size)
        have rB5 := rB4.up b5 (Nat.le_refl _)
        have rmS := rS.len
        clear CC b14 b5 rB4 rP
        by_cases h1024 : 1024 < k
        · obtain ⟨d1, d2, d3, d4⟩ := pEnd_long hLok (by omega)
          obtain ⟨f1, f2, f3, f4⟩ := sEnd_long hLok (by omega)
          obtain rfl := hi.uniq d1
          obtain rfl := hj.uniq f1
          rw [d4] at rmP
          rw [f4] at rmS
          obtain rfl : 0 = mP := rmP
          obtain rfl : 0 = mS := rmS
          rw [d2, d3, f2, f3]
          have h' : (1024 : Int) < (k : Int) := by omega
          clear hi hj d1 d2 d3 d4 f1 f2 f3 f4 rS rB5
          go_wp2
          go_ret
          exact ⟨rfl, b15⟩
        · obtain ⟨d1, d2, d3, d4⟩ := pEnd_byS hLok (by omega)
          have f1 := sEnd_all hLok (by omega)
          obtain ⟨f2, f3, f4⟩ := s_end L
          obtain rfl := hi.uniq d1
          obtain rfl := hj.uniq f1
          rw [d4, hLl] at rmP
          subst rmP
          rw [d2, d3, f2, f3]
          rw [f4] at rS
          have h' : ¬ (1024 : Int) < (k : Int) := by omega
          have V1 := conv_s rS cS
          have V2 := conv_s rB5 cB
          have EE : ((sb (byS L)).toList == (sb (byS L)).toList) = true := by simp
          clear hi hj d1 d2 d3 d4 f1 f2 f3 f4 rS rB5 rmS
          go_wp2
          go_ret
          exact ⟨rfl, b15⟩
  · have hri : (((r : Nat) : Int) != 0) = true := by simp; omega
    go_wp2_with fail
    refine (speaks13_c w2).mono ?_
    rintro e w3 ⟨rfl, b3⟩
    have b4 := bchain b02 b3
    go_wp2
    go_ret
    exact ⟨rfl, b4⟩
end Go.Proofs.Ytokfldecjknamaa
