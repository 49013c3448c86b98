/-
  pattern.Serialise, avouchref13.Serialise: what each call does.
-/
import Derived.Test.YtokfldecjknamaaPtD
namespace Go.Proofs.Ytokfldecjknamaa
open Go.RowKit
set_option linter.unusedVariables false
set_option linter.unusedSimpArgs false

/-- What is wrong with the j-th item, and what Serialise answers. -/
def enE (j : Nat) (y : IV) : Nat := if 1024 ≤ j then 9 else y.err
def sE (l : List IV) (j : Nat) : Nat := if h : j < l.length then enE j l[j] else 0
def sAt (l : List IV) (j : Nat) : Int := if j < l.length then (j : Int) else -1
def sB (l : List IV) (j : Nat) : List Nat := if j < l.length then [] else byS l
/-- Reading items ends at j. -/
structure SEnd (l : List IV) (j : Nat) : Prop where
  lo : ∀ i, i < j → sGoes l i
  hi : ¬ sGoes l j
theorem SEnd.uniq {l : List IV} {i j : Nat} (h : SEnd l i) (k : SEnd l j) : i = j := sGoes_end h.lo h.hi k.lo k.hi
theorem sE_at {l : List IV} {j : Nat} (h : j < l.length) : sE l j = enE j l[j] := by unfold sE; rw [dif_pos h]
theorem SEnd.bad {l : List IV} {j : Nat} (h : SEnd l j) (hj : j < l.length) : enE j l[j] ≠ 0 := by
  unfold enE
  split
  · decide
  · intro e
    exact h.hi ⟨hj, by omega, e⟩
theorem sGoes_en {l : List IV} {j : Nat} (hj : j < l.length) (lo : ∀ i, i < j → sGoes l i) : sGoes l j ↔ enE j l[j] = 0 := by
  have h1024 := (byS_take_len lo).2.1
  unfold enE
  constructor
  · rintro ⟨_, b, c⟩
    rw [if_neg (by omega)]
    exact c
  · intro h
    by_cases hh : 1024 ≤ j
    · rw [if_pos hh] at h; cases h
    · rw [if_neg hh] at h; exact ⟨hj, by omega, h⟩
set_option maxRecDepth 20000 in
theorem encode_c (j : Nat) (y : IV) (w : World) (hs : y.s.size ≤ 9223372036854775807) (hj : j ≤ 100000) :
    Calls Try.prog 25 #[.int .i64 (j : Int), .agg #[.int .i64 y.k, .int .i64 y.t, .int .i64 y.c, .string y.s]] w fun e w' => ∃ v, e = .returned (.tuple #[v, .int .i64 (enE j y : Nat)]) ∧ OwnB w' w.heap.size v (if enE j y = 0 then y.by_ else []) ∧ Below w.heap.size w w' := by
  have b1 : Below w.heap.size w (w.alloc (.cells #[.int .i64 y.k, .int .i64 y.t, .int .i64 y.c, .string y.s] 52)) := (Below.refl _ _).alloc (Nat.le_refl _) _
  have j0 : (0 : Int) ≤ (j : Int) := by omega
  go_enter Try.func25, Try.ntmps25
  unfold enE
  by_cases h : 1024 ≤ j
  · rw [if_pos h, if_neg (by decide)]
    have h' : (1024 : Int) ≤ (j : Int) := by omega
    go_wp2
    go_ret2
    exact ⟨_, rfl, ownB_nil _ _, b1⟩
  · rw [if_neg h]
    have hL : (if y.err = 0 then y.by_ else []) = iE y.k y.t y.c y.s := by
      unfold IV.err IV.by_ iE
      split <;> rfl
    rw [hL]
    have h' : ¬ (1024 : Int) ≤ (j : Int) := by omega
    have hsz : w.heap.size ≤ (w.alloc (.cells #[.int .i64 y.k, .int .i64 y.t, .int .i64 y.c, .string y.s] 52)).heap.size := b1.size
    go_wp2_with fail
    refine (iencode_c y.k y.t y.c y.s _ hs).mono ?_
    rintro e w1 ⟨v, rfl, O, b2⟩
    have b3 := bchain b1 b2
    have O2 := O.more hsz
    clear O b2 b1
    go_wp2
    go_ret2
    exact ⟨_, rfl, O2, b3⟩
set_option maxRecDepth 20000 in
set_option maxHeartbeats 1000000 in
theorem ser_c {B : Nat} (A : Option Addr) (n c : Nat) (l : List IV) (w : World) (ha : RdV w B A n l) (hB : B ≤ w.heap.size) (hn : n ≤ 2000) (hz : ∀ y ∈ l, y.s.size ≤ 9223372036854775807) :
    Calls Try.prog 10 #[.slice A n c] w fun e w' => ∃ j A2 m c2, SEnd l j ∧ e = .returned (.tuple #[.slice A2 m c2, .int .i64 (sAt l j), .int .i64 (sE l j : Nat)]) ∧ Rd8 w' w'.heap.size A2 m (sB l j) ∧ m ≤ c2 ∧ Below w.heap.size w w' := by
  have HA := hid ha
  have HZ := hid hz
  have hln := ha.len
  clear ha hz
  go_enter Try.func10, Try.ntmps10
  go_wp2
  go_loopw [5, 12] (fun v i wr => ∃ k : Nat, k ≤ n ∧ i = .int .i64 k ∧ OwnB wr w.heap.size v (byS (l.take k)) ∧ Hid (∀ i, i < k → sGoes l i) ∧ Below w.heap.size w wr) (fun _ i _ => n - (intOf i).toNat)
  case atStart => exact ⟨0, by omega, rfl, by rw [List.take_zero]; exact ownB_nil _ _, hid (fun i hi => absurd hi (by omega)), Below.refl _ _⟩
  case round =>
    obtain ⟨k, hk, rfl, hown, HG, hb⟩ := hrel
    by_cases hlt : k < n
    · have hkl : k < l.length := by omega
      obtain ⟨b, off, rfl, hbB, hc⟩ := (HA.out.below hb hB).at_ hlt
      obtain ⟨y, hy⟩ : ∃ y, y = l[k]'hkl := ⟨_, rfl⟩
      rw [← hy] at hc
      have HR : Hid (wr.rangeAt b (off + k * 4) [.int .i64 y.k, .int .i64 y.t, .int .i64 y.c, .string y.s]) := hc
      have hys : y.s.size ≤ 9223372036854775807 := HZ.out y (by rw [hy]; exact List.getElem_mem _)
      have HT : Hid (byS (l.take (k + 1)) = byS (l.take k) ++ y.by_) := by rw [hy]; exact byS_take l hkl
      obtain ⟨_, h1024, hbl⟩ := byS_take_len HG.out
      have HE := hid (sGoes_en hkl HG.out)
      rw [← hy] at HE
      have HS := hid (sE_at hkl)
      rw [← hy] at HS
      have hat : sAt l k = (k : Int) := by unfold sAt; rw [if_pos hkl]
      have hsB : sB l k = [] := by unfold sB; rw [if_pos hkl]
      have HO := hid hown
      have HB := hid hb
      have k0 : (0 : Int) ≤ (k : Int) := by omega
      have k1 : (k : Int) < (n : Int) := by omega
      clear hc hy hown hb
      go_wp2_with (first
        | fail
        | refine wpList_load_mid rfl 52 (.tmp 15) rfl b (off + k * 4) rfl [.int .i64 y.k, .int .i64 y.t, .int .i64 y.c, .string y.s] _ (by with_reducible exact HR.out) Try.underlying52 rfl sizeI4 ?_)
      refine (encode_c k y _ hys (by omega)).mono ?_
      rintro e w1 ⟨v1, rfl, O1, b1⟩
      have hb0 : Below wr.heap.size wr (wr.alloc (.cells #[.int .i64 y.k, .int .i64 y.t, .int .i64 y.c, .string y.s] 52)) := (Below.refl _ _).alloc (Nat.le_refl _) _
      have hb1 : Below wr.heap.size wr w1 := bchain hb0 b1
      have HB1 := hid (HB.out.trans (hb1.mono HB.out.size))
      have hsz := HB1.out.size
      have HO1 := hid (HO.out.up hb1)
      have O1' : OwnB w1 w.heap.size v1 (if enE k y = 0 then y.by_ else []) := O1.more (Nat.le_trans HB.out.size hb0.size)
      clear HO HB HR b1 hb1 O1 hb0
      by_cases hg : enE k y = 0
      · have HG1 : Hid (∀ i, i < k + 1 → sGoes l i) := fun i hi => by
          rcases Nat.lt_or_ge i k with h | h
          · exact HG.out i h
          · obtain rfl : i = k := by omega
            exact HE.out.2 hg
        have hby : (y.by_).length ≤ 263 := by
          have hok : y.ok := by
            unfold enE at hg
            split at hg
            · cases hg
            · exact hg
          have := (ck_ok (show ck _ _ _ _ = 0 from hok)).2.2.2.2.2.2
          rw [IV.by_len hok]; omega
        rw [if_pos hg] at O1'
        obtain ⟨A1, c1, rfl, hc1, r1, p1⟩ := O1'.rdB
        have hll : (byS (l.take k)).length + (y.by_).length ≤ 1000000 := by omega
        rw [hg]
        clear O1' p1 hg
        go_wp2_with (at_builtin; refine append_rd rfl (.tmp 27) (.tmp 28) rfl w.heap.size _ (byS (l.take k)) rfl HO1.out A1 _ c1 _ (y.by_) r1 rfl hll hsz ?_)
        intro v' w2 O2 b2
        have HO2 := hid O2
        have HB2 := hid (HB1.out.trans b2)
        clear O2 b2 HB1 HO1 r1
        go_wp2
        go_roundw
        case rel => exact ⟨k + 1, by omega, by go_num, by rw [HT.out]; exact HO2.out, HG1, HB2.out⟩
        case measure => simp [intOf]; omega
      · have HN : Hid (SEnd l k) := ⟨HG.out, fun h => hg (HE.out.1 h)⟩
        have hgi : (((enE k y : Nat) : Int) != 0) = true := by simp; omega
        generalize enE k y = r at *
        go_wp2
        go_ret3
        exact ⟨k, none, 0, 0, HN.out, by rw [HS.out, hat]; rfl, by rw [hsB]; exact Rd8.nil _ _ _, Nat.le_refl _, HB1.out⟩
    · obtain rfl : k = n := by omega
      have hend : SEnd l k := ⟨HG.out, fun h => absurd h.choose (by omega)⟩
      have hE : sE l k = 0 := by unfold sE; rw [dif_neg (by omega)]
      have hat : sAt l k = -1 := by unfold sAt; rw [if_neg (by omega)]
      have hsB : sB l k = byS l := by unfold sB; rw [if_neg (by omega)]
      rw [List.take_of_length_le (by omega)] at hown
      obtain ⟨A1, c1, rfl, hc1, r1, p1⟩ := hown.rdB
      have HB := hid hb
      clear hown hb p1
      go_wp2_with fail
      refine (clipB_c A1 _ c1 _ _ r1 hc1).mono ?_
      rintro e w1 ⟨A2, rfl, r2, p2, rfl⟩
      have HR := hid r2
      clear r1 r2 p2
      go_wp2
      go_ret3
      exact ⟨k, A2, _, _, hend, by rw [hE, hat]; rfl, by rw [hsB]; exact HR.out, Nat.le_refl _, HB.out⟩
set_option maxRecDepth 20000 in
set_option maxHeartbeats 1000000 in
theorem rser_c {B : Nat} (A : Option Addr) (n c : Nat) (l : List IV) (w : World) (ha : RdV w B A n l) (hB : B ≤ w.heap.size) (hn : n ≤ 2000) (hz : ∀ y ∈ l, y.s.size ≤ 9223372036854775807) :
    Calls Try.prog 11 #[.slice A n c] w fun e w' => ∃ j A2 m c2, SEnd l j ∧ e = .returned (.tuple #[.slice A2 m c2, .int .i64 (sAt l j), .int .i64 (sE l j : Nat)]) ∧ Rd8 w' w'.heap.size A2 m (sB l j) ∧ m ≤ c2 ∧ Below w.heap.size w w' := by
  have HA := hid ha
  have HZ := hid hz
  have hln := ha.len
  clear ha hz
  go_enter Try.func11, Try.ntmps11
  go_wp2
  go_loopw [5, 6] (fun v i wr => ∃ k : Nat, k ≤ n ∧ i = .int .i64 k ∧ OwnB wr w.heap.size v (byS (l.take k)) ∧ Hid (∀ i, i < k → sGoes l i) ∧ Below w.heap.size w wr) (fun _ i _ => n - (intOf i).toNat)
  case atStart => exact ⟨0, by omega, rfl, by rw [List.take_zero]; exact ownB_empty w, hid (fun i hi => absurd hi (by omega)), (Below.refl _ _).alloc (Nat.le_refl _) _⟩
  case round =>
    obtain ⟨k, hk, rfl, hown, HG, hb⟩ := hrel
    by_cases hlt : k < n
    · have hkl : k < l.length := by omega
      obtain ⟨b, off, rfl, hbB, hc⟩ := (HA.out.below hb hB).at_ hlt
      obtain ⟨y, hy⟩ : ∃ y, y = l[k]'hkl := ⟨_, rfl⟩
      rw [← hy] at hc
      have HR : Hid (wr.rangeAt b (off + k * 4) [.int .i64 y.k, .int .i64 y.t, .int .i64 y.c, .string y.s]) := hc
      have hys : y.s.size ≤ 9223372036854775807 := HZ.out y (by rw [hy]; exact List.getElem_mem _)
      have HT : Hid (byS (l.take (k + 1)) = byS (l.take k) ++ y.by_) := by rw [hy]; exact byS_take l hkl
      obtain ⟨_, h1024, hbl⟩ := byS_take_len HG.out
      have HE := hid (sGoes_en hkl HG.out)
      rw [← hy] at HE
      have HS := hid (sE_at hkl)
      rw [← hy] at HS
      have hat : sAt l k = (k : Int) := by unfold sAt; rw [if_pos hkl]
      have hsB : sB l k = [] := by unfold sB; rw [if_pos hkl]
      have HO := hid hown
      have HB := hid hb
      have k0 : (0 : Int) ≤ (k : Int) := by omega
      have k1 : (k : Int) < (n : Int) := by omega
      clear hc hy hown hb
      by_cases h10 : k = 1024
      · subst h10
        have HN : Hid (SEnd l 1024) := ⟨HG.out, fun h => h.choose_spec.1 rfl⟩
        have hE : sE l 1024 = 9 := HS.out
        go_wp2
        go_ret3
        exact ⟨1024, none, 0, 0, HN.out, by rw [hE, hat]; rfl, by rw [hsB]; exact Rd8.nil _ _ _, Nat.le_refl _, HB.out⟩
      have hki : ¬ (k : Int) = 1024 := by omega
      have hkn : ¬ 1024 ≤ k := by omega
      have hen : enE k y = y.err := by unfold enE; rw [if_neg hkn]
      go_wp2_with (first
        | fail
        | refine wpList_load_mid rfl 25 (.tmp 22) rfl b (off + k * 4) rfl [.int .i64 y.k, .int .i64 y.t, .int .i64 y.c, .string y.s] _ (by with_reducible exact HR.out) Try.underlying25 rfl sizeR4 ?_)
      refine (rencode_c y.k y.t y.c y.s _ hys).mono ?_
      rintro e w1 ⟨v1, rfl, O1, b1⟩
      have hb1 : Below wr.heap.size wr w1 := b1
      have HB1 := hid (HB.out.trans (hb1.mono HB.out.size))
      have hsz := HB1.out.size
      have HO1 := hid (HO.out.up hb1)
      have O1' : OwnB w1 w.heap.size v1 (iE y.k y.t y.c y.s) := O1.more HB.out.size
      rw [show ck y.k y.t y.c y.s.size = enE k y from hen.symm]
      clear HO HB HR b1 hb1 O1
      by_cases hg : enE k y = 0
      · have HG1 : Hid (∀ i, i < k + 1 → sGoes l i) := fun i hi => by
          rcases Nat.lt_or_ge i k with h | h
          · exact HG.out i h
          · obtain rfl : i = k := by omega
            exact HE.out.2 hg
        have hby : (y.by_).length ≤ 263 := by
          obtain ⟨_, _, q⟩ := byS_take_len HG1.out
          have := hid HG1
          have hok : y.ok := by have h1 := hen; rw [hg] at h1; exact h1.symm
          have := (ck_ok (show ck _ _ _ _ = 0 from hok)).2.2.2.2.2.2
          rw [IV.by_len hok]; omega
        obtain ⟨A1, c1, rfl, hc1, r1, p1⟩ := O1'.rdB
        have r1 : Rd8 w1 w1.heap.size A1 (iE y.k y.t y.c y.s).length (y.by_) := r1
        have hll : (byS (l.take k)).length + (iE y.k y.t y.c y.s).length ≤ 1000000 := by
          have : (iE y.k y.t y.c y.s).length ≤ 263 := hby
          omega
        rw [hg]
        clear O1' p1 hg
        go_wp2_with (at_builtin; refine append_rd rfl (.tmp 31) (.tmp 32) rfl w.heap.size _ (byS (l.take k)) rfl HO1.out A1 _ c1 _ (y.by_) r1 rfl hll hsz ?_)
        intro v' w2 O2 b2
        have HO2 := hid O2
        have HB2 := hid (HB1.out.trans b2)
        clear O2 b2 HB1 HO1 r1
        go_wp2
        go_roundw
        case rel => exact ⟨k + 1, by omega, by go_num, by rw [HT.out]; exact HO2.out, HG1, HB2.out⟩
        case measure => simp [intOf]; omega
      · have HN : Hid (SEnd l k) := ⟨HG.out, fun h => hg (HE.out.1 h)⟩
        have hgi : (((enE k y : Nat) : Int) != 0) = true := by simp; omega
        clear hen
        generalize enE k y = r at *
        go_wp2
        go_ret3
        exact ⟨k, none, 0, 0, HN.out, by rw [HS.out, hat]; rfl, by rw [hsB]; exact Rd8.nil _ _ _, Nat.le_refl _, HB1.out⟩
    · obtain rfl : k = n := by omega
      have hend : SEnd l k := ⟨HG.out, fun h => absurd h.choose (by omega)⟩
      have hE : sE l k = 0 := by unfold sE; rw [dif_neg (by omega)]
      have hat : sAt l k = -1 := by unfold sAt; rw [if_neg (by omega)]
      have hsB : sB l k = byS l := by unfold sB; rw [if_neg (by omega)]
      rw [List.take_of_length_le (by omega)] at hown
      obtain ⟨A1, c1, rfl, hc1, r1, p1⟩ := hown.rdB
      have HR := hid r1
      have HB := hid hb
      clear hown hb r1 p1
      go_wp2
      go_ret3
      exact ⟨k, A1, _, c1, hend, by rw [hE, hat]; rfl, by rw [hsB]; exact HR.out, hc1, HB.out⟩
end Go.Proofs.Ytokfldecjknamaa
