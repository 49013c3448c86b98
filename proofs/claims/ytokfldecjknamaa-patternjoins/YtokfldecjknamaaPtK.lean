/-
  slices.EqualFunc over items, pattern.Prefix, avouchref13.Prefix, avouchref13.Same: what each call does.
-/
import Derived.Test.YtokfldecjknamaaPtH
namespace Go.Proofs.Ytokfldecjknamaa
open Go.RowKit
set_option linter.unusedVariables false
set_option linter.unusedSimpArgs false

theorem sameB_dec (x y : IV) : sameB x y = decide (x.k = y.k ∧ x.t = y.t ∧ x.c = y.c) := by
  unfold sameB
  by_cases h1 : x.k = y.k <;> by_cases h2 : x.t = y.t <;> by_cases h3 : x.c = y.c <;> simp [h1, h2, h3]
theorem sameV_c (x y : IV) (w : World) : Calls Try.prog 36 #[.agg #[.int .i64 x.k, .int .i64 x.t, .int .i64 x.c, .string x.s], .agg #[.int .i64 y.k, .int .i64 y.t, .int .i64 y.c, .string y.s]] w fun e w' => e = .returned (.bool (sameB x y)) ∧ Below w.heap.size w w' := by
  rw [sameB_dec]
  exact same12_c x.k x.t x.c x.s y.k y.t y.c y.s w
theorem rsameV_c (x y : IV) (w : World) : Calls Try.prog 37 #[.agg #[.int .i64 x.k, .int .i64 x.t, .int .i64 x.c, .string x.s], .agg #[.int .i64 y.k, .int .i64 y.t, .int .i64 y.c, .string y.s]] w fun e w' => e = .returned (.bool (sameB x y)) ∧ Below w.heap.size w w' := by
  rw [sameB_dec]
  exact rsame_c x.k x.t x.c x.s y.k y.t y.c y.s w
theorem preB_takeL : ∀ (l m : List IV), preB (l.take m.length) m = preB l m
  | l, [] => by rw [preB_nil, preB_nil]
  | [], y :: m => by rw [List.take_nil]
  | x :: l, y :: m => by
    show (sameB x y && preB (l.take m.length) m) = (sameB x y && preB l m)
    rw [preB_takeL l m]
theorem preB_len : ∀ (l m : List IV), l.length < m.length → preB l m = false
  | l, [], h => absurd h (Nat.not_lt_zero _)
  | [], y :: m, _ => rfl
  | x :: l, y :: m, h => by
    show (sameB x y && preB l m) = false
    rw [preB_len l m (by simpa using h), Bool.and_false]
theorem rangeAt_below {w v : World} {B b o : Nat} {xs : List Value} (h : w.rangeAt b o xs) (hb : Below B w v) (hB : b < B) : v.rangeAt b o xs := fun j u hj => (hb.cell (p := ⟨b, o + j, none⟩) hB).trans (h j u hj)
set_option maxRecDepth 20000 in
set_option maxHeartbeats 2000000 in
theorem equalV_c {B : Nat} (A : Option Addr) (n c : Nat) (l : List IV) (A' : Option Addr) (c' : Nat) (m : List IV) (w : World) (ha : RdV w B A n l) (ha' : RdV w B A' n m) (hB : B ≤ w.heap.size) (hn : n ≤ 2000) :
    Calls Try.prog 35 #[.slice A n c, .slice A' n c', .func (.func 36) #[] #[]] w fun e w' => e = .returned (.bool (preB l m)) ∧ Below w.heap.size w w' := by
  have HA := hid ha
  have HA' := hid ha'
  have hln := ha.len
  have hlm := ha'.len
  clear ha ha'
  go_enter Try.func35, Try.ntmps35
  go_wp2
  go_loopw [17] (fun i wr => ∃ k : Nat, k ≤ n ∧ i = .int .i64 k ∧ Hid (preB l m = preB (l.drop k) (m.drop k)) ∧ Below w.heap.size w wr) (fun i _ => n - (intOf i).toNat)
  case atStart => exact ⟨0, by omega, rfl, hid (by rw [List.drop_zero, List.drop_zero]), Below.refl _ _⟩
  case round =>
    obtain ⟨k, hk, rfl, HZ, hb⟩ := hrel
    by_cases hlt : k < n
    · have hkl : k < l.length := by omega
      have hkm : k < m.length := by omega
      obtain ⟨b, off, rfl, hbB, hc⟩ := (HA.out.below hb hB).at_ hlt
      obtain ⟨b2, off2, rfl, hbB2, hc2⟩ := (HA'.out.below hb hB).at_ hlt
      obtain ⟨x, hx⟩ : ∃ x, x = l[k]'hkl := ⟨_, rfl⟩
      obtain ⟨y, hy⟩ : ∃ y, y = m[k]'hkm := ⟨_, rfl⟩
      have hS := preB_step l m hkm hkl
      rw [← hx] at hc hS
      rw [← hy] at hc2 hS
      rw [← HZ.out] at hS
      have HS := hid hS
      have HR : Hid (wr.rangeAt b (off + k * 4) [.int .i64 x.k, .int .i64 x.t, .int .i64 x.c, .string x.s]) := hc
      have bX : Below wr.heap.size wr (wr.alloc (.cells #[.int .i64 x.k, .int .i64 x.t, .int .i64 x.c, .string x.s] 52)) := (Below.refl _ _).alloc (Nat.le_refl _) _
      have HR2 : Hid ((wr.alloc (.cells #[.int .i64 x.k, .int .i64 x.t, .int .i64 x.c, .string x.s] 52)).rangeAt b2 (off2 + k * 4) [.int .i64 y.k, .int .i64 y.t, .int .i64 y.c, .string y.s]) := hid (rangeAt_below hc2 bX (Nat.lt_of_lt_of_le hbB2 (Nat.le_trans hB hb.size)))
      have hs1 : (wr.alloc (.cells #[.int .i64 x.k, .int .i64 x.t, .int .i64 x.c, .string x.s] 52)).heap.size = wr.heap.size + 1 := by simp
      have bY : Below wr.heap.size wr ((wr.alloc (.cells #[.int .i64 x.k, .int .i64 x.t, .int .i64 x.c, .string x.s] 52)).alloc (.cells #[.int .i64 y.k, .int .i64 y.t, .int .i64 y.c, .string y.s] 52)) := bX.alloc bX.size _
      have HX := hid ((BlkV.new wr 52 [.int .i64 x.k, .int .i64 x.t, .int .i64 x.c, .string x.s]).up ((Below.refl _ _).alloc (Nat.le_refl _) (.cells #[.int .i64 y.k, .int .i64 y.t, .int .i64 y.c, .string y.s] 52))).range
      have hYb := BlkV.new (wr.alloc (.cells #[.int .i64 x.k, .int .i64 x.t, .int .i64 x.c, .string x.s] 52)) 52 [.int .i64 y.k, .int .i64 y.t, .int .i64 y.c, .string y.s]
      rw [hs1] at hYb
      have HY := hid hYb.range
      have HB := hid hb
      have k0 : (0 : Int) ≤ (k : Int) := by omega
      have k1 : (k : Int) < (n : Int) := by omega
      clear hc hc2 hx hy hb hS HZ hYb bX
      go_wp2_with (first
        | fail
        | refine wpList_load_mid rfl 52 (.tmp 20) rfl b (off + k * 4) rfl [.int .i64 x.k, .int .i64 x.t, .int .i64 x.c, .string x.s] _ (by with_reducible exact HR.out) Try.underlying52 rfl sizeI4 ?_
        | refine wpList_load_mid rfl 52 (.tmp 24) rfl b2 (off2 + k * 4) rfl [.int .i64 y.k, .int .i64 y.t, .int .i64 y.c, .string y.s] _ (by with_reducible exact HR2.out) Try.underlying52 rfl sizeI4 ?_
        | refine wpList_load_mid rfl 52 (.tmp 8) rfl wr.heap.size 0 rfl [.int .i64 x.k, .int .i64 x.t, .int .i64 x.c, .string x.s] _ (by with_reducible exact HX.out) Try.underlying52 rfl sizeI4 ?_
        | refine wpList_load_mid rfl 52 (.tmp 9) rfl (wr.heap.size + 1) 0 rfl [.int .i64 y.k, .int .i64 y.t, .int .i64 y.c, .string y.s] _ (by with_reducible exact HY.out) Try.underlying52 rfl sizeI4 ?_)
      refine (sameV_c x y _).mono ?_
      rintro e w1 ⟨rfl, b1⟩
      have b3 := bchain bY b1
      have HB1 := hid (HB.out.trans (b3.mono HB.out.size))
      clear b1 b3 bY HB HR HR2 HX HY hs1
      by_cases hz : sameB x y = true
      · have HP : Hid (preB l m = preB (l.drop (k + 1)) (m.drop (k + 1))) := by have := HS.out; rw [hz, Bool.true_and] at this; exact this
        rw [hz]
        clear hz HS
        go_wp2
        go_roundw
        case rel => exact ⟨k + 1, by omega, by go_num, HP, HB1.out⟩
        case measure => simp [intOf]; omega
      · have hz : sameB x y = false := by simpa using hz
        have HP : Hid (preB l m = false) := by have := HS.out; rw [hz, Bool.false_and] at this; exact this
        rw [hz]
        clear hz HS
        go_wp2
        go_ret
        exact ⟨by rw [HP.out]; rfl, HB1.out⟩
    · obtain rfl : k = n := by omega
      have HP : Hid (preB l m = true) := by have := HZ.out; rw [preB_end l m (by omega)] at this; exact this
      have HB := hid hb
      clear hb HZ
      go_wp2
      go_ret
      exact ⟨by rw [HP.out]; rfl, HB.out⟩
set_option maxRecDepth 20000 in
theorem prefix_c {B : Nat} (A : Option Addr) (n c : Nat) (l : List IV) (A' : Option Addr) (n' c' : Nat) (m : List IV) (w : World) (ha : RdV w B A n l) (hc : n ≤ c) (ha' : RdV w B A' n' m) (hB : B ≤ w.heap.size) (hn : n' ≤ 2000) :
    Calls Try.prog 23 #[.slice A n c, .slice A' n' c'] w fun e w' => e = .returned (.bool (preB l m)) ∧ Below w.heap.size w w' := by
  have hln := ha.len
  have hlm := ha'.len
  by_cases h : n' ≤ n
  · have h' : (n' : Int) ≤ (n : Int) := by omega
    obtain ⟨A2, s2, r2⟩ := cutV_h ha c n' h hc (n' : Int) rfl
    have C := equalV_c A2 n' c (l.take n') A' c' m w r2 ha' hB hn
    rw [show l.take n' = l.take m.length by rw [hlm], preB_takeL] at C
    go_enter Try.func23, Try.ntmps23
    go_wp2_with fail
    refine C.mono ?_
    rintro e w1 ⟨rfl, b1⟩
    clear C
    go_wp2
    go_ret
    exact ⟨rfl, b1⟩
  · have h' : ¬ (n' : Int) ≤ (n : Int) := by omega
    have hp := preB_len l m (by omega)
    rw [hp]
    go_enter Try.func23, Try.ntmps23
    go_wp2
    go_ret
    exact ⟨rfl, Below.refl _ _⟩
set_option maxRecDepth 20000 in
set_option maxHeartbeats 2000000 in
theorem rprefix_c {B : Nat} (A : Option Addr) (n c : Nat) (l : List IV) (A' : Option Addr) (n' c' : Nat) (m : List IV) (w : World) (ha : RdV w B A n l) (ha' : RdV w B A' n' m) (hB : B ≤ w.heap.size) (hn : n ≤ 2000) (hn' : n' ≤ 2000) :
    Calls Try.prog 24 #[.slice A n c, .slice A' n' c'] w fun e w' => e = .returned (.bool (preB l m)) ∧ Below w.heap.size w w' := by
  have HA := hid ha
  have HA' := hid ha'
  have hln := ha.len
  have hlm := ha'.len
  clear ha ha'
  go_enter Try.func24, Try.ntmps24
  go_wp2
  go_loopw [5] (fun i wr => ∃ k : Nat, k ≤ n' ∧ i = .int .i64 k ∧ Hid (preB l m = preB (l.drop k) (m.drop k)) ∧ Below w.heap.size w wr) (fun i _ => n' - (intOf i).toNat)
  case atStart => exact ⟨0, by omega, rfl, hid (by rw [List.drop_zero, List.drop_zero]), Below.refl _ _⟩
  case round =>
    obtain ⟨k, hk, rfl, HZ, hb⟩ := hrel
    by_cases hlt : k < n'
    · have k0 : (0 : Int) ≤ (k : Int) := by omega
      have k1 : (k : Int) < (n' : Int) := by omega
      by_cases hkn : k < n
      · have hkl : k < l.length := by omega
        have hkm : k < m.length := by omega
        obtain ⟨b, off, rfl, hbB, hc⟩ := (HA.out.below hb hB).at_ hkn
        obtain ⟨b2, off2, rfl, hbB2, hc2⟩ := (HA'.out.below hb hB).at_ hlt
        obtain ⟨x, hx⟩ : ∃ x, x = l[k]'hkl := ⟨_, rfl⟩
        obtain ⟨y, hy⟩ : ∃ y, y = m[k]'hkm := ⟨_, rfl⟩
        have hS := preB_step l m hkm hkl
        rw [← hx] at hc hS
        rw [← hy] at hc2 hS
        rw [← HZ.out] at hS
        have HS := hid hS
        have S1 : wr.rangeAt b (off + k * 4) [.int .i64 x.k, .int .i64 x.t, .int .i64 x.c, .string x.s] ∧ wr.rangeAt b2 (off2 + k * 4) [.int .i64 y.k, .int .i64 y.t, .int .i64 y.c, .string y.s] := ⟨hc, hc2⟩
        have HB := hid hb
        have k2 : decide ((n : Int) ≤ (k : Int)) = false := decide_eq_false (by omega)
        have k4 : decide (n ≤ k) = false := decide_eq_false (by omega)
        have k3 : (k : Int) < (n : Int) := by omega
        clear hc hc2 hx hy hb hS HZ
        go_wp2
        obtain ⟨w2, hw2⟩ : ∃ x, x = wr.drew := ⟨_, rfl⟩
        have b2r : Below wr.heap.size wr w2 := hw2 ▸ (Below.refl _ _).drew
        have HB2 := hid (HB.out.trans (b2r.mono HB.out.size))
        have S2 : w2.rangeAt b (off + k * 4) [.int .i64 x.k, .int .i64 x.t, .int .i64 x.c, .string x.s] ∧ w2.rangeAt b2 (off2 + k * 4) [.int .i64 y.k, .int .i64 y.t, .int .i64 y.c, .string y.s] := ⟨rangeAt_below S1.1 b2r (Nat.lt_of_lt_of_le hbB (Nat.le_trans hB HB.out.size)), rangeAt_below S1.2 b2r (Nat.lt_of_lt_of_le hbB2 (Nat.le_trans hB HB.out.size))⟩
        refine wp_region_held_drew (S := fun v => v.rangeAt b (off + k * 4) [.int .i64 x.k, .int .i64 x.t, .int .i64 x.c, .string x.s] ∧ v.rangeAt b2 (off2 + k * 4) [.int .i64 y.k, .int .i64 y.t, .int .i64 y.c, .string y.s]) (by kernel_rfl) (by rw [← hw2]; exact S2) (fun hHeld => ?_)
        rw [← hw2] at *
        refine wpAnyH_take (i := 0) (v := ?_) rfl (by kernel_rfl) (by kernel_rfl) (by kernel_rfl) (fun _ _ _ h => h) (Or.inl ⟨by rfl, fun v hv => ?_⟩) (by with_reducible assumption) ?_
        rotate_left
        · go_simp
          try with_reducible rfl
        simp only [Act.put, List.setIfInBounds_toArray, List.set_cons_zero, List.set_cons_succ, List.getElem_toArray, List.getElem_cons_zero, List.getElem_cons_succ]
        refine wpAnyH_take (i := 1) (v := ?_) rfl (by kernel_rfl) (by kernel_rfl) (by kernel_rfl) (fun _ _ _ h => h) (Or.inl ⟨by rfl, fun v hv => ?_⟩) (by with_reducible assumption) ?_
        rotate_left
        · go_simp
          try with_reducible rfl
        simp only [Act.put, List.setIfInBounds_toArray, List.set_cons_zero, List.set_cons_succ, List.getElem_toArray, List.getElem_cons_zero, List.getElem_cons_succ]
        refine wpAnyH_take (i := 2) (v := ?_) rfl (by kernel_rfl) (by kernel_rfl) (by kernel_rfl) (fun _ _ _ h => h) (Or.inl ⟨by rfl, fun v hv => ?_⟩) (by with_reducible assumption) ?_
        rotate_left
        · go_simp
          try with_reducible rfl
        simp only [Act.put, List.setIfInBounds_toArray, List.set_cons_zero, List.set_cons_succ, List.getElem_toArray, List.getElem_cons_zero, List.getElem_cons_succ]
        refine wpAnyH_take (i := 3) (v := ?_) rfl (by kernel_rfl) (by kernel_rfl) (by kernel_rfl) (fun _ _ _ h => h) (Or.inl ⟨by rfl, fun v hv => ?_⟩) (by with_reducible assumption) ?_
        rotate_left
        · go_simp
          try with_reducible rfl
        simp only [Act.put, List.setIfInBounds_toArray, List.set_cons_zero, List.set_cons_succ, List.getElem_toArray, List.getElem_cons_zero, List.getElem_cons_succ]
        refine wpAnyH_take (i := 4) (v := ?_) rfl (by kernel_rfl) (by kernel_rfl) (by kernel_rfl) (fun _ _ _ h => h) (Or.inl ⟨by rfl, fun v hv => ?_⟩) (by with_reducible assumption) ?_
        rotate_left
        · go_simp
          try with_reducible rfl
        simp only [Act.put, List.setIfInBounds_toArray, List.set_cons_zero, List.set_cons_succ, List.getElem_toArray, List.getElem_cons_zero, List.getElem_cons_succ]
        refine wpAnyH_take (i := 5) (v := ?_) rfl (by kernel_rfl) (by kernel_rfl) (by kernel_rfl) (fun _ _ _ h => h) (Or.inl ⟨by rfl, fun v hv => ?_⟩) (by with_reducible assumption) ?_
        rotate_left
        · go_simp
          try with_reducible rfl
        simp only [Act.put, List.setIfInBounds_toArray, List.set_cons_zero, List.set_cons_succ, List.getElem_toArray, List.getElem_cons_zero, List.getElem_cons_succ]
        refine wpAnyH_take (i := 6) (v := ?_) rfl (by kernel_rfl) (by kernel_rfl) (by kernel_rfl) (fun _ _ _ h => h) (Or.inl ⟨by rfl, fun v hv => ?_⟩) (by with_reducible assumption) ?_
        rotate_left
        · go_simp
          try with_reducible rfl
        simp only [Act.put, List.setIfInBounds_toArray, List.set_cons_zero, List.set_cons_succ, List.getElem_toArray, List.getElem_cons_zero, List.getElem_cons_succ]
        refine wpAnyH_take (i := 7) (v := ?_) rfl (by kernel_rfl) (by kernel_rfl) (by kernel_rfl) (fun _ _ _ h => h) (Or.inl ⟨by rfl, fun v hv => ?_⟩) (by with_reducible assumption) ?_
        rotate_left
        · go_simp
          try with_reducible rfl
        simp only [Act.put, List.setIfInBounds_toArray, List.set_cons_zero, List.set_cons_succ, List.getElem_toArray, List.getElem_cons_zero, List.getElem_cons_succ]
        refine wpAnyH_take (i := 8) (v := .agg ([.int .i64 x.k, .int .i64 x.t, .int .i64 x.c, .string x.s]).toArray) rfl (by kernel_rfl) (by kernel_rfl) (by kernel_rfl) (fun _ _ _ h => h) (yieldsIf_load_mid (by rfl) 25 (.tmp 19) rfl b (off + k * 4) rfl ([.int .i64 x.k, .int .i64 x.t, .int .i64 x.c, .string x.s]) _ (fun v hv => hv.1) Try.underlying25 rfl sizeR4) (by with_reducible assumption) ?_
        simp only [Act.put, List.setIfInBounds_toArray, List.set_cons_zero, List.set_cons_succ, List.getElem_toArray, List.getElem_cons_zero, List.getElem_cons_succ]
        refine wpAnyH_take (i := 9) (v := ?_) rfl (by kernel_rfl) (by kernel_rfl) (by kernel_rfl) (fun _ _ _ h => h) (Or.inl ⟨by rfl, fun v hv => ?_⟩) (by with_reducible assumption) ?_
        rotate_left
        · go_simp
          try with_reducible rfl
        simp only [Act.put, List.setIfInBounds_toArray, List.set_cons_zero, List.set_cons_succ, List.getElem_toArray, List.getElem_cons_zero, List.getElem_cons_succ]
        refine wpAnyH_take (i := 10) (v := ?_) rfl (by kernel_rfl) (by kernel_rfl) (by kernel_rfl) (fun _ _ _ h => h) (Or.inl ⟨by rfl, fun v hv => ?_⟩) (by with_reducible assumption) ?_
        rotate_left
        · go_simp
          try with_reducible rfl
        simp only [Act.put, List.setIfInBounds_toArray, List.set_cons_zero, List.set_cons_succ, List.getElem_toArray, List.getElem_cons_zero, List.getElem_cons_succ]
        refine wpAnyH_take (i := 11) (v := ?_) rfl (by kernel_rfl) (by kernel_rfl) (by kernel_rfl) (fun _ _ _ h => h) (Or.inl ⟨by rfl, fun v hv => ?_⟩) (by with_reducible assumption) ?_
        rotate_left
        · go_simp
          try with_reducible rfl
        simp only [Act.put, List.setIfInBounds_toArray, List.set_cons_zero, List.set_cons_succ, List.getElem_toArray, List.getElem_cons_zero, List.getElem_cons_succ]
        refine wpAnyH_take (i := 12) (v := .agg ([.int .i64 y.k, .int .i64 y.t, .int .i64 y.c, .string y.s]).toArray) rfl (by kernel_rfl) (by kernel_rfl) (by kernel_rfl) (fun _ _ _ h => h) (yieldsIf_load_mid (by rfl) 25 (.tmp 23) rfl b2 (off2 + k * 4) rfl ([.int .i64 y.k, .int .i64 y.t, .int .i64 y.c, .string y.s]) _ (fun v hv => hv.2) Try.underlying25 rfl sizeR4) (by with_reducible assumption) ?_
        simp only [Act.put, List.setIfInBounds_toArray, List.set_cons_zero, List.set_cons_succ, List.getElem_toArray, List.getElem_cons_zero, List.getElem_cons_succ]
        refine wpAnyH_ready (rs := [13]) (by kernel_rfl) (by simp) ?_
        refine AllReadyH.cons rfl (fun KK hK => ?_) AllReadyH.nil
        go_simp
        go_at_call 37
        with_reducible refine (rsameV_c x y w2).mono ?_
        rintro e w3 ⟨rfl, b3⟩
        have HB3 := hid (HB2.out.trans (b3.mono HB2.out.size))
        have S3 : w3.rangeAt b (off + k * 4) [.int .i64 x.k, .int .i64 x.t, .int .i64 x.c, .string x.s] ∧ w3.rangeAt b2 (off2 + k * 4) [.int .i64 y.k, .int .i64 y.t, .int .i64 y.c, .string y.s] := ⟨rangeAt_below S2.1 b3 (Nat.lt_of_lt_of_le hbB (Nat.le_trans hB HB2.out.size)), rangeAt_below S2.2 b3 (Nat.lt_of_lt_of_le hbB2 (Nat.le_trans hB HB2.out.size))⟩
        dsimp only
        refine hK.out _ _ S3 (fun hHeld => ?_)
        clear hK KK
        try simp only [Act.put, List.setIfInBounds_toArray, List.set_cons_zero, List.set_cons_succ, List.getElem_toArray, List.getElem_cons_zero, List.getElem_cons_succ]
        refine wpAnyH_take (i := 14) (v := ?_) rfl (by kernel_rfl) (by kernel_rfl) (by kernel_rfl) (fun _ _ _ h => h) (Or.inl ⟨by rfl, fun v hv => ?_⟩) (by with_reducible assumption) ?_
        rotate_left
        · go_simp
          try with_reducible rfl
        simp only [Act.put, List.setIfInBounds_toArray, List.set_cons_zero, List.set_cons_succ, List.getElem_toArray, List.getElem_cons_zero, List.getElem_cons_succ]
        refine wpAnyH_take (i := 15) (v := ?_) rfl (by kernel_rfl) (by kernel_rfl) (by kernel_rfl) (fun _ _ _ h => h) (Or.inl ⟨by rfl, fun v hv => ?_⟩) (by with_reducible assumption) ?_
        rotate_left
        · go_simp
          try with_reducible rfl
        simp only [Act.put, List.setIfInBounds_toArray, List.set_cons_zero, List.set_cons_succ, List.getElem_toArray, List.getElem_cons_zero, List.getElem_cons_succ]
        refine wpAnyH_done (by kernel_rfl) ?_ _
        clear hHeld S3 b3 S2 S1 HB HB2 b2r hw2
        by_cases hz : sameB x y = true
        · have HP : Hid (preB l m = preB (l.drop (k + 1)) (m.drop (k + 1))) := by have := HS.out; rw [hz, Bool.true_and] at this; exact this
          rw [hz]
          clear hz HS
          go_wp2
          go_roundw
          case rel => exact ⟨k + 1, by omega, by go_num, HP, HB3.out⟩
          case measure => simp [intOf]; omega
        · have hz : sameB x y = false := by simpa using hz
          have HP : Hid (preB l m = false) := by have := HS.out; rw [hz, Bool.false_and] at this; exact this
          rw [hz]
          clear hz HS
          go_wp2
          go_ret
          exact ⟨by rw [HP.out]; rfl, HB3.out⟩
      · have HP : Hid (preB l m = false) := by have := HZ.out; rw [preB_short l m (by omega) (by omega)] at this; exact this
        have HB := hid hb
        have k2 : decide ((n : Int) ≤ (k : Int)) = true := decide_eq_true (by omega)
        have k4 : decide (n ≤ k) = true := decide_eq_true (by omega)
        have hw : Below wr.heap.size wr wr.drew := (Below.refl _ _).drew
        have HB2 := hid (HB.out.trans (hw.mono HB.out.size))
        clear hb HZ hw
        go_wp2
        refine wp_region_held_drew (S := fun v => True) (by kernel_rfl) trivial (fun hHeld => ?_)
        refine wpAnyH_take (i := 0) (v := ?_) rfl (by kernel_rfl) (by kernel_rfl) (by kernel_rfl) (fun _ _ _ h => h) (Or.inl ⟨by rfl, fun v hv => ?_⟩) (by with_reducible assumption) ?_
        rotate_left
        · go_simp
          try with_reducible rfl
        simp only [Act.put, List.setIfInBounds_toArray, List.set_cons_zero, List.set_cons_succ, List.getElem_toArray, List.getElem_cons_zero, List.getElem_cons_succ]
        refine wpAnyH_take (i := 1) (v := ?_) rfl (by kernel_rfl) (by kernel_rfl) (by kernel_rfl) (fun _ _ _ h => h) (Or.inl ⟨by rfl, fun v hv => ?_⟩) (by with_reducible assumption) ?_
        rotate_left
        · go_simp
          try with_reducible rfl
        simp only [Act.put, List.setIfInBounds_toArray, List.set_cons_zero, List.set_cons_succ, List.getElem_toArray, List.getElem_cons_zero, List.getElem_cons_succ]
        refine wpAnyH_take (i := 2) (v := ?_) rfl (by kernel_rfl) (by kernel_rfl) (by kernel_rfl) (fun _ _ _ h => h) (Or.inl ⟨by rfl, fun v hv => ?_⟩) (by with_reducible assumption) ?_
        rotate_left
        · go_simp
          try with_reducible rfl
        simp only [Act.put, List.setIfInBounds_toArray, List.set_cons_zero, List.set_cons_succ, List.getElem_toArray, List.getElem_cons_zero, List.getElem_cons_succ]
        refine wpAnyH_take (i := 3) (v := ?_) rfl (by kernel_rfl) (by kernel_rfl) (by kernel_rfl) (fun _ _ _ h => h) (Or.inl ⟨by rfl, fun v hv => ?_⟩) (by with_reducible assumption) ?_
        rotate_left
        · go_simp
          try with_reducible rfl
        simp only [Act.put, List.setIfInBounds_toArray, List.set_cons_zero, List.set_cons_succ, List.getElem_toArray, List.getElem_cons_zero, List.getElem_cons_succ]
        refine wpAnyH_take (i := 4) (v := ?_) rfl (by kernel_rfl) (by kernel_rfl) (by kernel_rfl) (fun _ _ _ h => h) (Or.inl ⟨by rfl, fun v hv => ?_⟩) (by with_reducible assumption) ?_
        rotate_left
        · go_simp
          try with_reducible rfl
        simp only [Act.put, List.setIfInBounds_toArray, List.set_cons_zero, List.set_cons_succ, List.getElem_toArray, List.getElem_cons_zero, List.getElem_cons_succ]
        refine wpAnyH_take (i := 5) (v := undef) rfl (by kernel_rfl) (by kernel_rfl) (by kernel_rfl) (fun _ _ _ h => h) (Or.inr ⟨by rfl, rfl⟩) (by with_reducible assumption) ?_
        simp only [Act.put, List.setIfInBounds_toArray, List.set_cons_zero, List.set_cons_succ, List.getElem_toArray, List.getElem_cons_zero, List.getElem_cons_succ]
        refine wpAnyH_take (i := 6) (v := undef) rfl (by kernel_rfl) (by kernel_rfl) (by kernel_rfl) (fun _ _ _ h => h) (Or.inr ⟨by rfl, rfl⟩) (by with_reducible assumption) ?_
        simp only [Act.put, List.setIfInBounds_toArray, List.set_cons_zero, List.set_cons_succ, List.getElem_toArray, List.getElem_cons_zero, List.getElem_cons_succ]
        refine wpAnyH_take (i := 7) (v := undef) rfl (by kernel_rfl) (by kernel_rfl) (by kernel_rfl) (fun _ _ _ h => h) (Or.inr ⟨by rfl, rfl⟩) (by with_reducible assumption) ?_
        simp only [Act.put, List.setIfInBounds_toArray, List.set_cons_zero, List.set_cons_succ, List.getElem_toArray, List.getElem_cons_zero, List.getElem_cons_succ]
        refine wpAnyH_take (i := 8) (v := undef) rfl (by kernel_rfl) (by kernel_rfl) (by kernel_rfl) (fun _ _ _ h => h) (Or.inr ⟨by rfl, rfl⟩) (by with_reducible assumption) ?_
        simp only [Act.put, List.setIfInBounds_toArray, List.set_cons_zero, List.set_cons_succ, List.getElem_toArray, List.getElem_cons_zero, List.getElem_cons_succ]
        refine wpAnyH_take (i := 9) (v := undef) rfl (by kernel_rfl) (by kernel_rfl) (by kernel_rfl) (fun _ _ _ h => h) (Or.inr ⟨by rfl, rfl⟩) (by with_reducible assumption) ?_
        simp only [Act.put, List.setIfInBounds_toArray, List.set_cons_zero, List.set_cons_succ, List.getElem_toArray, List.getElem_cons_zero, List.getElem_cons_succ]
        refine wpAnyH_take (i := 10) (v := undef) rfl (by kernel_rfl) (by kernel_rfl) (by kernel_rfl) (fun _ _ _ h => h) (Or.inr ⟨by rfl, rfl⟩) (by with_reducible assumption) ?_
        simp only [Act.put, List.setIfInBounds_toArray, List.set_cons_zero, List.set_cons_succ, List.getElem_toArray, List.getElem_cons_zero, List.getElem_cons_succ]
        refine wpAnyH_take (i := 11) (v := undef) rfl (by kernel_rfl) (by kernel_rfl) (by kernel_rfl) (fun _ _ _ h => h) (Or.inr ⟨by rfl, rfl⟩) (by with_reducible assumption) ?_
        simp only [Act.put, List.setIfInBounds_toArray, List.set_cons_zero, List.set_cons_succ, List.getElem_toArray, List.getElem_cons_zero, List.getElem_cons_succ]
        refine wpAnyH_take (i := 12) (v := undef) rfl (by kernel_rfl) (by kernel_rfl) (by kernel_rfl) (fun _ _ _ h => h) (Or.inr ⟨by rfl, rfl⟩) (by with_reducible assumption) ?_
        simp only [Act.put, List.setIfInBounds_toArray, List.set_cons_zero, List.set_cons_succ, List.getElem_toArray, List.getElem_cons_zero, List.getElem_cons_succ]
        refine wpAnyH_take (i := 13) (v := undef) rfl (by kernel_rfl) (by kernel_rfl) (by kernel_rfl) (fun _ _ _ h => h) (Or.inr ⟨by rfl, rfl⟩) (by with_reducible assumption) ?_
        simp only [Act.put, List.setIfInBounds_toArray, List.set_cons_zero, List.set_cons_succ, List.getElem_toArray, List.getElem_cons_zero, List.getElem_cons_succ]
        refine wpAnyH_take (i := 14) (v := undef) rfl (by kernel_rfl) (by kernel_rfl) (by kernel_rfl) (fun _ _ _ h => h) (Or.inr ⟨by rfl, rfl⟩) (by with_reducible assumption) ?_
        simp only [Act.put, List.setIfInBounds_toArray, List.set_cons_zero, List.set_cons_succ, List.getElem_toArray, List.getElem_cons_zero, List.getElem_cons_succ]
        refine wpAnyH_take (i := 15) (v := ?_) rfl (by kernel_rfl) (by kernel_rfl) (by kernel_rfl) (fun _ _ _ h => h) (Or.inl ⟨by rfl, fun v hv => ?_⟩) (by with_reducible assumption) ?_
        rotate_left
        · go_simp
          try with_reducible rfl
        simp only [Act.put, List.setIfInBounds_toArray, List.set_cons_zero, List.set_cons_succ, List.getElem_toArray, List.getElem_cons_zero, List.getElem_cons_succ]
        refine wpAnyH_done (by kernel_rfl) ?_ _
        clear hHeld
        go_wp2
        go_ret
        exact ⟨by rw [HP.out]; rfl, HB2.out⟩
    · obtain rfl : k = n' := by omega
      have HP : Hid (preB l m = true) := by have := HZ.out; rw [preB_end l m (by omega)] at this; exact this
      have HB := hid hb
      clear hb HZ
      go_wp2
      go_ret
      exact ⟨by rw [HP.out]; rfl, HB.out⟩
theorem eqV_dec (x y : IV) : eqV x y = decide (x.k = y.k ∧ x.t = y.t ∧ x.c = y.c ∧ bl x.s = bl y.s) := by
  unfold eqV
  by_cases h1 : x.k = y.k <;> by_cases h2 : x.t = y.t <;> by_cases h3 : x.c = y.c <;> simp [h1, h2, h3]
set_option maxRecDepth 20000 in
set_option maxHeartbeats 2000000 in
theorem rsameS_c {B : Nat} (A : Option Addr) (n c : Nat) (l : List IV) (A' : Option Addr) (n' c' : Nat) (m : List IV) (w : World) (ha : RdV w B A n l) (ha' : RdV w B A' n' m) (hB : B ≤ w.heap.size) (hn : n ≤ 2000) :
    Calls Try.prog 18 #[.slice A n c, .slice A' n' c'] w fun e w' => e = .returned (.bool (eqS l m)) ∧ Below w.heap.size w w' := by
  have HA := hid ha
  have HA' := hid ha'
  have hln := ha.len
  have hlm := ha'.len
  clear ha ha'
  go_enter Try.func18, Try.ntmps18
  by_cases hnn : n = n'
  case neg =>
    have h' : ¬ (n : Int) = (n' : Int) := by omega
    have hq : ((n : Int) != (n' : Int)) = true := by simpa using h'
    have HP : Hid (eqS l m = false) := eqS_len l m (by omega)
    clear h'
    go_wp2
    go_ret
    exact ⟨by rw [HP.out]; rfl, Below.refl _ _⟩
  subst hnn
  go_wp2
  go_loopw [5] (fun i wr => ∃ k : Nat, k ≤ n ∧ i = .int .i64 k ∧ Hid (eqS l m = eqS (l.drop k) (m.drop k)) ∧ Below w.heap.size w wr) (fun i _ => n - (intOf i).toNat)
  case atStart => exact ⟨0, by omega, rfl, hid (by rw [List.drop_zero, List.drop_zero]), Below.refl _ _⟩
  case round =>
    obtain ⟨k, hk, rfl, HZ, hb⟩ := hrel
    by_cases hlt : k < n
    · have hkl : k < l.length := by omega
      have hkm : k < m.length := by omega
      obtain ⟨b, off, rfl, hbB, hc⟩ := (HA.out.below hb hB).at_ hlt
      obtain ⟨b2, off2, rfl, hbB2, hc2⟩ := (HA'.out.below hb hB).at_ hlt
      obtain ⟨x, hx⟩ : ∃ x, x = l[k]'hkl := ⟨_, rfl⟩
      obtain ⟨y, hy⟩ : ∃ y, y = m[k]'hkm := ⟨_, rfl⟩
      have hS := eqS_step l m hkl hkm
      rw [← hx] at hc hS
      rw [← hy] at hc2 hS
      rw [← HZ.out] at hS
      have HS := hid hS
      obtain ⟨x0, x1, x2, x3⟩ := ivc_cells hc
      obtain ⟨z0, z1, z2, z3⟩ := ivc_cells hc2
      have EQ := fun v => eq_ref v x.k x.t x.c y.k y.t y.c x.s y.s
      have hd := eqV_dec x y
      rw [← hd] at EQ
      have hb2 := below_drewN hb 1
      have k0 : (0 : Int) ≤ (k : Int) := by omega
      have k1 : (k : Int) < (n : Int) := by omega
      clear hc hc2 hx hy hS HZ hd
      by_cases hz : eqV x y = true
      · have HP : Hid (eqS l m = eqS (l.drop (k + 1)) (m.drop (k + 1))) := by have := HS.out; rw [hz, Bool.true_and] at this; exact this
        rw [hz] at EQ
        clear hz HS
        go_wp2
        go_quiet (fail)
        go_wp2
        go_roundw
        case rel => exact ⟨k + 1, by omega, by go_num, HP, below_drewN hb _⟩
        case measure => simp [intOf]; omega
      · have hz : eqV x y = false := by simpa using hz
        have HP : Hid (eqS l m = false) := by have := HS.out; rw [hz, Bool.false_and] at this; exact this
        rw [hz] at EQ
        clear hz HS
        go_wp2
        go_quiet (fail)
        go_wp2
        go_ret
        exact ⟨by rw [HP.out]; rfl, below_drewN hb _⟩
    · obtain rfl : k = n := by omega
      have HP : Hid (eqS l m = true) := by have := HZ.out; rw [eqS_end l m (by omega) (by omega)] at this; exact this
      have HB := hid hb
      clear hb HZ
      go_wp2
      go_ret
      exact ⟨by rw [HP.out]; rfl, HB.out⟩
end Go.Proofs.Ytokfldecjknamaa
