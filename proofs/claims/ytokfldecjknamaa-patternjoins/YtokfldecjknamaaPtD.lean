/-
  avouchlaw13.Ofs, Tos, avouchref13.same, pattern.counted, slices.Clip: what each call does.
-/
import Derived.Test.YtokfldecjknamaaPtC
namespace Go.Proofs.Ytokfldecjknamaa
open Go.RowKit
set_option linter.unusedVariables false
set_option linter.unusedSimpArgs false

theorem itI : ItT 26 52 := ⟨Try.underlying26, by kernel_rfl⟩
theorem itR : ItT 22 25 := ⟨Try.underlying22, by kernel_rfl⟩
theorem counted_c (c : Int) (w : World) : Calls Try.prog 27 #[.int .i64 c] w fun e w' => e = .returned (.int .i64 (if 0 < c ∧ c ≤ 1048576 then c else 0)) ∧ w' = w := by
  go_enter Try.func27, Try.ntmps27
  by_cases h0 : c < 0
  · rw [if_neg (by omega)]
    have h1 : decide (c < 0) = true := decide_eq_true h0
    go_wp2
    go_ret
    exact ⟨rfl, rfl⟩
  · by_cases h2 : 1048576 < c
    · rw [if_neg (by omega)]
      go_wp2
      go_ret
      exact ⟨rfl, rfl⟩
    · have e : (if 0 < c ∧ c ≤ 1048576 then c else 0) = c := by
        by_cases h : 0 < c ∧ c ≤ 1048576
        · rw [if_pos h]
        · rw [if_neg h]; omega
      rw [e]
      go_wp2
      go_ret
      exact ⟨rfl, rfl⟩
set_option maxRecDepth 20000 in
theorem rsame_c (k t c : Int) (s : ByteArray) (k' t' c' : Int) (s' : ByteArray) (w : World) : Calls Try.prog 37 #[.agg #[.int .i64 k, .int .i64 t, .int .i64 c, .string s], .agg #[.int .i64 k', .int .i64 t', .int .i64 c', .string s']] w fun e w' => e = .returned (.bool (decide (k = k' ∧ t = t' ∧ c = c'))) ∧ Below w.heap.size w w' := by
  have hb : Below w.heap.size w ((w.alloc (.cells #[.int .i64 k, .int .i64 t, .int .i64 c, .string s] 25)).alloc (.cells #[.int .i64 k', .int .i64 t', .int .i64 c', .string s'] 25)) := ((Below.refl _ _).alloc (Nat.le_refl _) _).alloc (by simp) _
  go_enter Try.func37, Try.ntmps37
  by_cases h0 : k = k'
  · subst h0
    by_cases h1 : t = t'
    · subst h1
      by_cases h2 : c = c'
      · subst h2
        have e : decide (k = k ∧ t = t ∧ c = c) = true := by simp
        rw [e]
        go_wp2
        go_ret
        exact ⟨rfl, hb⟩
      · have e : decide (k = k ∧ t = t ∧ c = c') = false := by simp [h2]
        have q : (c == c') = false := by simpa using h2
        rw [e]
        go_wp2
        go_ret
        exact ⟨rfl, hb⟩
    · have e : decide (k = k ∧ t = t' ∧ c = c') = false := by simp [h1]
      have q : (t == t') = false := by simpa using h1
      rw [e]
      go_wp2
      go_ret
      exact ⟨rfl, hb⟩
  · have e : decide (k = k' ∧ t = t' ∧ c = c') = false := by simp [h0]
    have q : (k == k') = false := by simpa using h0
    rw [e]
    go_wp2
    go_ret
    exact ⟨rfl, hb⟩
theorem szEI (v : World) : (sizeOf (Try.prog.elem 26)).run Try.prog v = .ok 4 v := by kernel_rfl
theorem RdV.cut {w : World} {B n : Nat} {A A2 : Option Addr} {l : List IV} (h : RdV w B A n l) (m : Nat) (hm : m ≤ n) (hA : 0 < m → A2 = A.map (·.add (0 * 4))) : RdV w B A2 m (l.take m) := by
  refine ⟨by have := h.len; rw [List.length_take]; omega, fun h0 => ?_⟩
  obtain ⟨b, off, e, hb, hc⟩ := h.cells (by omega)
  refine ⟨b, off, ?_, hb, fun j v hv => hc j v ?_⟩
  · rw [hA h0, e]
    show some ((⟨b, off, none⟩ : Addr).add (0 * 4)) = _
    rw [Addr.add_mid]; rfl
  · have e : l = l.take m ++ l.drop m := (List.take_append_drop m l).symm
    have hl := (List.getElem?_eq_some_iff.1 hv).1
    conv => lhs; rw [e, ivs_append]
    rw [List.getElem?_append_left hl]
    exact hv
/-- x[:j:j] of items -/
theorem cutV_hm {w : World} {B n : Nat} {A : Option Addr} {l : List IV} (h : RdV w B A n l) (c j : Nat) (hj : j ≤ n) (hc : n ≤ c) (J : Int) (hJ : J = (j : Int)) : ∃ A2,
    (∀ v, (Instr.slice 26 (.slice A n c) none (some (.int .i64 J)) (some (.int .i64 J))).run Try.prog v = .ok (.slice A2 j j) v) ∧ RdV w B A2 j (l.take j) ∧ ∀ x, A2 = some x → ∃ y, A = some y ∧ x.block = y.block := by
  subst hJ
  refine ⟨(if j = 0 then A else A.map (·.add (0 * 4))), fun v => ?_, ?_, fun x hx => ?_⟩
  · have h1 := run_slice_hm (P := Try.prog) v 26 A n c (by kernel_rfl) .i64 .i64 (j : Int) (j : Int) (by omega) (by omega) (by omega)
    rw [h1, szEI]
    rfl
  · exact h.cut (A2 := if j = 0 then A else A.map (·.add (0 * 4))) j hj (fun hm => by rw [if_neg (by omega)])
  · split at hx
    · exact ⟨x, hx, rfl⟩
    · rcases A with _ | y
      · cases hx
      · have e : y.add (0 * 4) = x := Option.some.inj hx
        refine ⟨y, rfl, ?_⟩
        rw [← e]
        unfold Addr.add
        split <;> rfl
/-- x[:j] of items -/
theorem cutV_h {w : World} {B n : Nat} {A : Option Addr} {l : List IV} (h : RdV w B A n l) (c j : Nat) (hj : j ≤ n) (hc : n ≤ c) (J : Int) (hJ : J = (j : Int)) : ∃ A2,
    (∀ v, (Instr.slice 26 (.slice A n c) none (some (.int .i64 J)) none).run Try.prog v = .ok (.slice A2 j c) v) ∧ RdV w B A2 j (l.take j) := by
  subst hJ
  refine ⟨(if c = 0 then A else A.map (·.add (0 * 4))), fun v => ?_, ?_⟩
  · have h1 := run_slice_h (P := Try.prog) v 26 A n c (by kernel_rfl) .i64 (j : Int) (by omega) (by omega)
    rw [h1, szEI]
    rfl
  · exact h.cut (A2 := if c = 0 then A else A.map (·.add (0 * 4))) j hj (fun hm => by rw [if_neg (by omega)])
theorem clipB_c {B : Nat} (A : Option Addr) (n c : Nat) (l : List Nat) (w : World) (ha : Rd8 w B A n l) (hc : n ≤ c) :
    Calls Try.prog 26 #[.slice A n c] w fun e w' => ∃ A2, e = .returned (.slice A2 n n) ∧ Rd8 w B A2 n l ∧ (∀ x, A2 = some x → ∃ y, A = some y ∧ x.block = y.block) ∧ w' = w := by
  obtain ⟨A2, s2, r2, p2⟩ := cut_hmB ha c n (Nat.le_refl _) hc (n : Int) rfl
  rw [List.take_of_length_le (by rw [ha.len]; exact Nat.le_refl _)] at r2
  go_enter Try.func26, Try.ntmps26
  go_wp2
  go_ret
  exact ⟨A2, rfl, r2, p2, rfl⟩
theorem clipV_c {B : Nat} (A : Option Addr) (n c : Nat) (l : List IV) (w : World) (ha : RdV w B A n l) (hc : n ≤ c) :
    Calls Try.prog 31 #[.slice A n c] w fun e w' => ∃ A2, e = .returned (.slice A2 n n) ∧ RdV w B A2 n l ∧ (∀ x, A2 = some x → ∃ y, A = some y ∧ x.block = y.block) ∧ w' = w := by
  obtain ⟨A2, s2, r2, p2⟩ := cutV_hm ha c n (Nat.le_refl _) hc (n : Int) rfl
  rw [List.take_of_length_le (by rw [ha.len]; exact Nat.le_refl _)] at r2
  go_enter Try.func31, Try.ntmps31
  go_wp2
  go_ret
  exact ⟨A2, rfl, r2, p2, rfl⟩
set_option maxRecDepth 20000 in
set_option maxHeartbeats 1000000 in
theorem ofs_c {B : Nat} (A : Option Addr) (n c : Nat) (l : List IV) (w : World) (ha : RdV w B A n l) (hB : B ≤ w.heap.size) (hn : n ≤ 2000) :
    Calls Try.prog 9 #[.slice A n c] w fun e w' => ∃ v, e = .returned v ∧ OwnV 52 w' w.heap.size v l ∧ Below w.heap.size w w' := by
  have HA := hid ha
  have hln := ha.len
  clear ha
  go_enter Try.func9, Try.ntmps9
  go_wp2
  go_loopw [3, 8] (fun v i wr => ∃ k : Nat, k ≤ n ∧ i = .int .i64 k ∧ OwnV 52 wr w.heap.size v (l.take k) ∧ Below w.heap.size w wr) (fun _ i _ => n - (intOf i).toNat)
  case atStart => exact ⟨0, by omega, rfl, by rw [List.take_zero]; exact ownV_nil _ _ _, Below.refl _ _⟩
  case round =>
    obtain ⟨k, hk, rfl, hown, hb⟩ := hrel
    by_cases hlt : k < n
    · obtain ⟨b, off, rfl, hbB, hc⟩ := (HA.out.below hb hB).at_ hlt
      obtain ⟨y, hy⟩ : ∃ y, y = l[k]'(by rw [hln]; exact hlt) := ⟨_, rfl⟩
      rw [← hy] at hc
      have HR : Hid (wr.rangeAt b (off + k * 4) [.int .i64 y.k, .int .i64 y.t, .int .i64 y.c, .string y.s]) := hc
      have hT : l.take (k + 1) = l.take k ++ [y] := by rw [hy, ← List.take_append_getElem]
      have HT := hid hT
      have HO := hid hown
      have HB := hid hb
      have hkl : (l.take k).length ≤ 100000 := by rw [List.length_take]; omega
      have k0 : (0 : Int) ≤ (k : Int) := by omega
      have k1 : (k : Int) < (n : Int) := by omega
      clear hc hy hown hb hT
      go_wp2_with (first
        | fail
        | refine wpList_load_mid rfl 25 (.tmp 10) rfl b (off + k * 4) rfl [.int .i64 y.k, .int .i64 y.t, .int .i64 y.c, .string y.s] _ (by with_reducible exact HR.out) Try.underlying25 rfl sizeR4 ?_)
      refine (of12_c y.k y.t y.c y.s _).mono ?_
      rintro e w1 ⟨rfl, b1⟩
      have hb1 : Below wr.heap.size wr w1 := bchain ((Below.refl _ _).alloc (Nat.le_refl _) _) b1
      have HB1 := hid (HB.out.trans (hb1.mono HB.out.size))
      have HO1 := hid (HO.out.up hb1)
      have hsz := HB1.out.size
      clear HB HO HR b1 hb1
      go_wp2_with (at_builtin; refine append_item itI rfl (.tmp 12) (.tmp 15) rfl w.heap.size _ (l.take k) rfl HO1.out y rfl hkl hsz ?_)
      intro v' w2 O2 g2 b2
      have HO2 := hid O2
      have HB2 := hid (HB1.out.trans b2)
      clear O2 g2 b2 HB1 HO1
      go_wp2
      go_roundw
      case rel => exact ⟨k + 1, by omega, by go_num, by rw [HT.out]; exact HO2.out, HB2.out⟩
      case measure => simp [intOf]; omega
    · obtain rfl : k = n := by omega
      rw [List.take_of_length_le (by omega)] at hown
      have HO := hid hown
      have HB := hid hb
      clear hown hb
      go_wp2
      go_ret
      exact ⟨_, rfl, HO.out, HB.out⟩
set_option maxRecDepth 20000 in
set_option maxHeartbeats 1000000 in
theorem tos_c {B : Nat} (A : Option Addr) (n c : Nat) (l : List IV) (w : World) (ha : RdV w B A n l) (hB : B ≤ w.heap.size) (hn : n ≤ 2000) :
    Calls Try.prog 19 #[.slice A n c] w fun e w' => ∃ v, e = .returned v ∧ OwnV 25 w' w.heap.size v l ∧ Below w.heap.size w w' := by
  have HA := hid ha
  have hln := ha.len
  clear ha
  go_enter Try.func19, Try.ntmps19
  go_wp2
  go_loopw [3, 9] (fun v i wr => ∃ k : Nat, k ≤ n ∧ i = .int .i64 k ∧ OwnV 25 wr w.heap.size v (l.take k) ∧ Below w.heap.size w wr) (fun _ i _ => n - (intOf i).toNat)
  case atStart => exact ⟨0, by omega, rfl, by rw [List.take_zero]; exact ownV_empty _ _, (Below.refl _ _).alloc (Nat.le_refl _) _⟩
  case round =>
    obtain ⟨k, hk, rfl, hown, hb⟩ := hrel
    by_cases hlt : k < n
    · obtain ⟨b, off, rfl, hbB, hc⟩ := (HA.out.below hb hB).at_ hlt
      obtain ⟨y, hy⟩ : ∃ y, y = l[k]'(by rw [hln]; exact hlt) := ⟨_, rfl⟩
      rw [← hy] at hc
      have HR : Hid (wr.rangeAt b (off + k * 4) [.int .i64 y.k, .int .i64 y.t, .int .i64 y.c, .string y.s]) := hc
      have hT : l.take (k + 1) = l.take k ++ [y] := by rw [hy, ← List.take_append_getElem]
      have HT := hid hT
      have HO := hid hown
      have HB := hid hb
      have hkl : (l.take k).length ≤ 100000 := by rw [List.length_take]; omega
      have k0 : (0 : Int) ≤ (k : Int) := by omega
      have k1 : (k : Int) < (n : Int) := by omega
      clear hc hy hown hb hT
      go_wp2_with (first
        | fail
        | refine wpList_load_mid rfl 52 (.tmp 11) rfl b (off + k * 4) rfl [.int .i64 y.k, .int .i64 y.t, .int .i64 y.c, .string y.s] _ (by with_reducible exact HR.out) Try.underlying52 rfl sizeI4 ?_)
      refine (to12_c y.k y.t y.c y.s _).mono ?_
      rintro e w1 ⟨rfl, b1⟩
      have hb1 : Below wr.heap.size wr w1 := bchain ((Below.refl _ _).alloc (Nat.le_refl _) _) b1
      have HB1 := hid (HB.out.trans (hb1.mono HB.out.size))
      have HO1 := hid (HO.out.up hb1)
      have hsz := HB1.out.size
      clear HB HO HR b1 hb1
      go_wp2_with (at_builtin; refine append_item itR rfl (.tmp 13) (.tmp 16) rfl w.heap.size _ (l.take k) rfl HO1.out y rfl hkl hsz ?_)
      intro v' w2 O2 g2 b2
      have HO2 := hid O2
      have HB2 := hid (HB1.out.trans b2)
      clear O2 g2 b2 HB1 HO1
      go_wp2
      go_roundw
      case rel => exact ⟨k + 1, by omega, by go_num, by rw [HT.out]; exact HO2.out, HB2.out⟩
      case measure => simp [intOf]; omega
    · obtain rfl : k = n := by omega
      rw [List.take_of_length_le (by omega)] at hown
      have HO := hid hown
      have HB := hid hb
      clear hown hb
      go_wp2
      go_ret
      exact ⟨_, rfl, HO.out, HB.out⟩
end Go.Proofs.Ytokfldecjknamaa
