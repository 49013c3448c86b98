/-
  avouchref04.fold, ModP, ModQ, Mod, Size, Read, Bytes: what each call does.
-/
import Derived.Test.YtfonpmahcdmajaaDoorWidR
namespace Go.Proofs.YtfonpmahcdmajaaDoor
open Go.RowKit
set_option linter.unusedVariables false

/-- 2^768, in digits. -/
def T24 : Nat := 4294967296 ^ 24
theorem T24_eq : T24 = W12 := by decide
/-- What is left of a number, when its high part is folded in. -/
theorem fold_step (X H L C M : Nat) (hX : X = L + T24 * H) (hC : C + M = T24) (hH : 0 < H) (hM : 0 < M) : (L + H * C) % M = X % M ∧ L + H * C < X := by
  have e : L + T24 * H = L + H * C + M * H := by rw [← hC, Nat.add_mul, Nat.mul_comm C H]; omega
  refine ⟨?_, ?_⟩
  · rw [hX, e, Nat.add_mul_mod_self_left]
  · have : 0 < M * H := Nat.mul_pos hM hH
    omega
theorem Dg.ofRd {w : World} {A : Option Addr} {n c : Nat} {l : List Nat} {X : Nat} (hr : Rd w w.heap.size A n l) (hc : n ≤ c) (hn : n ≤ 2000) (d : D32 l) (t : Tr l) (hv : val 4294967296 l = X) : Dg w (.slice A n c) X := by
  have := hr.len
  subst this
  exact ⟨A, c, l, rfl, hc, hn, hr, d, t, hv⟩
/-- Digits, cut at the 24-th. -/
theorem cut24 {l : List Nat} (h : 24 < l.length) (t : Tr l) : val 4294967296 l = val 4294967296 (l.take 24) + T24 * val 4294967296 (l.drop 24) ∧ 0 < val 4294967296 (l.drop 24) ∧ Tr (l.drop 24) := by
  have hz : l.getD (l.length - 1) 0 ≠ 0 := by
    rcases t with t | t
    · subst t; simp at h
    · exact t
  have hz2 : (l.drop 24).getD ((l.drop 24).length - 1) 0 ≠ 0 := by
    rw [getD_drop, List.length_drop, show 24 + (l.length - 24 - 1) = l.length - 1 by omega]
    exact hz
  refine ⟨?_, ?_, Or.inr hz2⟩
  · have e1 : (l.take 24).length = 24 := by simp; omega
    unfold val
    rw [e1, List.length_drop, pv_take _ _ _ _ (Nat.le_refl _)]
    have := pv_drop 4294967296 l 24 (l.length - 24)
    rw [show 24 + (l.length - 24) = l.length by omega] at this
    rw [this]
    rfl
  · have e1 : (l.drop 24).length = (l.drop 24).length - 1 + 1 := by rw [List.length_drop]; omega
    unfold val
    rw [e1, pv_succ]
    have : 1 * 4294967296 ^ ((l.drop 24).length - 1) ≤ (l.drop 24).getD ((l.drop 24).length - 1) 0 * 4294967296 ^ ((l.drop 24).length - 1) := Nat.mul_le_mul_right _ (by omega)
    have h2 : 0 < 4294967296 ^ ((l.drop 24).length - 1) := Nat.pow_pos (by decide)
    omega
/-- make([]uint64, 24), and a 1 behind it. -/
theorem big_own {w' : World} {base : Nat} {v : Value} (h : OwnW w' base v (List.replicate 24 0 ++ [1])) : Dg w' v T24 := by
  obtain ⟨A, c, rfl, hc, rr⟩ := h.rd
  refine ⟨A, c, List.replicate 24 0 ++ [1], rfl, hc, by decide, rr, ?_, Or.inr (by decide), by decide⟩
  intro x hx
  rcases List.mem_append.1 hx with h | h
  · have := List.eq_of_mem_replicate h; omega
  · simp at h; omega

theorem append_big {ops : Array Oper} {rest : List Oper} {o : Oper} {a : Act} {Q : Exit → Act → World → Prop} (hgd : o.guard = none) (s x : Operand)
    (ho : o.op = .call { callee := .builtin .append, args := #[s, x], argTypes := #[39, 39] }) (w : World)
    (hs : a.eval s = .slice (some ⟨w.heap.size, 0, none⟩) 24 24) (hx : a.eval x = .slice (some ⟨w.heap.size + 1, 0, none⟩) 1 1)
    (h : ∀ (v' : Value) (w' : World), Dg w' v' T24 → Below w.heap.size w w' → wpList Tryd.prog ops Q rest (a.put o.dst v') w') :
    wpList Tryd.prog ops Q (o :: rest) a ((w.alloc (.cells (zeros 24) 22)).alloc (.cells #[.int .u64 1] 22)) := by
  have e : (w.alloc (.cells (zeros 24) 22)).heap.size = w.heap.size + 1 := by simp
  refine append_word hgd s x ho w.heap.size _ (List.replicate 24 0) hs (own_zeros w 24 (by omega)) 1 1 rfl (by omega) (by rw [e]; exact hx) (by simp) (by omega) fun v' w' hown bb => ?_
  exact h v' w' (big_own hown) (((Below.refl w.heap.size w).alloc (Nat.le_refl _) _).trans bb)

set_option maxRecDepth 20000 in
set_option maxHeartbeats 2000000 in
theorem fold_c (u mv : Value) (X M : Nat) (w : World) (hu : Dg w u X) (hm : Dg w mv M) (h0 : 0 < M) (h1 : M < T24) :
    Calls Tryd.prog 68 #[u, mv] w fun e w' => ∃ r, e = .returned r ∧ Dg w' r (X % M) ∧ Below w.heap.size w w' := by
  have hmk := make64I 24 24 (Nat.le_refl _) (by omega) 24 24 rfl rfl
  have HU := hid hu
  have HM := hid hm
  have H0 := hid h0
  have H1 := hid h1
  clear hu hm h0 h1
  go_enter Tryd.func68, Tryd.ntmps68
  go_wp2_with (at_builtin; refine append_big rfl (.tmp 8) (.tmp 9) rfl w rfl rfl ?_)
  intro v1 w1 d1 b01
  clear hmk
  have hm1 := HM.out.up b01
  go_wp2_with fail
  refine (gSub_c v1 mv T24 M w1 d1 hm1 (Nat.le_of_lt H1.out)).mono ?_
  rintro e w2 ⟨cv, rfl, hc2, b2⟩
  have b02 := bchain b01 b2
  have hm2 := HM.out.up b02
  have hu2 := HU.out.up b02
  obtain ⟨A, c, l, rfl, e1, e2, e3, e4, e5, e6⟩ := hu2
  clear d1 hm1 b01 b2
  go_wp2_with fail
  refine (trim_c A l.length c _ l w2 e3 (by omega) e1).mono ?_
  rintro e w' ⟨m, hm', rfl, rfl, tm, zm⟩
  have ht : Dg w2 (.slice A m c) X := Dg.ofRd (e3.take m hm') (by omega) (by omega) (fun x hx => e4 x (List.mem_of_mem_take hx)) tm (by rw [val_take_zeros _ _ _ hm' zm, e6])
  have HT := hid ht
  have HM2 := hid hm2
  have HC2 := hid hc2
  clear ht hm2 hc2 e1 e2 e3 e4 e5 e6 tm zm hm'
  obtain ⟨C, hC⟩ : ∃ C, C = T24 - M := ⟨_, rfl⟩
  rw [← hC] at HC2
  have HCM : Hid (C + M = T24) := by have := H1.out; show _ = _; omega
  have HB2 := hid b02
  clear hC b02
  go_wp2_with fail
  go_loopw [0] (fun a wr => ∃ X', Dg wr a X' ∧ X' % M = X % M ∧ Dg wr mv M ∧ Dg wr cv C ∧ Below w.heap.size w wr) (fun a wr => mval wr a)
  case atStart => exact ⟨X, HT.out, rfl, HM2.out, HC2.out, HB2.out⟩
  case round =>
    clear HT HM2 HC2 HB2
    obtain ⟨X', ha, hx, hm, hc, hb⟩ := hrel
    have HA := hid ha
    have HX := hid hx
    have HM3 := hid hm
    have HC3 := hid hc
    obtain ⟨A, c, l, rfl, e1, e2, e3, e4, e5, e6⟩ := ha
    clear hx hm hc
    by_cases hlt : 24 < l.length
    · obtain ⟨ba, oa, rfl, hba, hca⟩ := e3.at_ (k := 24) hlt
      have CUT := hid (cut24 hlt e5)
      have E6 := hid e6
      have E4 := hid e4
      clear e6 e4 e5 hca
      have i0 : (24 : Int) < (l.length : Int) := by omega
      have i1 : (c == 24) = false := by simp; omega
      have i2 : (24 : Int) ≤ (l.length : Int) := by omega
      have i3 : ¬ (c = 24) := by omega
      have HR := hid e3
      clear e3
      have hd24 : Rd (wr.alloc (.cells #[] 22)) wr.heap.size (some ⟨ba, oa + 24, none⟩) (l.length - 24) (l.drop 24) := by
        have h1 := HR.out.below ((Below.refl wr.heap.size wr).alloc (Nat.le_refl _) (.cells #[] 22)) (Nat.le_refl _)
        refine ⟨by simp, fun x hx => h1.lt x (List.mem_of_mem_drop hx), fun _ => ⟨ba, oa + 24, rfl, hba, fun i hi => ?_⟩⟩
        obtain ⟨b', o', e', _, hc'⟩ := h1.cells (by omega)
        injection e' with e'
        injection e' with e1' e2'
        subst e1' e2'
        rw [Nat.add_assoc, hc' (24 + i) (by omega)]
        unfold at64
        rw [getD_drop]
      have i4 : 1 ≤ l.length - 24 := by omega
      have i5 : l.length - 24 ≤ 100000 := by omega
      go_wp2_with (at_builtin; refine append_clone rfl (.tmp 18) (.tmp 20) rfl wr.heap.size rfl ba (oa + 24) (l.length - 24) (c - 24) wr.heap.size (l.drop 24) rfl hd24 i4 i5 ?_)
      intro k1 w3 hB3 b3
      have b03 : Below wr.heap.size wr w3 := ((Below.refl wr.heap.size wr).alloc (Nat.le_refl _) (.cells #[] 22)).trans (b3.mono (by simp))
      have HH : Hid (Dg w3 (.slice (some ⟨wr.heap.size + 1, 0, none⟩) (l.length - 24) (l.length - 24 + k1)) (val 4294967296 (l.drop 24))) := by
        have h1 := hB3.rd (off := 0) (n := l.length - 24) (B := w3.heap.size) (by simp) hB3.size
        rw [List.drop_zero, List.take_append_of_le_length (by simp), List.take_of_length_le (by simp)] at h1
        exact Dg.ofRd h1 (by omega) (by omega) (fun x hx => E4.out x (List.mem_of_mem_drop hx)) CUT.out.2.2 rfl
      have rl := HR.out.below b03 (Nat.le_refl _)
      have hd25 : Rd (w3.alloc (.cells #[] 22)) w3.heap.size (some ⟨ba, oa, none⟩) 24 (l.take 24) := by
        have h1 := (rl.below ((Below.refl wr.heap.size w3).alloc b03.size (.cells #[] 22)) (Nat.le_refl _)).take 24 (by omega)
        exact h1.more b03.size
      clear hd24 hB3 b3 rl
      go_wp2_with (at_builtin; refine append_clone rfl (.tmp 22) (.tmp 24) rfl w3.heap.size rfl ba oa 24 c w3.heap.size (l.take 24) rfl hd25 (by decide) (by decide) ?_)
      intro k2 w4 hB4 b4
      have b34 : Below w3.heap.size w3 w4 := ((Below.refl w3.heap.size w3).alloc (Nat.le_refl _) (.cells #[] 22)).trans (b4.mono (by simp))
      have r4 := hB4.rd (off := 0) (n := 24) (B := w4.heap.size) (by simp; omega) hB4.size
      rw [List.drop_zero, List.take_append_of_le_length (by simp; omega), List.take_of_length_le (by simp; omega)] at r4
      have b04 := bchain b03 b34
      clear hd25 hB4 b4
      go_wp2_with fail
      refine (trim_c _ 24 (24 + k2) _ (l.take 24) w4 r4 (by decide) (by omega)).mono ?_
      rintro e w' ⟨m2, hm2, rfl, rfl, t2, z2⟩
      have HLo : Hid (Dg w4 (.slice (some ⟨w3.heap.size + 1, 0, none⟩) m2 (24 + k2)) (val 4294967296 (l.take 24))) :=
        Dg.ofRd (r4.take m2 hm2) (by omega) (by omega) (fun x hx => E4.out x (List.mem_of_mem_take (List.mem_of_mem_take hx))) t2 (by rw [val_take_zeros _ _ _ (by simp; omega) z2])
      have FS := hid (fold_step X' (val 4294967296 (l.drop 24)) (val 4294967296 (l.take 24)) C M (by rw [← E6.out]; exact CUT.out.1) HCM.out CUT.out.2.1 H0.out)
      have hXlt := hid HA.out.lt
      have hbd : Hid (val 4294967296 (l.drop 24) * C < 4294967296 ^ bigE ∧ val 4294967296 (l.take 24) + val 4294967296 (l.drop 24) * C < 4294967296 ^ bigE) := by
        have h1 := FS.out.2
        have h2 := hXlt.out
        exact ⟨by omega, by omega⟩
      have HH4 := hid (HH.out.up b34)
      have HC4 := hid (HC3.out.up b04)
      have HM4 := hid (HM3.out.up b04)
      have HB4 := hid (hb.trans (b04.mono hb.size))
      clear HH r4 t2 z2 hm2 b03 b34 b04
      go_wp2_with fail
      refine (gMul_c _ cv _ C w4 HH4.out HC4.out hbd.out.1).mono ?_
      rintro e w5 ⟨hv, rfl, h5, b5⟩
      have HLo5 := hid (HLo.out.up b5)
      go_wp2_with fail
      refine (gAdd_c _ hv _ _ w5 HLo5.out h5 hbd.out.2).mono ?_
      rintro e w6 ⟨nv, rfl, h6, b6⟩
      have b46 := bchain b5 b6
      have H6 := hid h6
      clear h5 h6 b5 b6 HH4 HLo5 HLo
      go_wp2
      go_roundw
      case rel =>
        have h1 := FS.out.1
        exact ⟨_, H6.out, h1.trans HX.out, HM4.out.up b46, HC4.out.up b46, HB4.out.trans (b46.mono HB4.out.size)⟩
      case measure =>
        rw [H6.out.mval, HA.out.mval]
        exact FS.out.2
    · have HLT : Hid (X' < T24) := by
        have h1 := val_lt 4294967296 (by decide) l e4
        have h2 : 4294967296 ^ l.length ≤ T24 := Nat.pow_le_pow_right (by decide) (by omega)
        show _ < _
        omega
      have i0 : decide ((24 : Int) < (l.length : Int)) = false := by simp; omega
      clear e1 e2 e3 e4 e5 e6
      have HB := hid hb
      clear hb
      go_wp2_with fail
      go_loopw [0] (fun a wr => ∃ X', Dg wr a X' ∧ X' % M = X % M ∧ Dg wr mv M ∧ Below w.heap.size w wr) (fun a wr => mval wr a)
      case atStart => exact ⟨X', HA.out, HX.out, HM3.out, HB.out⟩
      case round =>
        clear HA HX HM3 HC3 HB HLT i0
        obtain ⟨Y, ha, hx, hm, hb⟩ := hrel
        have HA := hid ha
        have HX := hid hx
        have HM3 := hid hm
        clear ha hx hm
        go_wp2_with fail
        refine (gCmp_c u0 mv Y M _ HA.out HM3.out).mono ?_
        rintro e w' ⟨rfl, rfl⟩
        rcases Nat.lt_or_ge Y M with hlt' | hge
        · have hd : decide (0 ≤ cmpN Y M) = false := cmpN_lt' hlt'
          have R : Hid (Dg wr u0 (X % M)) := by
            have := HX.out
            rw [Nat.mod_eq_of_lt hlt'] at this
            rw [← this]
            exact HA.out
          clear hlt'
          go_wp2
          go_ret
          exact ⟨_, rfl, R.out, hb⟩
        · have hd : decide (0 ≤ cmpN Y M) = true := cmpN_ge hge
          have HGE := hid hge
          clear hge
          go_wp2_with fail
          refine (gSub_c u0 mv Y M wr HA.out HM3.out HGE.out).mono ?_
          rintro e w7 ⟨sv, rfl, h7, b7⟩
          have H7 := hid h7
          clear h7 hd
          go_wp2
          go_roundw
          case rel =>
            refine ⟨_, H7.out, ?_, HM3.out.up b7, hb.trans (b7.mono hb.size)⟩
            rw [← HX.out]
            exact (Nat.mod_eq_sub_mod HGE.out).symm
          case measure =>
            rw [H7.out.mval, HA.out.mval]
            have := HGE.out
            have := H0.out
            omega
end Go.Proofs.YtfonpmahcdmajaaDoor
