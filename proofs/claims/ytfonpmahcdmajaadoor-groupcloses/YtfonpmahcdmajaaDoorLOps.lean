/-
  (*Modulus).Reduce, shorten, Mul, Len, Words: what each call does.
-/
import Derived.Test.YtfonpmahcdmajaaDoorLRest
import Derived.Test.YtfonpmahcdmajaaDoorRefC
namespace Go.Proofs.YtfonpmahcdmajaaDoor
open Go.RowKit
set_option linter.unusedVariables false

theorem pv_nil (W k : Nat) : pv W [] k = 0 := by
  induction k with
  | zero => rfl
  | succ k ih => rw [pv_succ, ih]; simp
theorem pv_zeros (W : Nat) (l : List Nat) (k m : Nat) (h : ∀ j, k ≤ j → l.getD j 0 = 0) (hm : k ≤ m) : pv W l m = pv W l k := by
  have := pv_tail W l [] k m (fun j hj => by rw [h j hj]; simp) hm
  rw [pv_nil, pv_nil] at this
  omega

/-- copy of the words of a slice into a new block of zeros. -/
theorem copy_words {ops : Array Oper} {rest : List Oper} {o : Oper} {a : Act} {Q : Exit → Act → World → Prop} {w w0 : World} {tb : TypeId} (hgd : o.guard = none) (d s : Operand)
    (ho : o.op = .call { callee := .builtin .copy, args := #[d, s], argTypes := #[39, 39] }) (g N c : Nat) (hd : a.eval d = .slice (some ⟨g, 0, none⟩) N c) (A : Option Addr) (n cs B : Nat) (l : List Nat)
    (hs : a.eval s = .slice A n cs) (hr : Rd w B A n l) (hN : n ≤ N) (hB : BlkW w g tb (List.replicate N 0)) (hb : Below g w0 w)
    (h : ∀ w', BlkW w' g tb (l ++ List.replicate (N - n) 0) → Below g w0 w' → wpList Tryd.prog ops Q rest (a.put o.dst (goInt n)) w') : wpList Tryd.prog ops Q (o :: rest) a w := by
  have hlen : (cellsOf64 l).length = n := by simp [cellsOf64, hr.len]
  refine wpList_copy_splice hgd d s 39 39 ho 22 Tryd.underlying39 (by kernel_rfl) (some ⟨g, 0, none⟩) A N c n cs hd hs g 0 ((List.replicate N 0).map fun (x : Nat) => Value.int .u64 (x : Int)) tb hB.heap (cellsOf64 l)
    (by rw [hlen]; exact (Nat.min_eq_left hN).symm) ?_ (by rw [hlen]; simp; exact hN) ?_ g w0 hb (Nat.le_refl _) ?_
  · intro hp
    rw [hlen] at hp
    obtain ⟨b, off, e, _, hc⟩ := hr.cells hp
    refine ⟨rfl, ⟨b, off, none⟩, e, fun j v hj => ?_⟩
    have hadd : (⟨b, off, none⟩ : Addr).add j = ⟨b, off + j, none⟩ := by unfold Addr.add; split <;> simp_all
    have hjl : j < l.length := by
      have := (List.getElem?_eq_some_iff.1 hj).1
      simpa [cellsOf64] using this
    rw [hadd, hc j (by rw [← hr.len]; exact hjl), ← hj]
    simp [cellsOf64, at64, List.getElem?_eq_getElem hjl, List.getD_eq_getElem?_getD]
  · intro u hu
    simp only [cellsOf64, List.mem_map] at hu
    obtain ⟨y, _, rfl⟩ := hu
    rfl
  · intro w' hg hb'
    rw [hlen]
    refine h w' ⟨?_, ?_⟩ hb'
    · have e : splice ((List.replicate N 0).map fun (x : Nat) => Value.int .u64 (x : Int)) 0 (cellsOf64 l) = (l ++ List.replicate (N - n) 0).map fun (x : Nat) => Value.int .u64 (x : Int) := by
        unfold splice
        rw [hlen]
        simp [cellsOf64]
      rw [← e]; exact hg
    · intro x hx
      rcases List.mem_append.1 hx with h' | h'
      · exact hr.lt x h'
      · have := List.eq_of_mem_replicate h'; omega

theorem getD_app_zeros (l : List Nat) (k j : Nat) : (l ++ List.replicate k 0).getD j 0 = l.getD j 0 := by
  by_cases hj : j < l.length
  · simp [List.getD_eq_getElem?_getD, List.getElem?_append_left hj]
  · rw [getD_out l j (by omega), List.getD_eq_getElem?_getD, List.getElem?_append_right (by omega), List.getElem?_replicate]
    split <;> rfl
theorem val_app_zeros (W : Nat) (l : List Nat) (k : Nat) : val W (l ++ List.replicate k 0) = val W l := by
  unfold val
  rw [pv_congr W (l ++ List.replicate k 0) l _ fun i _ => getD_app_zeros l k i, pv_out W l _ (by simp)]
  rfl

/-- What rest leaves, as a slice that is read. -/
theorem wds_of_rest {w w' : World} {b N n X : Nat} {ws : List Nat} (hl : ws.length = N) (hB : BlkW w' b 22 ws) (hb : Below w.heap.size w w') (hn : n ≤ N) (h : pv 18446744073709551616 ws n = X) :
    Wds w (.returned (.slice (some ⟨b, 0, none⟩) n n)) w' n X := by
  refine ⟨_, _, _, rfl, Nat.le_refl _, hB.rd (off := 0) (n := n) (by omega) hB.size, ?_, hb⟩
  rw [List.drop_zero, ← h, ← pv_take _ ws n n (Nat.le_refl _), pv_out _ (ws.take n) n (by simp; omega)]

set_option maxHeartbeats 1000000 in
theorem reduce_c (A : Option Addr) (na ca p : Nat) (la l : List Nat) (w : World) (ha : Rd w w.heap.size A na la) (hM : ModP w p l) (hna : na ≤ 5000) :
    Calls Tryd.prog 54 #[.pointer (some ⟨p, 0, none⟩), .slice A na ca] w fun e w' => Wds w e w' l.length (val 18446744073709551616 la % val 18446744073709551616 l) := by
  obtain ⟨N, hN⟩ : ∃ N, N = max na l.length + 1 := ⟨_, rfl⟩
  have hl16 := hM.rt.2.1
  have hN1 : na + 1 ≤ N := by omega
  have hN2 : l.length + 1 ≤ N := by omega
  have hN3 : N ≤ 10000 := by omega
  have HN := hid hN
  clear hN
  go_enter Tryd.func54, Tryd.ntmps54
  go_wp2_with fail
  refine (room_c p N na l w hM _ rfl (by omega) HN.out).mono ?_
  rintro e w1 ⟨rfl, hB1, hb1⟩
  have ra1 := ha.below hb1 (Nat.le_refl _)
  have hM1 := hM.keep hb1 hM.lt
  go_wp2_with (with_reducible refine copy_words (w0 := w) rfl (.tmp 10) (.tmp 11) rfl w.heap.size N N rfl A na ca w.heap.size la rfl ra1 (by omega) hB1 hb1 ?_)
  intro w2 hB2 hb2
  have hM2 := hM.keep hb2 hM.lt
  have hlast : (la ++ List.replicate (N - na) 0).getD (N - 1) 0 = 0 := by
    rw [getD_app_zeros, getD_out _ _ (by rw [ha.len]; omega)]
  have hlen : (la ++ List.replicate (N - na) 0).length = N := by rw [List.length_append, ha.len, List.length_replicate]; omega
  have HC := hid (rest_c p w.heap.size N l (la ++ List.replicate (N - na) 0) w2 hM2 hB2 hlen hM.lt hN2 hN3 hlast N (Nat.le_refl _))
  clear hlast hlen hM1 ra1
  go_wp2_with fail
  refine HC.out.mono ?_
  rintro e w3 ⟨rfl, ws, hl3, hB3, hb3, he3⟩
  rw [val_app_zeros] at he3
  have R := hid (wds_of_rest (w := w) hl3 hB3 (hb2.trans hb3) (by omega) he3)
  clear hl3 he3
  go_wp2
  go_ret
  exact R.out

set_option maxHeartbeats 1000000 in
theorem shorten_c (A : Option Addr) (na ca p : Nat) (la l : List Nat) (w : World) (ha : Rd w w.heap.size A na la) (hM : ModP w p l) (hna : na ≤ 5000) :
    Calls Tryd.prog 90 #[.pointer (some ⟨p, 0, none⟩), .slice A na ca] w fun e w' => ∃ A' n' c' l', e = .returned (.slice A' n' c') ∧ Rd w' w'.heap.size A' n' l' ∧ n' ≤ 16 ∧
      val 18446744073709551616 l' % val 18446744073709551616 l = val 18446744073709551616 la % val 18446744073709551616 l ∧ Below w.heap.size w w' := by
  obtain ⟨bw, ow, cw, br, cr, s, lr, h1, h2, h3, h4, h5, h6, h7, h8, h9, h10⟩ := id hM
  have hl16 := h10.2.1
  have H7 := hid h7
  clear h7
  by_cases hlt : l.length < na
  · have HC := hid (reduce_c A na ca p la l w ha hM hna)
    have hd : decide (l.length < na) = true := by simpa using hlt
    clear hM
    go_enter Tryd.func90, Tryd.ntmps90
    go_wp2_with fail
    refine HC.out.mono ?_
    rintro e w1 ⟨A1, c1, l1, rfl, hc1, rd1, v1, b1⟩
    have R : Hid (val 18446744073709551616 l1 % val 18446744073709551616 l = val 18446744073709551616 la % val 18446744073709551616 l) := by show _ = _; rw [v1, Nat.mod_mod]
    clear v1 HC
    go_wp2
    go_ret
    exact ⟨A1, _, c1, l1, rfl, rd1, hl16, R.out, b1⟩
  · have hd : decide (l.length < na) = false := by simpa using hlt
    clear hM
    go_enter Tryd.func90, Tryd.ntmps90
    go_wp2
    go_ret
    exact ⟨A, na, ca, la, rfl, ha, by omega, rfl, Below.refl _ _⟩

set_option maxHeartbeats 1000000 in
theorem mmul_c (A B : Option Addr) (na nb ca cb p : Nat) (la lb l : List Nat) (w : World) (ha : Rd w w.heap.size A na la) (hb : Rd w w.heap.size B nb lb) (hM : ModP w p l) (hna : na ≤ 5000) (hnb : nb ≤ 5000) :
    Calls Tryd.prog 57 #[.pointer (some ⟨p, 0, none⟩), .slice A na ca, .slice B nb cb] w fun e w' => Wds w e w' l.length (val 18446744073709551616 la * val 18446744073709551616 lb % val 18446744073709551616 l) := by
  have hl16 := hM.rt.2.1
  go_enter Tryd.func57, Tryd.ntmps57
  go_wp2_with fail
  refine (shorten_c A na ca p la l w ha hM hna).mono ?_
  rintro e w1 ⟨A1, n1, c1, l1, rfl, rd1, hn1, v1, b1⟩
  have hM1 := hM.keep b1 hM.lt
  have rb1 := hb.up b1 (Nat.le_refl _)
  have HV1 := hid v1
  clear v1
  go_wp2_with fail
  refine (shorten_c B nb cb p lb l w1 rb1 hM1 hnb).mono ?_
  rintro e w2 ⟨A2, n2, c2, l2, rfl, rd2, hn2, v2, b2⟩
  have hM2 := hM1.keep b2 hM1.lt
  have rd12 := rd1.up b2 (Nat.le_refl _)
  have b12 : Below w.heap.size w w2 := b1.trans (b2.mono b1.size)
  have HV2 := hid v2
  obtain ⟨N, hN⟩ : ∃ N, N = max (n1 + n2) l.length + 1 := ⟨_, rfl⟩
  have hN1 : n1 + n2 + 1 ≤ N := by omega
  have hN2 : l.length + 1 ≤ N := by omega
  have hN3 : N ≤ 10000 := by omega
  have HN := hid hN
  clear hN v2
  go_wp2_with fail
  refine (room_c p N (n1 + n2) l w2 hM2 _ (by omega) (by omega) HN.out).mono ?_
  rintro e w3 ⟨rfl, hB3, hb3⟩
  have rd13 := rd12.below hb3 (Nat.le_refl _)
  have rd23 := rd2.below hb3 (Nat.le_refl _)
  go_wp2_with fail
  refine (multiply_c A1 A2 w2.heap.size N n1 n2 N c1 c2 l1 l2 w3 hB3 (by omega) (Nat.le_refl _) rd13 rd23 (by omega)).mono ?_
  rintro e w4 ⟨rfl, ws, hl4, hB4, hb4, hz4, he4⟩
  have hb34 := hb3.trans hb4
  have hM4 := hM2.keep hb34 hM2.lt
  have hlast : ws.getD (N - 1) 0 = 0 := hz4 _ (by omega)
  have hval : val 18446744073709551616 ws = val 18446744073709551616 l1 * val 18446744073709551616 l2 := by
    have e1 : val 18446744073709551616 ws = pv 18446744073709551616 ws (n1 + n2) := by
      unfold val; rw [hl4]; exact pv_zeros _ _ _ _ hz4 (by omega)
    rw [e1, he4, pv_out _ l1 n1 (by rw [rd13.len]; exact Nat.le_refl _), pv_out _ l2 n2 (by rw [rd23.len]; exact Nat.le_refl _)]
  have HC := hid (rest_c p w2.heap.size N l ws w4 hM4 hB4 hl4 hM2.lt hN2 hN3 hlast N (Nat.le_refl _))
  have HVAL := hid hval
  clear hlast hl4 hz4 he4 hval
  go_wp2_with fail
  refine HC.out.mono ?_
  rintro e w5 ⟨rfl, ws5, hl5, hB5, hb5, he5⟩
  rw [HVAL.out, Nat.mul_mod, HV1.out, HV2.out, ← Nat.mul_mod] at he5
  have R := hid (wds_of_rest (w := w) hl5 hB5 (b12.trans ((hb34.trans hb5).mono b12.size)) (by omega) he5)
  clear hl5 he5 HC
  go_wp2
  go_ret
  exact R.out

theorem mwords_c (p : Nat) (l : List Nat) (w : World) (hM : ModP w p l) :
    Calls Tryd.prog 53 #[.pointer (some ⟨p, 0, none⟩)] w fun e w' => Wds w e w' l.length (val 18446744073709551616 l) := by
  obtain ⟨bw, ow, cw, br, cr, s, lr, h1, h2, h3, h4, h5, h6, h7, h8, h9, h10⟩ := hM
  have hl1 := h10.1
  have hl16 := h10.2.1
  have rd := h4.more (Nat.le_of_lt h9)
  clear h7
  go_enter Tryd.func53, Tryd.ntmps53
  go_wp2_with fail
  refine (clone_c bw ow l.length cw l w rd hl1 (by omega)).mono ?_
  rintro e w1 ⟨g, k, rfl, hg, hB, hb⟩
  have R : Hid (Wds w (.returned (.slice (some ⟨g, 0, none⟩) l.length (l.length + k))) w1 l.length (val 18446744073709551616 l)) := by
    refine ⟨_, _, _, rfl, by omega, hB.rd (off := 0) (n := l.length) (by simp) hB.size, ?_, hb⟩
    rw [List.drop_zero, List.take_append_of_le_length (Nat.le_refl _), List.take_length]
  go_wp2
  go_ret
  exact R.out
end Go.Proofs.YtfonpmahcdmajaaDoor
