import Derived.Test.YtdepkfdceidikaaDoorRefA
import Derived.Test.YtdepkfdceidikaaDoorLMul
import Derived.Test.YtdepkfdceidikaaDoorLRest
import Derived.Test.YtdepkfdceidikaaDoorBytes0
import Derived.Test.YtdepkfdceidikaaDoorLShift
/-
  avouchref01.Same, Cmp, Words: what each call does.
-/
namespace Go.Proofs.YtdepkfdceidikaaDoor
open Go.RowKit
set_option linter.unusedVariables false

/-- No block has turned, at any number. -/
def Still (w w' : World) : Prop := ∀ B, Below B w w'
theorem Still.refl (w : World) : Still w w := fun B => Below.refl B w
theorem Still.drewN {w w' : World} (h : Still w w') (n : Nat) : Still w (w'.drewN n) := fun B => below_drewN (h B) n
theorem Still.trans {a b c : World} (h : Still a b) (k : Still b c) : Still a c := fun B => (h B).trans (k B)

theorem same_of_all {la lb : List Nat} (hl : la.length = lb.length) (h : ∀ j, j < la.length → la.getD j 0 = lb.getD j 0) : la = lb := by
  apply List.ext_getElem hl
  intro i h1 h2
  have := h i h1
  simpa [List.getD_eq_getElem?_getD, List.getElem?_eq_getElem h1, List.getElem?_eq_getElem h2] using this

set_option maxHeartbeats 800000 in
theorem refCmp_c (A B : Option Addr) (na nb ca cb : Nat) (la lb : List Nat) (w : World) (C : Nat) (ha : Rd w C A na la) (hb : Rd w C B nb lb) (da : D32 la) (db : D32 lb) (hna : na ≤ 100000) (hnb : nb ≤ 100000) :
    Calls Tryd.prog 76 #[.slice A na ca, .slice B nb cb] w fun e w' => e = .returned (.int .i64 (cmpN (val 4294967296 la) (val 4294967296 lb))) ∧ w = w' := by
  have hla : la.length ≤ na + nb + 1 := by rw [ha.len]; omega
  have hlb : lb.length ≤ na + nb + 1 := by rw [hb.len]; omega
  go_enter Tryd.func76, Tryd.ntmps76
  go_wp2
  go_loop [5] (fun i => ∃ k : Nat, k ≤ na + nb + 1 ∧ i = .int .i64 ((k : Int) - 1) ∧ Hid (∀ j, k ≤ j → la.getD j 0 = lb.getD j 0)) (fun i => (intOf i + 1).toNat)
  case atStart =>
    refine ⟨na + nb + 1, Nat.le_refl _, by go_num, fun j hj => ?_⟩
    rw [getD_out la j (by omega), getD_out lb j (by omega)]
  case round =>
    obtain ⟨k, hk, rfl, H⟩ := hrel
    rcases k with _ | k
    · have HV : Hid (cmpN (val 4294967296 la) (val 4294967296 lb) = 0) := by
        show _ = _
        rw [← pv_out _ la _ hla, ← pv_out _ lb _ hlb, pv_congr _ la lb _ (fun i _ => H.out i (Nat.zero_le _)), cmpN_eq]
      go_wp2
      go_ret
      exact ⟨ret_int HV.out.symm, rfl⟩
    · have e1 : (((k + 1 : Nat) : Int) - 1) = (k : Int) := by omega
      rw [e1]
      have hk' : (k : Int) ≤ 200000 := by omega
      rcases Nat.lt_trichotomy (la.getD k 0) (lb.getD k 0) with hq | hq | hq
      · have hq' : at64 la k < at64 lb k := by unfold at64; omega
        have HV : Hid (cmpN (val 4294967296 la) (val 4294967296 lb) = -1) := by
          show _ = _
          rw [← pv_out _ la _ hla, ← pv_out _ lb _ hlb]
          exact cmpN_lt (pv_less _ (by decide) la lb da k _ (fun j hj => H.out j hj) hq (by omega))
        clear hq e1
        go_wp2_with (go_at_call 91; (first | (with_reducible refine (get_c A na ca _ la k _ ha).mono ?_) | (with_reducible refine (get_c B nb cb _ lb k _ hb).mono ?_)); rintro e w' ⟨rfl, rfl⟩)
        go_ret
        exact ⟨ret_int HV.out.symm, rfl⟩
      · have hq' : at64 la k = at64 lb k := by unfold at64; omega
        have hq1 : ¬ at64 la k < at64 lb k := by omega
        have hq2 : ¬ at64 lb k < at64 la k := by omega
        have H2 : Hid (∀ j, k ≤ j → la.getD j 0 = lb.getD j 0) := by
          intro j hj
          by_cases h : j = k
          · subst h; exact hq
          · exact H.out j (by omega)
        clear hq e1 hq'
        go_wp2_with (go_at_call 91; (first | (with_reducible refine (get_c A na ca _ la k _ ha).mono ?_) | (with_reducible refine (get_c B nb cb _ lb k _ hb).mono ?_)); rintro e w' ⟨rfl, rfl⟩)
        go_round
        case rel => exact ⟨k, by omega, rfl, H2⟩
        case measure => simp [intOf]
      · have hq' : at64 lb k < at64 la k := by unfold at64; omega
        have hq1 : ¬ at64 la k < at64 lb k := by omega
        have HV : Hid (cmpN (val 4294967296 la) (val 4294967296 lb) = 1) := by
          show _ = _
          rw [← pv_out _ la _ hla, ← pv_out _ lb _ hlb]
          exact cmpN_gt (pv_less _ (by decide) lb la db k _ (fun j hj => (H.out j hj).symm) hq (by omega))
        clear hq e1
        go_wp2_with (go_at_call 91; (first | (with_reducible refine (get_c A na ca _ la k _ ha).mono ?_) | (with_reducible refine (get_c B nb cb _ lb k _ hb).mono ?_)); rintro e w' ⟨rfl, rfl⟩)
        go_ret
        exact ⟨ret_int HV.out.symm, rfl⟩
end Go.Proofs.YtdepkfdceidikaaDoor
/-
  avouchref01.Words, Digits, Sub: what each call does.
-/
namespace Go.Proofs.YtdepkfdceidikaaDoor
open Go.RowKit
set_option linter.unusedVariables false

theorem Rd.drewN {w : World} {B n : Nat} {A : Option Addr} {l : List Nat} (h : Rd w B A n l) (k : Nat) : Rd (w.drewN k) B A n l := ⟨h.len, h.lt, h.cells⟩
theorem get_ci (A : Option Addr) (n c B : Nat) (l : List Nat) (k : Nat) (i : Int) (hi : i = (k : Int)) (w : World) (h : Rd w B A n l) :
    Calls Tryd.prog 91 #[.slice A n c, .int .i64 i] w fun e w' => e = .returned (.int .u64 (at64 l k)) ∧ w = w' := by
  subst hi; exact get_c A n c B l k w h
theorem get_s (A : Option Addr) (n c B : Nat) (l : List Nat) (k : Nat) (w : World) (h : Rd w B A n l) :
    Calls Tryd.prog 91 #[.slice A n c, .int .i64 k] w fun e w' => e = .returned (.int .u64 (at64 l k)) ∧ w' = w :=
  (get_c A n c B l k w h).mono fun _ _ ⟨h1, h2⟩ => ⟨h1, h2.symm⟩

/-- The slice of e is new, has n words, and reads as a list whose number is X. -/
def Wds (w : World) (e : Ending) (w' : World) (n X : Nat) : Prop :=
  ∃ A c l, e = .returned (.slice A n c) ∧ n ≤ c ∧ Rd w' w'.heap.size A n l ∧ val 18446744073709551616 l = X ∧ Below w.heap.size w w'

theorem pv_mod (W : Nat) (hW : 0 < W) (l : List Nat) (h : ∀ x ∈ l, x < W) (k : Nat) : pv W l k = val W l % W ^ k := by
  by_cases hk : l.length ≤ k
  · have b := val_lt W hW l h
    have : W ^ l.length ≤ W ^ k := Nat.pow_le_pow_right hW hk
    rw [pv_out W l k hk, Nat.mod_eq_of_lt (by omega)]
  · have e := pv_drop W l k (l.length - k)
    rw [show k + (l.length - k) = l.length by omega] at e
    have b := pv_lt W hW l h k
    unfold val
    rw [e, Nat.add_mul_mod_self_left, Nat.mod_eq_of_lt b]

theorem words_step (v p x y P : Nat) (h : v = p) : v + (x + y * 4294967296) * P = (p + x * P) + y * (P * 4294967296) := by subst h; grind
theorem pow64 (k : Nat) : 18446744073709551616 ^ k = 4294967296 ^ (2 * k) := by
  rw [Nat.pow_mul]

end Go.Proofs.YtdepkfdceidikaaDoor
/-
  (*Modulus).Reduce, shorten, Mul, Len, Words: what each call does.
-/
namespace Go.Proofs.YtdepkfdceidikaaDoor
open Go.RowKit
set_option linter.unusedVariables false

theorem pv_nil (W k : Nat) : pv W [] k = 0 := by
  induction k with
  | zero => rfl
  | succ k ih => rw [pv_succ, ih]; simp
theorem pv_zeros (W : Nat) (l : List Nat) (k m : Nat) (h : ∀ j, k ≤ j → l.getD j 0 = 0) (hm : k ≤ m) : pv W l m = pv W l k := by
  have := pv_tail W l [] k m (fun j hj => by rw [h j hj]; simp) hm
  rw [pv_nil, pv_nil] at this
  omega

/-- copy of the words of a slice into a new block of zeros. -/
theorem copy_words {ops : Array Oper} {rest : List Oper} {o : Oper} {a : Act} {Q : Exit → Act → World → Prop} {w w0 : World} {tb : TypeId} (hgd : o.guard = none) (d s : Operand)
    (ho : o.op = .call { callee := .builtin .copy, args := #[d, s], argTypes := #[32, 32] }) (g N c : Nat) (hd : a.eval d = .slice (some ⟨g, 0, none⟩) N c) (A : Option Addr) (n cs B : Nat) (l : List Nat)
    (hs : a.eval s = .slice A n cs) (hr : Rd w B A n l) (hN : n ≤ N) (hB : BlkW w g tb (List.replicate N 0)) (hb : Below g w0 w)
    (h : ∀ w', BlkW w' g tb (l ++ List.replicate (N - n) 0) → Below g w0 w' → wpList Tryd.prog ops Q rest (a.put o.dst (goInt n)) w') : wpList Tryd.prog ops Q (o :: rest) a w := by
  have hlen : (cellsOf64 l).length = n := by simp [cellsOf64, hr.len]
  refine wpList_copy_splice hgd d s 32 32 ho 24 Tryd.underlying32 (by kernel_rfl) (some ⟨g, 0, none⟩) A N c n cs hd hs g 0 ((List.replicate N 0).map fun (x : Nat) => Value.int .u64 (x : Int)) tb hB.heap (cellsOf64 l)
    (by rw [hlen]; exact (Nat.min_eq_left hN).symm) ?_ (by rw [hlen]; simp; exact hN) ?_ g w0 hb (Nat.le_refl _) ?_
  · intro hp
    rw [hlen] at hp
    obtain ⟨b, off, e, _, hc⟩ := hr.cells hp
    refine ⟨rfl, ⟨b, off, none⟩, e, fun j v hj => ?_⟩
    have hadd : (⟨b, off, none⟩ : Addr).add j = ⟨b, off + j, none⟩ := by unfold Addr.add; split <;> simp_all
    have hjl : j < l.length := by
      have := (List.getElem?_eq_some_iff.1 hj).1
      simpa [cellsOf64] using this
    rw [hadd, hc j (by rw [← hr.len]; exact hjl), ← hj]
    simp [cellsOf64, at64, List.getElem?_eq_getElem hjl, List.getD_eq_getElem?_getD]
  · intro u hu
    simp only [cellsOf64, List.mem_map] at hu
    obtain ⟨y, _, rfl⟩ := hu
    rfl
  · intro w' hg hb'
    rw [hlen]
    refine h w' ⟨?_, ?_⟩ hb'
    · have e : splice ((List.replicate N 0).map fun (x : Nat) => Value.int .u64 (x : Int)) 0 (cellsOf64 l) = (l ++ List.replicate (N - n) 0).map fun (x : Nat) => Value.int .u64 (x : Int) := by
        unfold splice
        rw [hlen]
        simp [cellsOf64]
      rw [← e]; exact hg
    · intro x hx
      rcases List.mem_append.1 hx with h' | h'
      · exact hr.lt x h'
      · have := List.eq_of_mem_replicate h'; omega

theorem getD_app_zeros (l : List Nat) (k j : Nat) : (l ++ List.replicate k 0).getD j 0 = l.getD j 0 := by
  by_cases hj : j < l.length
  · simp [List.getD_eq_getElem?_getD, List.getElem?_append_left hj]
  · rw [getD_out l j (by omega), List.getD_eq_getElem?_getD, List.getElem?_append_right (by omega), List.getElem?_replicate]
    split <;> rfl
theorem val_app_zeros (W : Nat) (l : List Nat) (k : Nat) : val W (l ++ List.replicate k 0) = val W l := by
  unfold val
  rw [pv_congr W (l ++ List.replicate k 0) l _ fun i _ => getD_app_zeros l k i, pv_out W l _ (by simp)]
  rfl

/-- What rest leaves, as a slice that is read. -/
theorem wds_of_rest {w w' : World} {b N n X : Nat} {ws : List Nat} (hl : ws.length = N) (hB : BlkW w' b 24 ws) (hb : Below w.heap.size w w') (hn : n ≤ N) (h : pv 18446744073709551616 ws n = X) :
    Wds w (.returned (.slice (some ⟨b, 0, none⟩) n n)) w' n X := by
  refine ⟨_, _, _, rfl, Nat.le_refl _, hB.rd (off := 0) (n := n) (by omega) hB.size, ?_, hb⟩
  rw [List.drop_zero, ← h, ← pv_take _ ws n n (Nat.le_refl _), pv_out _ (ws.take n) n (by simp; omega)]

set_option maxHeartbeats 1000000 in
theorem reduce_c (A : Option Addr) (na ca p : Nat) (la l : List Nat) (w : World) (ha : Rd w w.heap.size A na la) (hM : ModP w p l) (hna : na ≤ 5000) :
    Calls Tryd.prog 24 #[.pointer (some ⟨p, 0, none⟩), .slice A na ca] w fun e w' => Wds w e w' l.length (val 18446744073709551616 la % val 18446744073709551616 l) := by
  obtain ⟨N, hN⟩ : ∃ N, N = max na l.length + 1 := ⟨_, rfl⟩
  have hl16 := hM.rt.2.1
  have hN1 : na + 1 ≤ N := by omega
  have hN2 : l.length + 1 ≤ N := by omega
  have hN3 : N ≤ 10000 := by omega
  have HN := hid hN
  clear hN
  go_enter Tryd.func24, Tryd.ntmps24
  go_wp2_with fail
  refine (room_c p N na l w hM _ rfl (by omega) HN.out).mono ?_
  rintro e w1 ⟨rfl, hB1, hb1⟩
  have ra1 := ha.below hb1 (Nat.le_refl _)
  have hM1 := hM.keep hb1 hM.lt
  go_wp2_with (with_reducible refine copy_words (w0 := w) rfl (.tmp 10) (.tmp 11) rfl w.heap.size N N rfl A na ca w.heap.size la rfl ra1 (by omega) hB1 hb1 ?_)
  intro w2 hB2 hb2
  have hM2 := hM.keep hb2 hM.lt
  have hlast : (la ++ List.replicate (N - na) 0).getD (N - 1) 0 = 0 := by
    rw [getD_app_zeros, getD_out _ _ (by rw [ha.len]; omega)]
  have hlen : (la ++ List.replicate (N - na) 0).length = N := by rw [List.length_append, ha.len, List.length_replicate]; omega
  have HC := hid (rest_c p w.heap.size N l (la ++ List.replicate (N - na) 0) w2 hM2 hB2 hlen hM.lt hN2 hN3 hlast N (Nat.le_refl _))
  clear hlast hlen hM1 ra1
  go_wp2_with fail
  refine HC.out.mono ?_
  rintro e w3 ⟨rfl, ws, hl3, hB3, hb3, he3⟩
  rw [val_app_zeros] at he3
  have R := hid (wds_of_rest (w := w) hl3 hB3 (hb2.trans hb3) (by omega) he3)
  clear hl3 he3
  go_wp2
  go_ret
  exact R.out

end Go.Proofs.YtdepkfdceidikaaDoor
/-
  limb.Bytes, avouchref01.Bytes: what each call does.
-/
namespace Go.Proofs.YtdepkfdceidikaaDoor
open Go.RowKit
set_option linter.unusedVariables false

/-- The slice of e is new, has n bytes, and reads as a list whose number is X. -/
def Bts (w : World) (e : Ending) (w' : World) (n X : Nat) : Prop :=
  ∃ A c l, e = .returned (.slice A n c) ∧ n ≤ c ∧ Rd8 w' w'.heap.size A n l ∧ val 256 l = X ∧ Below w.heap.size w w'

theorem pow256 (k j : Nat) : 256 ^ (8 * k + j) = 256 ^ j * 18446744073709551616 ^ k := by
  rw [Nat.pow_add, Nat.pow_mul, Nat.mul_comm]
theorem byte_step (p x j P : Nat) : p + x % 256 ^ j * P + x / 256 ^ j % 256 * (256 ^ j * P) = p + x % 256 ^ (j + 1) * P := by
  have e : x % 256 ^ (j + 1) = x % 256 ^ j + 256 ^ j * (x / 256 ^ j % 256) := by rw [Nat.pow_succ, Nat.mod_mul]
  rw [e]
  generalize x / 256 ^ j % 256 = y
  generalize x % 256 ^ j = z
  generalize 256 ^ j = Q
  grind
theorem octet_at (x j : Nat) : (x : Int) / 2 ^ (8 * j) % 256 = ((x / 256 ^ j % 256 : Nat) : Int) := by
  have e : ((2 : Int) ^ (8 * j)) = ((256 ^ j : Nat) : Int) := by rw [Int.pow_mul]; simp
  rw [e, ← Int.natCast_ediv]; omega
theorem word_mod (x : Nat) (h : x < 18446744073709551616) : x % 256 ^ 8 = x := Nat.mod_eq_of_lt h
theorem ownB_empty (w : World) : OwnB (w.alloc (.cells #[] 5)) w.heap.size (.slice (some ⟨w.heap.size, 0, none⟩) 0 0) [] :=
  ⟨World.ownsRow_made w #[] 0 (Nat.le_refl _) (Nat.zero_le _) rfl, fun x hx => by simp at hx⟩

end Go.Proofs.YtdepkfdceidikaaDoor
/-
  limb.Words, avouchref01.OfBytes: what each call does.
-/
namespace Go.Proofs.YtdepkfdceidikaaDoor
open Go.RowKit
set_option linter.unusedVariables false

theorem pv_empty (W k : Nat) : pv W [] k = 0 := by
  induction k with
  | zero => rfl
  | succ k ih => rw [pv_succ, ih]; simp
theorem pv_drop_out (W : Nat) (l : List Nat) (i k k' : Nat) (h : l.length ≤ i + k) (h' : l.length ≤ i + k') : pv W (l.drop i) k = pv W (l.drop i) k' := by
  rw [pv_out W _ k (by simp; omega), pv_out W _ k' (by simp; omega)]
theorem pv_chunks (c : Nat) (ws b : List Nat) (m : Nat) (h : ∀ j, j < m → ws.getD j 0 = pv 256 (b.drop (c * j)) c) : pv (256 ^ c) ws m = pv 256 b (c * m) := by
  induction m with
  | zero => rfl
  | succ m ih => rw [pv_succ, ih fun j hj => h j (by omega), h m (by omega), Nat.mul_succ, pv_drop, ← Nat.pow_mul, Nat.mul_comm (pv 256 (List.drop (c * m) b) c)]
theorem lt8_drop {b : List Nat} (h : allLt8 b) (i : Nat) : allLt8 (b.drop i) := fun x hx => h x (List.mem_of_mem_drop hx)

/-- Word j of the words of b, when k bytes are laid. -/
def wb (b : List Nat) (k j : Nat) : Nat := pv 256 (b.drop (8 * j)) (min (k - 8 * j) 8)
theorem wb_lt (b : List Nat) (h : allLt8 b) (k j : Nat) : wb b k j < 18446744073709551616 := by
  have h1 := pv_lt 256 (by decide) _ (lt8_drop h (8 * j)) (min (k - 8 * j) 8)
  have h2 : 256 ^ min (k - 8 * j) 8 ≤ 256 ^ 8 := Nat.pow_le_pow_right (by decide) (Nat.min_le_right _ _)
  unfold wb; omega
theorem wb_at (b : List Nat) (k q r : Nat) (hk : k = 8 * q + r) (hr : r < 8) : wb b (k + 1) q = wb b k q + b.getD k 0 * 256 ^ r := by
  unfold wb
  rw [show min (k + 1 - 8 * q) 8 = r + 1 by omega, show min (k - 8 * q) 8 = r by omega, pv_succ, getD_drop, ← hk]
theorem wb_small (b : List Nat) (h : allLt8 b) (k q r : Nat) (hk : k = 8 * q + r) (hr : r < 8) : wb b k q < 256 ^ r := by
  have h1 := pv_lt 256 (by decide) _ (lt8_drop h (8 * q)) r
  unfold wb
  rw [show min (k - 8 * q) 8 = r by omega]; exact h1
theorem wb_ne (b : List Nat) (k q r j : Nat) (hk : k = 8 * q + r) (hr : r < 8) (hj : j ≠ q) : wb b (k + 1) j = wb b k j := by
  unfold wb
  rw [show min (k + 1 - 8 * j) 8 = min (k - 8 * j) 8 by omega]

/-- The relation of the loop of Words: k bytes are laid. -/
def WoRel (w : World) (m : Nat) (b : List Nat) (wr : World) (k : Nat) : Prop :=
  ∃ ws : List Nat, ws.length = m ∧ BlkW wr w.heap.size 24 ws ∧ Below w.heap.size w wr ∧ ∀ j, j < m → ws.getD j 0 = wb b k j
theorem WoRel.drew {w wr : World} {m k : Nat} {b : List Nat} (h : WoRel w m b wr k) : WoRel w m b wr.drew k := by
  obtain ⟨ws, hl, hB, hb, hj⟩ := h
  exact ⟨ws, hl, ⟨hB.heap, hB.lt⟩, hb.drew, hj⟩
theorem WoRel.step {w wr : World} {m k q r : Nat} {b : List Nat} (h8 : allLt8 b) (h : WoRel w m b wr k) (hk : k = 8 * q + r) (hr : r < 8) (hq : q < m) (v : Int) (hv : v = (wb b (k + 1) q : Nat)) :
    WoRel w m b (wr.setCell ⟨w.heap.size, q, none⟩ (.int .u64 v)) (k + 1) := by
  obtain ⟨ws, hl, hB, hb, hj⟩ := h
  refine ⟨ws.set q (wb b (k + 1) q), by simp [hl], hB.setI _ _ _ (wb_lt _ h8 _ _) hv, hb.setCell (Nat.le_refl _) _, fun j hjm => ?_⟩
  by_cases hjq : j = q
  · subst hjq
    rw [getD_set_eq _ _ _ (by omega)]
  · rw [getD_set_ne _ _ _ _ (by omega), hj j hjm, wb_ne b k q r j hk hr hjq]
theorem WoRel.end_ {w wr : World} {m n : Nat} {b : List Nat} (h : WoRel w m b wr n) (hn : b.length = n) (hm : n ≤ 8 * m) :
    ∃ ws, ws.length = m ∧ BlkW wr w.heap.size 24 ws ∧ Below w.heap.size w wr ∧ val 18446744073709551616 ws = val 256 b := by
  obtain ⟨ws, hl, hB, hb, hj⟩ := h
  refine ⟨ws, hl, hB, hb, ?_⟩
  have e := pv_chunks 8 ws b m fun j hjm => by
    rw [hj j hjm]; unfold wb
    by_cases hc : n - 8 * j < 8
    · exact pv_drop_out _ _ _ _ _ (by omega) (by omega)
    · rw [show min (n - 8 * j) 8 = 8 by omega]
  rw [pv_out 256 b _ (by omega)] at e
  rw [← e]
  unfold val
  rw [hl]
theorem or_byte (x y r s : Nat) (hx : x < 256 ^ r) (hs : s = 8 * r) : x ||| y * 2 ^ s = x + y * 256 ^ r := by
  have e : 256 ^ r = 2 ^ s := by rw [hs, Nat.pow_mul]
  rw [e] at hx ⊢
  rw [Nat.or_comm, ← Nat.shiftLeft_eq, ← Nat.shiftLeft_add_eq_or_of_lt hx, Nat.add_comm]
theorem byte_up (y r : Nat) (hy : y < 256) (hr : r < 8) : y * 256 ^ r < 18446744073709551616 := by
  have h2 : 256 ^ r ≤ 256 ^ 7 := Nat.pow_le_pow_right (by decide) (by omega)
  have h1 := Nat.mul_le_mul (show y ≤ 255 by omega) h2
  omega

set_option maxRecDepth 100000 in
set_option maxHeartbeats 1000000 in
theorem limbWords_n (A : Option Addr) (n c : Nat) (b : List Nat) (w : World) (ha : Rd8 w w.heap.size A n b) (hn : n ≤ 1000) :
    Calls Tryd.prog 25 #[.slice A n c] w fun e w' => ∃ l, e = .returned (.slice (some ⟨w.heap.size, 0, none⟩) ((n + 7) / 8) ((n + 7) / 8)) ∧ l.length = (n + 7) / 8 ∧ BlkW w' w.heap.size 24 l ∧ val 18446744073709551616 l = val 256 b ∧ Below w.heap.size w w' := by
  obtain ⟨m, hm⟩ : ∃ m, m = (n + 7) / 8 := ⟨_, rfl⟩
  rw [← hm]
  have hmk := make64I m m (Nat.le_refl _) (by omega) (((n : Int) + 8 - 1) / 8) (((n : Int) + 8 - 1) / 8) (by omega) (by omega)
  have hm1 : n ≤ 8 * m := by omega
  have hm2 : 8 * m ≤ n + 7 := by omega
  clear hm
  go_enter Tryd.func25, Tryd.ntmps25
  go_wp2
  clear hmk
  go_loopw [14] (fun i wr => ∃ k : Nat, k ≤ n ∧ i = .int .i64 k ∧ WoRel w m b wr k) (fun i _ => n - (intOf i).toNat)
  case atStart =>
    refine ⟨0, Nat.zero_le _, rfl, List.replicate m 0, by simp, blk_zeros w _, (Below.refl _ _).alloc (Nat.le_refl _) _, fun j hj => ?_⟩
    unfold wb
    rw [Nat.zero_sub, Nat.zero_min, pv_zero, List.getD_eq_getElem?_getD, List.getElem?_replicate, if_pos hj]; rfl
  case round =>
    obtain ⟨k, hk, rfl, hrel⟩ := hrel
    by_cases hlt : k < n
    · obtain ⟨ws, hl, hB, hb, hj⟩ := id hrel
      obtain ⟨ba, oa, rfl, hba, hca⟩ := (ha.below hb (Nat.le_refl _)).at_ hlt
      obtain ⟨q, hq⟩ : ∃ q, q = k / 8 := ⟨_, rfl⟩
      obtain ⟨r, hr⟩ : ∃ r, r = k % 8 := ⟨_, rfl⟩
      obtain ⟨s, hs⟩ : ∃ s, s = 8 * r := ⟨_, rfl⟩
      obtain ⟨y, hy⟩ : ∃ y, y = b.getD k 0 * 256 ^ r := ⟨_, rfl⟩
      have hkq : k = 8 * q + r := by omega
      have hr8 : r < 8 := by omega
      have hqm : q < m := by omega
      have hcell := hB.cell (i := q) (by omega)
      have hfz := hB.frozen q
      have d1 : IntKind.i64.wrap ((k : Int) / 8) = (q : Int) := by rw [IntKind.wrap_i64]; omega
      have d2 : (k : Int).tmod 8 = (r : Int) := by rw [Int.tmod_eq_emod_of_nonneg (by omega)]; omega
      have d3 : IntKind.i64.wrap (8 * (r : Int)) = (s : Int) := by rw [IntKind.wrap_i64]; omega
      have b8 := getD_lt _ (by decide) b ha.lt k
      have d4 : IntKind.u64.wrap (at64 b k) = at64 b k := by rw [IntKind.wrap_u64]; unfold at64; omega
      have yl : y < 18446744073709551616 := by rw [hy]; exact byte_up _ _ b8 hr8
      have d5 : IntKind.u64.wrap (at64 b k * 2 ^ s) = (y : Int) := by
        rw [at64, up_word0, hs, Nat.pow_mul, hy]
        rw [hy] at yl
        exact congrArg Int.ofNat (Nat.mod_eq_of_lt yl)
      have HST := hid (WoRel.step ha.lt hrel hkq hr8 hqm (bits .or .u64 (at64 ws q) (y : Int)) (by
        have h1 := wb_small b ha.lt k q r hkq hr8
        have e := hj q hqm
        rw [at64, bits_or_u64_nat _ _ (getD_lt _ (by decide) ws hB.lt _) yl, e, wb_at b k q r hkq hr8, hy]
        have := or_byte (wb b k q) (b.getD k 0) r s h1 hs
        rw [hs, Nat.pow_mul] at this
        exact congrArg Int.ofNat this))
      have i0 : (0 : Int) ≤ (q : Int) := by omega
      have i1 : (q : Int) < (m : Int) := by omega
      have i2 : (0 : Int) ≤ (s : Int) := by omega
      have i3 : (s : Int) ≤ 63 := by omega
      have i4 : s ≤ 63 := by omega
      have x0 := at64_nonneg b k
      have x1 := at64_nonneg ws q
      have HL := hid hl
      clear hl hj hy hq hr hs b8 yl hkq
      go_wp2
      go_still_tail 13, (by kernel_rfl)
      change wpList _ _ _ _ _ wr.drew
      clear d1 d2 d3 d4 d5
      go_wp2
      go_roundw
      case rel => exact ⟨k + 1, by omega, by go_num, HST.out.drew⟩
      case measure => simp [intOf]; omega
    · obtain rfl : k = n := by omega
      obtain ⟨ws, hl, hB, hb, hV⟩ := hrel.end_ ha.len (by omega)
      have HV := hid hV
      have HL := hid hl
      clear hl hV
      go_wp2
      go_ret
      exact ⟨ws, rfl, HL.out, hB, HV.out, hb⟩
theorem limbWords_c (A : Option Addr) (n c : Nat) (b : List Nat) (w : World) (ha : Rd8 w w.heap.size A n b) (hn : n ≤ 1000) :
    Calls Tryd.prog 25 #[.slice A n c] w fun e w' => Wds w e w' ((n + 7) / 8) (val 256 b) := by
  refine (limbWords_n A n c b w ha hn).mono ?_
  rintro e w' ⟨l, rfl, hl, hB, hv, hb⟩
  have rd := hB.rd (off := 0) (n := l.length) (B := w'.heap.size) (by omega) hB.size
  rw [List.drop_zero, List.take_length, hl] at rd
  exact ⟨_, _, l, rfl, Nat.le_refl _, rd, hv, hb⟩
end Go.Proofs.YtdepkfdceidikaaDoor
