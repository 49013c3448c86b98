import Derived.Test.YtpjjobophplleaaDoorRefB
import Derived.Test.YtpjjobophplleaaDoorLRest
/-
  avouchref01.Words, Digits, Sub: what each call does.
-/
namespace Go.Proofs.YtpjjobophplleaaDoor
open Go.RowKit
set_option linter.unusedVariables false

theorem Rd.drewN {w : World} {B n : Nat} {A : Option Addr} {l : List Nat} (h : Rd w B A n l) (k : Nat) : Rd (w.drewN k) B A n l := ⟨h.len, h.lt, h.cells⟩
theorem get_ci (A : Option Addr) (n c B : Nat) (l : List Nat) (k : Nat) (i : Int) (hi : i = (k : Int)) (w : World) (h : Rd w B A n l) :
    Calls Tryd.prog 30 #[.slice A n c, .int .i64 i] w fun e w' => e = .returned (.int .u64 (at64 l k)) ∧ w = w' := by
  subst hi; exact get_c A n c B l k w h
theorem get_s (A : Option Addr) (n c B : Nat) (l : List Nat) (k : Nat) (w : World) (h : Rd w B A n l) :
    Calls Tryd.prog 30 #[.slice A n c, .int .i64 k] w fun e w' => e = .returned (.int .u64 (at64 l k)) ∧ w' = w :=
  (get_c A n c B l k w h).mono fun _ _ ⟨h1, h2⟩ => ⟨h1, h2.symm⟩

/-- The slice of e is new, has n words, and reads as a list whose number is X. -/
def Wds (w : World) (e : Ending) (w' : World) (n X : Nat) : Prop :=
  ∃ A c l, e = .returned (.slice A n c) ∧ n ≤ c ∧ Rd w' w'.heap.size A n l ∧ val 18446744073709551616 l = X ∧ Below w.heap.size w w'

theorem pv_mod (W : Nat) (hW : 0 < W) (l : List Nat) (h : ∀ x ∈ l, x < W) (k : Nat) : pv W l k = val W l % W ^ k := by
  by_cases hk : l.length ≤ k
  · have b := val_lt W hW l h
    have : W ^ l.length ≤ W ^ k := Nat.pow_le_pow_right hW hk
    rw [pv_out W l k hk, Nat.mod_eq_of_lt (by omega)]
  · have e := pv_drop W l k (l.length - k)
    rw [show k + (l.length - k) = l.length by omega] at e
    have b := pv_lt W hW l h k
    unfold val
    rw [e, Nat.add_mul_mod_self_left, Nat.mod_eq_of_lt b]

theorem words_step (v p x y P : Nat) (h : v = p) : v + (x + y * 4294967296) * P = (p + x * P) + y * (P * 4294967296) := by subst h; grind
theorem pow64 (k : Nat) : 18446744073709551616 ^ k = 4294967296 ^ (2 * k) := by
  rw [Nat.pow_mul]

set_option maxHeartbeats 400000 in
theorem words_c (A : Option Addr) (nd cd : Nat) (d : List Nat) (n : Nat) (N : Int) (hN : N = (n : Int)) (w : World) (ha : Rd w w.heap.size A nd d) (dd : D32 d) (hn : n ≤ 10000) :
    Calls Tryd.prog 34 #[.slice A nd cd, .int .i64 N] w fun e w' => Wds w e w' n (val 4294967296 d % 18446744073709551616 ^ n) := by
  subst hN
  have hmk := make64I 0 n (Nat.zero_le _) (by omega) 0 (n : Int) rfl rfl
  go_enter Tryd.func34, Tryd.ntmps34
  go_wp2
  clear hmk
  go_loopw [5, 6] (fun v i wr => ∃ k : Nat, ∃ l : List Nat, k ≤ n ∧ i = .int .i64 k ∧ Hid (l.length = k) ∧ OwnW wr w.heap.size v l ∧ Below w.heap.size w wr ∧ Hid (val 18446744073709551616 l = pv 4294967296 d (2 * k))) (fun _ i _ => n - (intOf i).toNat)
  case atStart => exact ⟨0, [], Nat.zero_le _, rfl, rfl, own_made w n (by omega), (Below.refl _ _).alloc (Nat.le_refl _) _, rfl⟩
  case round =>
    obtain ⟨k, l, hk, rfl, HL, hown, hbl, HE⟩ := hrel
    by_cases hlt : k < n
    · have ra := ha.below hbl (Nat.le_refl _)
      have h1 := at64_nonneg d (2 * k)
      have h1' := at64_d32 dd (2 * k)
      have h2 := at64_nonneg d (2 * k + 1)
      have h2' := at64_d32 dd (2 * k + 1)
      have hsz := hbl.size
      have hl' : l.length ≤ 100000 := by rw [HL.out]; omega
      go_wp2_with fail
      refine (get_ci A nd cd _ d (2 * k) _ (by omega) _ ra).mono ?_
      rintro e w' ⟨rfl, rfl⟩
      go_wp2_with fail
      refine (get_ci A nd cd _ d (2 * k + 1) _ (by omega) _ ra).mono ?_
      rintro e w' ⟨rfl, rfl⟩
      go_wp2_with (at_builtin; refine append_word rfl (.tmp 14) (.tmp 26) rfl w.heap.size _ l rfl hown _ (d.getD (2 * k) 0 + d.getD (2 * k + 1) 0 * 4294967296) ?e1 ?e2 rfl hl' hsz ?_)
      case e1 => unfold at64; omega
      case e2 => unfold at64 at h1' h2'; omega
      intro v' w' hown' hb'
      have hb2 := hbl.trans hb'
      have HL2 : Hid ((l ++ [d.getD (2 * k) 0 + d.getD (2 * k + 1) 0 * 4294967296]).length = k + 1) := by show _ = _; rw [List.length_append, HL.out]; rfl
      have HE2 : Hid (val 18446744073709551616 (l ++ [d.getD (2 * k) 0 + d.getD (2 * k + 1) 0 * 4294967296]) = pv 4294967296 d (2 * (k + 1))) := by
        show _ = _
        rw [val_append, HL.out, show 2 * (k + 1) = 2 * k + 1 + 1 by omega, pv_succ, pv_succ, Nat.pow_succ, pow64]
        exact words_step _ _ _ _ _ HE.out
      go_wp2
      go_roundw
      case rel => exact ⟨k + 1, _, by omega, by go_num, HL2, hown', hb2, HE2⟩
      case measure => simp [intOf]; omega
    · have hkn : k = n := by omega
      have HV : Hid (val 18446744073709551616 l = val 4294967296 d % 18446744073709551616 ^ n) := by
        show _ = _
        rw [HE.out, pow64, ← pv_mod _ (by decide) d dd, hkn]
      have HN : Hid (l.length = n) := by show _ = _; rw [HL.out, hkn]
      clear hkn
      obtain ⟨A', c', rfl, hc', rd'⟩ := hown.rd
      rw [HN.out] at rd' hc' ⊢
      go_wp2
      go_ret
      exact ⟨A', c', l, rfl, hc', rd', HV.out, hbl⟩
end Go.Proofs.YtpjjobophplleaaDoor
/-
  (*Modulus).Reduce, shorten, Mul, Len, Words: what each call does.
-/
namespace Go.Proofs.YtpjjobophplleaaDoor
open Go.RowKit
set_option linter.unusedVariables false

theorem pv_nil (W k : Nat) : pv W [] k = 0 := by
  induction k with
  | zero => rfl
  | succ k ih => rw [pv_succ, ih]; simp
theorem pv_zeros (W : Nat) (l : List Nat) (k m : Nat) (h : ∀ j, k ≤ j → l.getD j 0 = 0) (hm : k ≤ m) : pv W l m = pv W l k := by
  have := pv_tail W l [] k m (fun j hj => by rw [h j hj]; simp) hm
  rw [pv_nil, pv_nil] at this
  omega

/-- copy of the words of a slice into a new block of zeros. -/
theorem copy_words {ops : Array Oper} {rest : List Oper} {o : Oper} {a : Act} {Q : Exit → Act → World → Prop} {w w0 : World} {tb : TypeId} (hgd : o.guard = none) (d s : Operand)
    (ho : o.op = .call { callee := .builtin .copy, args := #[d, s], argTypes := #[32, 32] }) (g N c : Nat) (hd : a.eval d = .slice (some ⟨g, 0, none⟩) N c) (A : Option Addr) (n cs B : Nat) (l : List Nat)
    (hs : a.eval s = .slice A n cs) (hr : Rd w B A n l) (hN : n ≤ N) (hB : BlkW w g tb (List.replicate N 0)) (hb : Below g w0 w)
    (h : ∀ w', BlkW w' g tb (l ++ List.replicate (N - n) 0) → Below g w0 w' → wpList Tryd.prog ops Q rest (a.put o.dst (goInt n)) w') : wpList Tryd.prog ops Q (o :: rest) a w := by
  have hlen : (cellsOf64 l).length = n := by simp [cellsOf64, hr.len]
  refine wpList_copy_splice hgd d s 32 32 ho 36 Tryd.underlying32 (by kernel_rfl) (some ⟨g, 0, none⟩) A N c n cs hd hs g 0 ((List.replicate N 0).map fun (x : Nat) => Value.int .u64 (x : Int)) tb hB.heap (cellsOf64 l)
    (by rw [hlen]; exact (Nat.min_eq_left hN).symm) ?_ (by rw [hlen]; simp; exact hN) ?_ g w0 hb (Nat.le_refl _) ?_
  · intro hp
    rw [hlen] at hp
    obtain ⟨b, off, e, _, hc⟩ := hr.cells hp
    refine ⟨rfl, ⟨b, off, none⟩, e, fun j v hj => ?_⟩
    have hadd : (⟨b, off, none⟩ : Addr).add j = ⟨b, off + j, none⟩ := by unfold Addr.add; split <;> simp_all
    have hjl : j < l.length := by
      have := (List.getElem?_eq_some_iff.1 hj).1
      simpa [cellsOf64] using this
    rw [hadd, hc j (by rw [← hr.len]; exact hjl), ← hj]
    simp [cellsOf64, at64, List.getElem?_eq_getElem hjl, List.getD_eq_getElem?_getD]
  · intro u hu
    simp only [cellsOf64, List.mem_map] at hu
    obtain ⟨y, _, rfl⟩ := hu
    rfl
  · intro w' hg hb'
    rw [hlen]
    refine h w' ⟨?_, ?_⟩ hb'
    · have e : splice ((List.replicate N 0).map fun (x : Nat) => Value.int .u64 (x : Int)) 0 (cellsOf64 l) = (l ++ List.replicate (N - n) 0).map fun (x : Nat) => Value.int .u64 (x : Int) := by
        unfold splice
        rw [hlen]
        simp [cellsOf64]
      rw [← e]; exact hg
    · intro x hx
      rcases List.mem_append.1 hx with h' | h'
      · exact hr.lt x h'
      · have := List.eq_of_mem_replicate h'; omega

theorem getD_app_zeros (l : List Nat) (k j : Nat) : (l ++ List.replicate k 0).getD j 0 = l.getD j 0 := by
  by_cases hj : j < l.length
  · simp [List.getD_eq_getElem?_getD, List.getElem?_append_left hj]
  · rw [getD_out l j (by omega), List.getD_eq_getElem?_getD, List.getElem?_append_right (by omega), List.getElem?_replicate]
    split <;> rfl
theorem val_app_zeros (W : Nat) (l : List Nat) (k : Nat) : val W (l ++ List.replicate k 0) = val W l := by
  unfold val
  rw [pv_congr W (l ++ List.replicate k 0) l _ fun i _ => getD_app_zeros l k i, pv_out W l _ (by simp)]
  rfl

/-- What rest leaves, as a slice that is read. -/
theorem wds_of_rest {w w' : World} {b N n X : Nat} {ws : List Nat} (hl : ws.length = N) (hB : BlkW w' b 36 ws) (hb : Below w.heap.size w w') (hn : n ≤ N) (h : pv 18446744073709551616 ws n = X) :
    Wds w (.returned (.slice (some ⟨b, 0, none⟩) n n)) w' n X := by
  refine ⟨_, _, _, rfl, Nat.le_refl _, hB.rd (off := 0) (n := n) (by omega) hB.size, ?_, hb⟩
  rw [List.drop_zero, ← h, ← pv_take _ ws n n (Nat.le_refl _), pv_out _ (ws.take n) n (by simp; omega)]

end Go.Proofs.YtpjjobophplleaaDoor
