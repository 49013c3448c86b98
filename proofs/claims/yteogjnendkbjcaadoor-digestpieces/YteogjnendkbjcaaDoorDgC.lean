/-
  The state behind so many blocks hangs on these alone; xors of bytes and of words. Plain arithmetic, nothing of the program.
-/
import Derived.Test.YteogjnendkbjcaaDoorDgA
namespace Go.Proofs.YteogjnendkbjcaaDoor
set_option linter.unusedVariables false

theorem xorb_congr {bs p q : List Nat} {k : Nat} (h : ∀ i, i < 136 * (k + 1) → p.getD i 0 = q.getD i 0) : xorb bs p k = xorb bs q k := by
  unfold xorb
  refine List.map_congr_left fun i hi => ?_
  have hi := List.mem_range.1 hi
  by_cases c : i < 136
  · rw [if_pos c, if_pos c, h _ (by omega)]
  · rw [if_neg c, if_neg c]
theorem lblk_congr {p q : List Nat} : ∀ k, (∀ i, i < 136 * k → p.getD i 0 = q.getD i 0) → lblk p k = lblk q k
  | 0, _ => rfl
  | k + 1, h => by
    show labs _ _ _ = labs _ _ _
    unfold labs
    rw [lblk_congr k fun i hi => h i (by omega), xorb_congr h]
theorem fold_lanes : ∀ (cs : List Nat) (l : List Nat), (∀ c ∈ cs, c < 18446744073709551616) → Lanes l → Lanes (cs.foldl (fun s c => lrd c s) l)
  | [], l, _, hl => hl
  | c :: cs, l, hc, hl => fold_lanes cs _ (fun x hx => hc x (by simp [hx])) (lrd_lanes (hc c (by simp)) hl)
theorem kconst_all : ∀ c ∈ kconst, c < 18446744073709551616 := by
  intro c hc
  obtain ⟨i, hi, rfl⟩ := List.mem_iff_getElem.1 hc
  have := kconst_lt i
  rw [List.getD_eq_getElem?_getD, List.getElem?_eq_getElem hi] at this
  exact this
theorem lperm_all {l : List Nat} (h : Lanes l) : Lanes (lperm l) := fold_lanes kconst l kconst_all h
theorem lblk_succ (p : List Nat) (k : Nat) : lblk p (k + 1) = lperm (kwd (xorb (kby (lblk p k)) p k)) := by rw [lblk, labs]
theorem lblk_lanes {p : List Nat} (h : allLt8 p) : ∀ k, Lanes (lblk p k)
  | 0 => ⟨rfl, fun x hx => by have := List.eq_of_mem_replicate hx; omega⟩
  | k + 1 => by
    rw [lblk_succ]
    exact lperm_all (kwd_lanes (xorb_lt (kby_lt (lblk p k)) h k))
/-- Below the last block the padding changes nothing. -/
theorem padB_low (b : List Nat) {i : Nat} (h : i < b.length) : (padB b).getD i 0 = b.getD i 0 := by
  have hp := padN_gt b.length
  rw [padB_at b (by omega), if_pos h, if_neg (by unfold padN at *; omega), Nat.add_zero]
theorem lblk_pad (b : List Nat) {k : Nat} (h : 136 * k ≤ b.length) : lblk (padB b) k = lblk b k := lblk_congr k fun i hi => padB_low b (by omega)
/-- The digest, by the state behind the whole blocks. -/
theorem dig_eq (b : List Nat) : dig b = (kby (labs (lblk b (b.length / 136)) (padB b) (b.length / 136))).take 32 := by
  unfold dig
  show (kby (labs (lblk (padB b) (b.length / 136)) (padB b) (b.length / 136))).take 32 = _
  rw [lblk_pad b (by omega)]
/-- More bytes change no block that was whole. -/
theorem lblk_app (b c : List Nat) {k : Nat} (h : 136 * k ≤ b.length) : lblk (b ++ c) k = lblk b k := lblk_congr k fun i hi => by
  rw [List.getD_eq_getElem?_getD, List.getElem?_append_left (by omega), ← List.getD_eq_getElem?_getD]
/-- Words of xored bytes. -/
theorem xor_parts {m a b x y : Nat} (ha : a < 2 ^ m) (hb : b < 2 ^ m) : (a + x * 2 ^ m) ^^^ (b + y * 2 ^ m) = (a ^^^ b) + (x ^^^ y) * 2 ^ m := by
  have hab : a ^^^ b < 2 ^ m := Nat.xor_lt_two_pow ha hb
  apply Nat.eq_of_testBit_eq
  intro j
  rw [Nat.testBit_xor, Nat.add_comm a, Nat.add_comm b, Nat.add_comm (a ^^^ b), Nat.mul_comm x, Nat.mul_comm y, Nat.mul_comm (x ^^^ y), Nat.testBit_two_pow_mul_add _ ha, Nat.testBit_two_pow_mul_add _ hb, Nat.testBit_two_pow_mul_add _ hab]
  split
  · rw [Nat.testBit_xor]
  · rw [Nat.testBit_xor]
theorem pv_xor {a b c : List Nat} (ha : allLt8 a) (hb : allLt8 b) : ∀ k, (∀ i, i < k → c.getD i 0 = a.getD i 0 ^^^ b.getD i 0) → pv 256 c k = pv 256 a k ^^^ pv 256 b k
  | 0, _ => by rw [pv_zero, pv_zero, pv_zero]; rfl
  | k + 1, h => by
    have h1 := pv_lt 256 (by decide) a ha k
    have h2 := pv_lt 256 (by decide) b hb k
    have e : (256 : Nat) ^ k = 2 ^ (8 * k) := by rw [show (256 : Nat) = 2 ^ 8 by decide, ← Nat.pow_mul]
    rw [e] at h1 h2
    rw [pv_succ, pv_succ, pv_succ, pv_xor ha hb k fun i hi => h i (by omega), h k (by omega), e, xor_parts h1 h2]
/-- A block xored into lanes. -/
theorem kwd_xorb {l p : List Nat} (hl : Lanes l) (hp : allLt8 p) (k : Nat) : kwd (xorb (kby l) p k) = lane fun i => if i < 17 then l.getD i 0 ^^^ pv 256 (p.drop (136 * k + 8 * i)) 8 else l.getD i 0 := by
  unfold kwd lane
  refine List.map_congr_left fun i hi => ?_
  have hi := List.mem_range.1 hi
  have e0 := kby_pv l hi 8 (Nat.le_refl _)
  rw [show (256 : Nat) ^ 8 = 18446744073709551616 by decide, Nat.mod_eq_of_lt (hl.at_ i)] at e0
  by_cases c : i < 17
  · rw [if_pos c, ← e0]
    refine pv_xor (fun x hx => kby_lt l x (List.mem_of_mem_drop hx)) (fun x hx => hp x (List.mem_of_mem_drop hx)) 8 fun j hj => ?_
    rw [getD_drop, getD_drop, getD_drop, xorb_at _ _ _ (by omega), if_pos (by omega), Nat.add_assoc]
  · rw [if_neg c, ← e0]
    refine pv_congr 256 _ _ 8 fun j hj => ?_
    rw [getD_drop, getD_drop, xorb_at _ _ _ (by omega), if_neg (by omega)]
end Go.Proofs.YteogjnendkbjcaaDoor
