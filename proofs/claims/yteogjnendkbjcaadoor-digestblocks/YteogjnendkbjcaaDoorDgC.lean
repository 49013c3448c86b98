import Derived.Test.YteogjnendkbjcaaDoorKRa
import Derived.Test.YteogjnendkbjcaaDoorKBa
import Derived.Test.YteogjnendkbjcaaDoorKBb
/-
  Bytes of states by functions (kby, kwd); rows of bytes that are written; the xor of bytes bit by bit. Helpers for the walks of stage 7.
-/
namespace Go.Proofs.YteogjnendkbjcaaDoor
open Go.RowKit
set_option linter.unusedVariables false

theorem kbytes_f (l : List Nat) (w : World) (hl : Lanes l) :
    Calls Tryd.prog 13 #[st l] w fun e w' => e = .returned (.agg (cells8 (kby l)).toArray) ∧ Below w.heap.size w w' := by
  refine (kbytes_c l w hl).mono ?_
  rintro e w' ⟨bs, rfl, h, hb⟩
  rw [kby_of hl h.lt h.len h.v]
  exact ⟨rfl, hb⟩
theorem kofBytes_f (A : Option Addr) (c : Nat) (b : List Nat) (w : World) (ha : Rd8 w w.heap.size A 200 b) :
    Calls Tryd.prog 14 #[.slice A 200 c] w fun e w' => e = .returned (.tuple #[st (kwd b), .int .i64 0]) ∧ Below w.heap.size w w' := by
  refine (kofBytes_ok A c b w ha).mono ?_
  rintro e w' ⟨l, rfl, hl, hv, hb⟩
  rw [kwd_of hl ha.lt ha.len hv]
  exact ⟨rfl, hb⟩
theorem ofBytes6_f (A : Option Addr) (c : Nat) (b : List Nat) (w : World) (ha : Rd8 w w.heap.size A 200 b) :
    Calls Tryd.prog 19 #[.slice A 200 c] w fun e w' => e = .returned (st (kwd b)) ∧ Below w.heap.size w w' := by
  refine (ofBytes6_c A c b w ha).mono ?_
  rintro e w' ⟨l, rfl, hl, hv, hb⟩
  rw [kwd_of hl ha.lt ha.len hv]
  exact ⟨rfl, hb⟩
theorem bytes6_f (l : List Nat) (w : World) (hl : Lanes l) :
    Calls Tryd.prog 17 #[st l] w fun e w' => ∃ v, e = .returned v ∧ OwnB w' (w.heap.size + 1) v (kby l) ∧ Below w.heap.size w w' := by
  refine (bytes6_own l w hl).mono ?_
  rintro e w' ⟨v, r, rfl, ho, hn, hv, hb⟩
  rw [← kby_of hl ho.lt hn hv]
  exact ⟨v, rfl, ho, hb⟩
/-- An own row of bytes, laid open: where it lies, and that it may be written. -/
theorem OwnB.open_ {w : World} {base : Nat} {v : Value} {l : List Nat} (h : OwnB w base v l) (hl : 0 < l.length) : ∃ g cap, v = .slice (some ⟨g, 0, none⟩) l.length cap ∧ base ≤ g ∧ l.length ≤ cap ∧ g < w.heap.size ∧
    (∀ i, w.frozen? ⟨g, i, none⟩ = false) ∧ (∀ i, i < l.length → w.cell? ⟨g, i, none⟩ = some (.int .u8 (at64 l i))) ∧
    ∀ (i x : Nat), i < l.length → x < 256 → OwnB (w.setCell ⟨g, i, none⟩ (.int .u8 (x : Int))) base v (l.set i x) := by
  rcases h.own.2 with ⟨rfl, hn⟩ | ⟨g, cap, cur, rfl, hb, hg, hc, hm, hcur, ht⟩
  · omega
  · have hgs := (Array.getElem?_eq_some_iff.1 hg).1
    have hcell : ∀ i, i < l.length → w.cell? ⟨g, i, none⟩ = some (.int .u8 (at64 l i)) := fun i hi => by
      rw [cell_of_row w g i _ _ (0, 0) hg]
      have e : cur.toList[i]? = (cells8 l)[i]? := by
        rw [← ht, List.getElem?_take_of_lt (by omega)]
      rw [Array.getElem?_toList] at e
      rw [e]
      simp [cells8, at64, List.getElem?_eq_getElem hi, List.getD_eq_getElem?_getD]
    refine ⟨g, cap, rfl, hb, hc, hgs, fun i => by simp [World.frozen?, hg], hcell, fun i x hi hx => ⟨⟨by simp [cells8], Or.inr ⟨g, cap, cur.setIfInBounds i (.int .u8 (x : Int)), by rw [List.length_set], hb, ?_, by rw [List.length_set]; exact hc, hm, by simp [hcur], ?_⟩⟩, ?_⟩⟩
    · simp [World.setCell, Array.getElem?_modify, hg]
    · rw [List.length_set, Array.toList_setIfInBounds, List.take_set, ht]
      simp [cells8, List.map_set]
    · intro y hy
      rcases List.mem_or_eq_of_mem_set hy with h' | h'
      · exact h.lt y h'
      · subst h'; exact hx
theorem OwnB.more {w : World} {base B : Nat} {v : Value} {l : List Nat} (h : OwnB w base v l) (hB : B ≤ base) : OwnB w B v l := by
  refine ⟨⟨h.own.1, ?_⟩, h.lt⟩
  rcases h.own.2 with h' | ⟨g, cap, cur, e, hb, r⟩
  · exact Or.inl h'
  · exact Or.inr ⟨g, cap, cur, e, Nat.le_trans hB hb, r⟩
/-- The xor of two bytes, bit by bit. -/
theorem xor_bit_step (a b i : Nat) : (a ^^^ b) % 2 ^ (i + 1) = (a ^^^ b) % 2 ^ i + if a / 2 ^ i % 2 = b / 2 ^ i % 2 then 0 else 2 ^ i := by
  have h1 : (a ^^^ b) / 2 ^ i % 2 = if a / 2 ^ i % 2 = b / 2 ^ i % 2 then 0 else 1 := by
    rw [kbit_at, kbit_at, kbit_at, Nat.testBit_xor]
    cases a.testBit i <;> cases b.testBit i <;> rfl
  rw [Nat.pow_succ, Nat.mod_mul, h1]
  split
  · rw [Nat.mul_zero]
  · rw [Nat.mul_one]
theorem xor_bit_end {a b : Nat} (ha : a < 256) (hb : b < 256) : (a ^^^ b) % 2 ^ 8 = a ^^^ b := Nat.mod_eq_of_lt (xor8_lt ha hb)
/-- The padding, made step by step. -/
def padS (b : List Nat) (j : Nat) : List Nat := b ++ [6] ++ List.replicate j 0
theorem padS_len (b : List Nat) (j : Nat) : (padS b j).length = b.length + 1 + j := by unfold padS; simp; omega
theorem padS_succ (b : List Nat) (j : Nat) : padS b j ++ [0] = padS b (j + 1) := by
  unfold padS
  rw [List.append_assoc, List.replicate_succ']
theorem padS_at (b : List Nat) {j i : Nat} (h : i < b.length + 1 + j) : (padS b j).getD i 0 = if i < b.length then b.getD i 0 else if i = b.length then 6 else 0 := by
  unfold padS
  by_cases c : i < b.length
  · rw [if_pos c, List.append_assoc, List.getD_eq_getElem?_getD, List.getElem?_append_left c, ← List.getD_eq_getElem?_getD]
  · rw [if_neg c]
    by_cases d : i = b.length
    · rw [if_pos d, d, List.append_assoc, List.getD_eq_getElem?_getD, List.getElem?_append_right (Nat.le_refl _), Nat.sub_self]
      rfl
    · rw [if_neg d, List.getD_eq_getElem?_getD, List.getElem?_append_right (by simp; omega), List.getElem?_replicate]
      split <;> rfl
theorem padS_end (b : List Nat) {j : Nat} (h : b.length + 1 + j = padN b.length) : (padS b j).set (padN b.length - 1) ((padS b j).getD (padN b.length - 1) 0 + 128) = padB b := by
  have hp := padN_gt b.length
  refine same_of_all (by rw [List.length_set, padS_len, padB_len, h]) fun i hi => ?_
  rw [List.length_set, padS_len] at hi
  rw [padB_at b (by omega)]
  by_cases c : i = padN b.length - 1
  · rw [← c, getD_set_eq _ _ _ (by rw [padS_len]; exact hi), padS_at b hi, if_pos rfl]
  · rw [getD_set_ne _ _ _ _ (by omega), padS_at b hi, if_neg c, Nat.add_zero]
end Go.Proofs.YteogjnendkbjcaaDoor
/-
  The state behind so many blocks hangs on these alone; xors of bytes and of words. Plain arithmetic, nothing of the program.
-/
namespace Go.Proofs.YteogjnendkbjcaaDoor
set_option linter.unusedVariables false

theorem xorb_congr {bs p q : List Nat} {k : Nat} (h : ∀ i, i < 136 * (k + 1) → p.getD i 0 = q.getD i 0) : xorb bs p k = xorb bs q k := by
  unfold xorb
  refine List.map_congr_left fun i hi => ?_
  have hi := List.mem_range.1 hi
  by_cases c : i < 136
  · rw [if_pos c, if_pos c, h _ (by omega)]
  · rw [if_neg c, if_neg c]
theorem lblk_congr {p q : List Nat} : ∀ k, (∀ i, i < 136 * k → p.getD i 0 = q.getD i 0) → lblk p k = lblk q k
  | 0, _ => rfl
  | k + 1, h => by
    show labs _ _ _ = labs _ _ _
    unfold labs
    rw [lblk_congr k fun i hi => h i (by omega), xorb_congr h]
theorem fold_lanes : ∀ (cs : List Nat) (l : List Nat), (∀ c ∈ cs, c < 18446744073709551616) → Lanes l → Lanes (cs.foldl (fun s c => lrd c s) l)
  | [], l, _, hl => hl
  | c :: cs, l, hc, hl => fold_lanes cs _ (fun x hx => hc x (by simp [hx])) (lrd_lanes (hc c (by simp)) hl)
theorem kconst_all : ∀ c ∈ kconst, c < 18446744073709551616 := by
  intro c hc
  obtain ⟨i, hi, rfl⟩ := List.mem_iff_getElem.1 hc
  have := kconst_lt i
  rw [List.getD_eq_getElem?_getD, List.getElem?_eq_getElem hi] at this
  exact this
theorem lperm_all {l : List Nat} (h : Lanes l) : Lanes (lperm l) := fold_lanes kconst l kconst_all h
theorem lblk_succ (p : List Nat) (k : Nat) : lblk p (k + 1) = lperm (kwd (xorb (kby (lblk p k)) p k)) := by rw [lblk, labs]
theorem lblk_lanes {p : List Nat} (h : allLt8 p) : ∀ k, Lanes (lblk p k)
  | 0 => ⟨rfl, fun x hx => by have := List.eq_of_mem_replicate hx; omega⟩
  | k + 1 => by
    rw [lblk_succ]
    exact lperm_all (kwd_lanes (xorb_lt (kby_lt (lblk p k)) h k))
/-- Below the last block the padding changes nothing. -/
theorem padB_low (b : List Nat) {i : Nat} (h : i < b.length) : (padB b).getD i 0 = b.getD i 0 := by
  have hp := padN_gt b.length
  rw [padB_at b (by omega), if_pos h, if_neg (by unfold padN at *; omega), Nat.add_zero]
theorem lblk_pad (b : List Nat) {k : Nat} (h : 136 * k ≤ b.length) : lblk (padB b) k = lblk b k := lblk_congr k fun i hi => padB_low b (by omega)
/-- The digest, by the state behind the whole blocks. -/
theorem dig_eq (b : List Nat) : dig b = (kby (labs (lblk b (b.length / 136)) (padB b) (b.length / 136))).take 32 := by
  unfold dig
  show (kby (labs (lblk (padB b) (b.length / 136)) (padB b) (b.length / 136))).take 32 = _
  rw [lblk_pad b (by omega)]
/-- More bytes change no block that was whole. -/
theorem lblk_app (b c : List Nat) {k : Nat} (h : 136 * k ≤ b.length) : lblk (b ++ c) k = lblk b k := lblk_congr k fun i hi => by
  rw [List.getD_eq_getElem?_getD, List.getElem?_append_left (by omega), ← List.getD_eq_getElem?_getD]
/-- Words of xored bytes. -/
theorem xor_parts {m a b x y : Nat} (ha : a < 2 ^ m) (hb : b < 2 ^ m) : (a + x * 2 ^ m) ^^^ (b + y * 2 ^ m) = (a ^^^ b) + (x ^^^ y) * 2 ^ m := by
  have hab : a ^^^ b < 2 ^ m := Nat.xor_lt_two_pow ha hb
  apply Nat.eq_of_testBit_eq
  intro j
  rw [Nat.testBit_xor, Nat.add_comm a, Nat.add_comm b, Nat.add_comm (a ^^^ b), Nat.mul_comm x, Nat.mul_comm y, Nat.mul_comm (x ^^^ y), Nat.testBit_two_pow_mul_add _ ha, Nat.testBit_two_pow_mul_add _ hb, Nat.testBit_two_pow_mul_add _ hab]
  split
  · rw [Nat.testBit_xor]
  · rw [Nat.testBit_xor]
theorem pv_xor {a b c : List Nat} (ha : allLt8 a) (hb : allLt8 b) : ∀ k, (∀ i, i < k → c.getD i 0 = a.getD i 0 ^^^ b.getD i 0) → pv 256 c k = pv 256 a k ^^^ pv 256 b k
  | 0, _ => by rw [pv_zero, pv_zero, pv_zero]; rfl
  | k + 1, h => by
    have h1 := pv_lt 256 (by decide) a ha k
    have h2 := pv_lt 256 (by decide) b hb k
    have e : (256 : Nat) ^ k = 2 ^ (8 * k) := by rw [show (256 : Nat) = 2 ^ 8 by decide, ← Nat.pow_mul]
    rw [e] at h1 h2
    rw [pv_succ, pv_succ, pv_succ, pv_xor ha hb k fun i hi => h i (by omega), h k (by omega), e, xor_parts h1 h2]
/-- A block xored into lanes. -/
theorem kwd_xorb {l p : List Nat} (hl : Lanes l) (hp : allLt8 p) (k : Nat) : kwd (xorb (kby l) p k) = lane fun i => if i < 17 then l.getD i 0 ^^^ pv 256 (p.drop (136 * k + 8 * i)) 8 else l.getD i 0 := by
  unfold kwd lane
  refine List.map_congr_left fun i hi => ?_
  have hi := List.mem_range.1 hi
  have e0 := kby_pv l hi 8 (Nat.le_refl _)
  rw [show (256 : Nat) ^ 8 = 18446744073709551616 by decide, Nat.mod_eq_of_lt (hl.at_ i)] at e0
  by_cases c : i < 17
  · rw [if_pos c, ← e0]
    refine pv_xor (fun x hx => kby_lt l x (List.mem_of_mem_drop hx)) (fun x hx => hp x (List.mem_of_mem_drop hx)) 8 fun j hj => ?_
    rw [getD_drop, getD_drop, getD_drop, xorb_at _ _ _ (by omega), if_pos (by omega), Nat.add_assoc]
  · rw [if_neg c, ← e0]
    refine pv_congr 256 _ _ 8 fun j hj => ?_
    rw [getD_drop, getD_drop, xorb_at _ _ _ (by omega), if_neg (by omega)]
end Go.Proofs.YteogjnendkbjcaaDoor
