/-
  A digest that is being made, by the bytes that were taken: the state behind the whole blocks, and what waits. Plain arithmetic, nothing of the program.
-/
import Derived.Test.YteogjnendkbjcaaDoorDgC
import Derived.Laws.CopyOwn
namespace Go.Proofs.YteogjnendkbjcaaDoor
set_option linter.unusedVariables false

theorem getD_map_range (n : Nat) (f : Nat → Nat) {i : Nat} (h : i < n) : ((List.range n).map f).getD i 0 = f i := by
  rw [List.getD_eq_getElem?_getD, List.getElem?_map, List.getElem?_range h]
  rfl
theorem len_map_range (n : Nat) (f : Nat → Nat) : ((List.range n).map f).length = n := by rw [List.length_map, List.length_range]
/-- The bytes that wait, with zeros behind them; the same with the end of all bytes. -/
def hwait (m : List Nat) : List Nat := (List.range 136).map fun i => m.getD (136 * (m.length / 136) + i) 0
def hlast (m : List Nat) : List Nat := (List.range 136).map fun i => (padB m).getD (136 * (m.length / 136) + i) 0
theorem hwait_len (m : List Nat) : (hwait m).length = 136 := len_map_range _ _
theorem hlast_len (m : List Nat) : (hlast m).length = 136 := len_map_range _ _
theorem hwait_at (m : List Nat) {i : Nat} (h : i < 136) : (hwait m).getD i 0 = m.getD (136 * (m.length / 136) + i) 0 := getD_map_range _ _ h
theorem hlast_at (m : List Nat) {i : Nat} (h : i < 136) : (hlast m).getD i 0 = (padB m).getD (136 * (m.length / 136) + i) 0 := getD_map_range _ _ h
theorem hwait_lt {m : List Nat} (h : allLt8 m) : allLt8 (hwait m) := by
  intro x hx
  obtain ⟨i, _, rfl⟩ := List.mem_map.1 hx
  exact getD_lt _ (by decide) m h _
theorem hlast_lt {m : List Nat} (h : allLt8 m) : allLt8 (hlast m) := by
  intro x hx
  obtain ⟨i, _, rfl⟩ := List.mem_map.1 hx
  exact getD_lt _ (by decide) _ (padB_lt h) _
theorem hget_out {m : List Nat} {i : Nat} (h : m.length ≤ i) : m.getD i 0 = 0 := by
  rw [List.getD_eq_getElem?_getD, List.getElem?_eq_none h]
  rfl
theorem hset_at (m : List Nat) {i : Nat} (hi : i < 136) : ((hwait m).set (m.length % 136) 6).getD i 0 = if 136 * (m.length / 136) + i < m.length then m.getD (136 * (m.length / 136) + i) 0 else if 136 * (m.length / 136) + i = m.length then 6 else 0 := by
  have hd := Nat.div_add_mod m.length 136
  have hm := Nat.mod_lt m.length (show 0 < 136 by decide)
  by_cases c : i = m.length % 136
  · rw [← c, getD_set_eq _ _ _ (by rw [hwait_len]; exact hi), if_neg (by omega), if_pos (by omega)]
  · rw [getD_set_ne _ _ _ _ (by omega), hwait_at m hi]
    by_cases d : 136 * (m.length / 136) + i < m.length
    · rw [if_pos d]
    · rw [if_neg d, if_neg (by omega), hget_out (by omega)]
theorem hlast_small (m : List Nat) : ((hwait m).set (m.length % 136) 6).getD 135 0 ≤ 6 := by
  have hd := Nat.div_add_mod m.length 136
  have hm := Nat.mod_lt m.length (show 0 < 136 by decide)
  rw [hset_at m (by decide), if_neg (by omega)]
  split <;> omega
theorem hlast_eq (m : List Nat) : ((hwait m).set (m.length % 136) 6).set 135 (((hwait m).set (m.length % 136) 6).getD 135 0 + 128) = hlast m := by
  have hd := Nat.div_add_mod m.length 136
  have hm := Nat.mod_lt m.length (show 0 < 136 by decide)
  refine same_of_all (by rw [List.length_set, List.length_set, hwait_len, hlast_len]) fun i hi => ?_
  rw [List.length_set, List.length_set, hwait_len] at hi
  rw [hlast_at m hi, padB_at m (by unfold padN; omega)]
  by_cases c : i = 135
  · subst c
    rw [getD_set_eq _ _ _ (by rw [List.length_set, hwait_len]; decide), hset_at m (by decide), if_pos (show 136 * (m.length / 136) + 135 = padN m.length - 1 by unfold padN; omega)]
  · rw [getD_set_ne _ _ _ _ (by omega), hset_at m hi, if_neg (show ¬ 136 * (m.length / 136) + i = padN m.length - 1 by unfold padN; omega), Nat.add_zero]
theorem labs_eq {l p q : List Nat} {j k : Nat} (h : ∀ i, i < 136 → p.getD (136 * j + i) 0 = q.getD (136 * k + i) 0) : labs l p j = labs l q k := by
  unfold labs xorb
  refine congrArg (fun x => lperm (kwd x)) (List.map_congr_left fun i _ => ?_)
  by_cases c : i < 136
  · rw [if_pos c, if_pos c, h i c]
  · rw [if_neg c, if_neg c]
theorem labs_lanes {l p : List Nat} (hp : allLt8 p) (k : Nat) : Lanes (labs l p k) := lperm_all (kwd_lanes (xorb_lt (kby_lt l) hp k))
theorem dig_last (m : List Nat) : dig m = (kby (labs (lblk m (m.length / 136)) (hlast m) 0)).take 32 := by
  rw [dig_eq]
  refine congrArg (fun x => (kby x).take 32) (labs_eq fun i hi => ?_)
  rw [Nat.mul_zero, Nat.zero_add, hlast_at m hi]
theorem dig_len (m : List Nat) : (dig m).length = 32 := by
  unfold dig
  rw [List.length_take, kby_len]
  rfl
theorem dig_lt (m : List Nat) : allLt8 (dig m) := fun x hx => kby_lt _ x (List.mem_of_mem_take hx)
/-- More bytes taken: behind what waits. -/
theorem splice_at {bs cs : List Nat} {k i : Nat} (hk : k + cs.length ≤ bs.length) : (splice bs k cs).getD i 0 = if i < k then bs.getD i 0 else if i < k + cs.length then cs.getD (i - k) 0 else bs.getD i 0 := by
  unfold splice
  simp only [List.getD_eq_getElem?_getD]
  by_cases c : i < k
  · rw [if_pos c, List.getElem?_append_left (by rw [List.length_take]; omega), List.getElem?_take_of_lt c]
  · rw [if_neg c, List.getElem?_append_right (by rw [List.length_take]; omega), List.length_take, Nat.min_eq_left (by omega)]
    by_cases d : i < k + cs.length
    · rw [if_pos d, List.getElem?_append_left (by omega)]
    · rw [if_neg d, List.getElem?_append_right (by omega), List.getElem?_drop, show k + cs.length + (i - k - cs.length) = i by omega]
theorem getD_app (m c : List Nat) (i : Nat) : (m ++ c).getD i 0 = if i < m.length then m.getD i 0 else c.getD (i - m.length) 0 := by
  simp only [List.getD_eq_getElem?_getD]
  by_cases h : i < m.length
  · rw [if_pos h, List.getElem?_append_left h]
  · rw [if_neg h, List.getElem?_append_right (by omega)]
theorem splice_len {bs cs : List Nat} {k : Nat} (hk : k + cs.length ≤ bs.length) : (splice bs k cs).length = bs.length := by
  unfold splice
  rw [List.length_append, List.length_append, List.length_take, List.length_drop]
  omega
theorem hmore_at (m c : List Nat) (hc : m.length % 136 + c.length ≤ 136) {i : Nat} (hi : i < 136) : (splice (hwait m) (m.length % 136) c).getD i 0 = (m ++ c).getD (136 * (m.length / 136) + i) 0 := by
  have hd := Nat.div_add_mod m.length 136
  rw [splice_at (by rw [hwait_len]; exact hc), getD_app, hwait_at m hi]
  by_cases h1 : i < m.length % 136
  · rw [if_pos h1, if_pos (by omega)]
  · rw [if_neg h1, if_neg (show ¬ 136 * (m.length / 136) + i < m.length by omega), show 136 * (m.length / 136) + i - m.length = i - m.length % 136 by omega]
    by_cases h2 : i < m.length % 136 + c.length
    · rw [if_pos h2]
    · rw [if_neg h2, hget_out (by omega), hget_out (by omega)]
theorem hmore_less {m c : List Nat} (hc : m.length % 136 + c.length < 136) : (m ++ c).length / 136 = m.length / 136 ∧ (m ++ c).length % 136 = m.length % 136 + c.length ∧ hwait (m ++ c) = splice (hwait m) (m.length % 136) c ∧ lblk (m ++ c) ((m ++ c).length / 136) = lblk m (m.length / 136) := by
  have hd := Nat.div_add_mod m.length 136
  have h1 : (m ++ c).length / 136 = m.length / 136 := by rw [List.length_append]; omega
  refine ⟨h1, by rw [List.length_append]; omega, ?_, ?_⟩
  · refine same_of_all (by rw [hwait_len, splice_len (by rw [hwait_len]; omega), hwait_len]) fun i hi => ?_
    rw [hwait_len] at hi
    rw [hwait_at _ hi, hmore_at m c (by omega) hi, h1]
  · rw [h1, lblk_app m c (by omega)]
theorem hmore_full {m c : List Nat} (hc : m.length % 136 + c.length = 136) : (m ++ c).length / 136 = m.length / 136 + 1 ∧ (m ++ c).length % 136 = 0 ∧ hwait (m ++ c) = List.replicate 136 0 ∧ lblk (m ++ c) ((m ++ c).length / 136) = labs (lblk m (m.length / 136)) (splice (hwait m) (m.length % 136) c) 0 := by
  have hd := Nat.div_add_mod m.length 136
  have h1 : (m ++ c).length / 136 = m.length / 136 + 1 := by rw [List.length_append]; omega
  refine ⟨h1, by rw [List.length_append]; omega, ?_, ?_⟩
  · refine same_of_all (by rw [hwait_len, List.length_replicate]) fun i hi => ?_
    rw [hwait_len] at hi
    rw [hwait_at _ hi, hget_out (by rw [h1, List.length_append]; omega)]
    rw [List.getD_eq_getElem?_getD, List.getElem?_replicate, if_pos hi]
    rfl
  · rw [h1]
    show labs _ _ _ = _
    rw [lblk_app m c (by omega)]
    refine labs_eq fun i hi => ?_
    rw [Nat.mul_zero, Nat.zero_add, hmore_at m c (by omega) hi]
theorem kwd_get (z : List Nat) {i : Nat} (hi : i < 25) : (kwd z).getD i 0 = pv 256 (z.drop (8 * i)) 8 := by
  unfold kwd
  exact lane_getD (fun i => pv 256 (z.drop (8 * i)) 8) hi
/-- The lanes behind a block. -/
theorem labs_block {l bs : List Nat} (hl : Lanes l) (hb : bs.length = 136) (hlt : allLt8 bs) : labs l bs 0 = lperm (lane fun i => l.getD i 0 ^^^ (kwd (bs ++ List.replicate 64 0)).getD i 0) := by
  unfold labs
  rw [kwd_xorb hl hlt 0]
  refine congrArg lperm ?_
  unfold lane
  refine List.map_congr_left fun i hi => ?_
  have hi := List.mem_range.1 hi
  have e : (kwd (bs ++ List.replicate 64 0)).getD i 0 = pv 256 ((bs ++ List.replicate 64 0).drop (8 * i)) 8 := kwd_get _ hi
  show (if i < 17 then _ else _) = l.getD i 0 ^^^ _
  rw [e]
  by_cases c : i < 17
  · rw [if_pos c, show 136 * 0 + 8 * i = 8 * i by omega]
    refine congrArg (fun x => l.getD i 0 ^^^ x) (pv_congr 256 _ _ 8 fun j hj => ?_)
    rw [getD_drop, getD_drop, getD_app, if_pos (by omega)]
  · rw [if_neg c]
    have h0 : pv 256 ((bs ++ List.replicate 64 0).drop (8 * i)) 8 = pv 256 [] 8 := pv_congr 256 _ _ 8 fun j hj => by
      rw [getD_drop, getD_app, if_neg (by omega)]
      rw [List.getD_eq_getElem?_getD, List.getElem?_replicate]
      split <;> rfl
    rw [h0, pv_empty, Nat.xor_zero]
end Go.Proofs.YteogjnendkbjcaaDoor
