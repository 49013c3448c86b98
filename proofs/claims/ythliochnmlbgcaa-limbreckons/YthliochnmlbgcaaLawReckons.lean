/-
  avouchlaw01.LimbReckons returns true, whatever it is given, and turns nothing that was there.
-/
import Derived.Test.YthliochnmlbgcaaLawLib
import Derived.Test.YthliochnmlbgcaaBytesA
import Derived.Deep.RegionWith
import Derived.Laws.BytesArg
namespace Go.Proofs.Ythliochnmlbgcaa
open Go.RowKit
set_option linter.unusedVariables false

theorem val_bd_m {w : World} {B n m : Nat} {A : Option Addr} {l : List Nat} (h : Rd w B A n l) (hn : n ≤ m) : val 18446744073709551616 l < 18446744073709551616 ^ m := by
  have h1 := val_lt _ (by decide) l h.lt
  rw [h.len] at h1
  exact Nat.lt_of_lt_of_le h1 (Nat.pow_le_pow_right (by decide) hn)
theorem split_eq (x y q r P : Nat) (hx : x < P) (hy : y < P) (h : x + q * P = y + r * P) : x = y ∧ q = r := by
  have h1 : (x + q * P) % P = x := by rw [Nat.add_mul_mod_self_right, Nat.mod_eq_of_lt hx]
  have h2 : (y + r * P) % P = y := by rw [Nat.add_mul_mod_self_right, Nat.mod_eq_of_lt hy]
  have e : x = y := by rw [← h1, ← h2, h]
  subst e
  exact ⟨rfl, Nat.eq_of_mul_eq_mul_right (show 0 < P by omega) (by omega)⟩
theorem add_parts {w : World} {B B' n0 n1 : Nat} {A A' : Option Addr} {l0 l1 : List Nat} (h0 : Rd w B A n0 l0) (h1 : Rd w B' A' n1 l1) (m : Nat) (t a : List Nat) (q : Nat) (ht : t.length = m) (ha : a.length = m + 1) (htl : allLt t) (hal : allLt a)
    (e2 : val 18446744073709551616 t + q * 18446744073709551616 ^ m = val 18446744073709551616 l0 + val 18446744073709551616 l1) (b0 : val 18446744073709551616 l0 < 18446744073709551616 ^ m) (b1 : val 18446744073709551616 l1 < 18446744073709551616 ^ m)
    (e1 : val 18446744073709551616 a = (val 18446744073709551616 l0 + val 18446744073709551616 l1) % 18446744073709551616 ^ (m + 1)) : t = a.take m ∧ q = a.getD m 0 := by
  rw [Nat.mod_eq_of_lt (by rw [Nat.pow_succ]; omega), ← e2] at e1
  have e3 : val 18446744073709551616 a = pv 18446744073709551616 (a.take m) m + a.getD m 0 * 18446744073709551616 ^ m := by
    unfold val; rw [ha, pv_succ, pv_take _ _ _ _ (Nat.le_refl _)]
  have e4 : pv 18446744073709551616 (a.take m) m = val 18446744073709551616 (a.take m) := by unfold val; rw [List.length_take, ha, Nat.min_eq_left (by omega)]
  have tl : allLt (a.take m) := fun x hx => hal x (List.mem_of_mem_take hx)
  have ltt := val_lt _ (by decide) t htl
  have lta := val_lt _ (by decide) (a.take m) tl
  have lena : (a.take m).length = m := by rw [List.length_take, ha, Nat.min_eq_left (by omega)]
  rw [ht] at ltt
  rw [lena] at lta
  rw [e3, e4] at e1
  obtain ⟨h5, h6⟩ := split_eq _ _ _ _ _ lta ltt e1
  exact ⟨val_inj _ (by decide) _ _ htl tl (ht.trans lena.symm) h5.symm, h6.symm⟩
theorem Still.cell {w w' : World} (h : Still w w') (p : Addr) {v : Value} (hc : w.cell? p = some v) : w'.cell? p = some v := by
  rw [← hc]
  exact (h (w.heap.size)).cell (World.block_lt_of_cell? w _ hc)
theorem own_zeros (w : World) (m : Nat) (hm : m ≤ 1000000) : OwnW (w.alloc (.cells (zeros m) 25)) w.heap.size (.slice (some ⟨w.heap.size, 0, none⟩) m m) (List.replicate m 0) := by
  have h := (blk_zeros w m).own (by simp; exact hm)
  rw [List.length_replicate] at h
  exact h
theorem append_made {ops : Array Oper} {rest : List Oper} {o : Oper} {a : Act} {Q : Exit → Act → World → Prop} (hgd : o.guard = none) (s x : Operand)
    (ho : o.op = .call { callee := .builtin .append, args := #[s, x], argTypes := #[22, 22] }) (w : World) (m : Nat) (hm : m ≤ 40)
    (hs : a.eval s = .slice (some ⟨w.heap.size, 0, none⟩) m m) (hx : a.eval x = .slice (some ⟨w.heap.size + 1, 0, none⟩) 1 1)
    (h : ∀ (T : Option Addr) (c : Nat) (w' : World), Rd w' w'.heap.size T (m + 1) (List.replicate m 0 ++ [1]) → Below w.heap.size w w' → wpList Try.prog ops Q rest (a.put o.dst (.slice T (m + 1) c)) w') :
    wpList Try.prog ops Q (o :: rest) a ((w.alloc (.cells (zeros m) 25)).alloc (.cells #[.int .u64 1] 25)) := by
  have e : (w.alloc (.cells (zeros m) 25)).heap.size = w.heap.size + 1 := by simp
  refine append_word hgd s x ho w.heap.size _ (List.replicate m 0) hs (own_zeros w m (by omega)) 1 1 rfl (by omega) (by rw [e]; exact hx) (by simp; omega) (by omega) fun v' w' hown bb => ?_
  obtain ⟨Tb, cb, rfl, hcb, rtb⟩ := hown.rd
  have hlb : (List.replicate m 0 ++ [1]).length = m + 1 := by simp
  rw [hlb] at rtb ⊢
  exact h Tb cb w' rtb (((Below.refl w.heap.size w).alloc (Nat.le_refl _) _).trans bb)
theorem mul_bd64 {w : World} {B B' n0 n1 : Nat} {A A' : Option Addr} {l0 l1 : List Nat} (h0 : Rd w B A n0 l0) (h1 : Rd w B' A' n1 l1) : val 18446744073709551616 l0 * val 18446744073709551616 l1 < 18446744073709551616 ^ (n0 + n1) := by
  rw [Nat.pow_add]
  exact Nat.mul_lt_mul'' (val_bd_m h0 (Nat.le_refl _)) (val_bd_m h1 (Nat.le_refl _))
theorem mul_same {V3 V2 X Y x y M : Nat} (h3 : V3 = V2 % M) (h2 : V2 = X * Y) (hx : X = x) (hy : Y = y) (h : x * y < M) : x * y = V3 := by
  rw [h3, h2, hx, hy, Nat.mod_eq_of_lt h]
theorem conv8 {w : World} {B n : Nat} {A : Option Addr} {l : List Nat} (h : Rd8 w B A n l) (c : Nat) :
    (convert 33 9 (.slice A n c)).run Try.prog w = .ok (.string (strOfNums (l.map fun (x : Nat) => (x : Int)))) w := by
  rcases Nat.eq_zero_or_pos n with h0 | h0
  · subst h0
    have hl : l = [] := List.eq_nil_of_length_eq_zero h.len
    subst hl
    rw [run_convert_bytes_string w _ _ 5 A 0 c Try.underlying33 Try.underlying5 Try.underlying9]
    cases A with
    | none => simp [Conv.bytesToString]; rfl
    | some a =>
      have hl : (loadCells a 0).run Try.prog w = .ok (([] : List Int).map (Value.int .u8)).toArray w := by simpa using run_loadCells_list (P := Try.prog) w a [] (fun j v hj => by simp at hj)
      rw [run_bytesToString w a 0 c [] hl]; rfl
  · obtain ⟨b, off, rfl, hb, hc⟩ := h.cells h0
    refine run_convert_bytes_arg w _ 5 Try.underlying33 Try.underlying5 b off n c _ (by simp [h.len]) (fun i hi => ?_) _ Try.underlying9
    rw [hc i hi]
    have hi' : i < l.length := by rw [h.len]; exact hi
    simp [at64, List.getD_eq_getElem?_getD, List.getElem?_eq_getElem hi']
theorem val_big (m : Nat) : val 18446744073709551616 (List.replicate m 0 ++ [1]) = 18446744073709551616 ^ m := by
  rw [val_append, List.length_replicate, Nat.one_mul]
  unfold val
  rw [pv_replicate, Nat.zero_add]
theorem sub_less {t a b q P : Nat} (h : t + b = a + q * P) (ht : t < P) (hb : b < P) (hab : a < b) (hq : q ≤ 1) : q = 1 := by
  have : q = 0 ∨ q = 1 := by omega
  rcases this with rfl | rfl
  · omega
  · rfl
theorem sub_more {t a b q P : Nat} (h : t + b = a + q * P) (ht : t < P) (hab : ¬ a < b) (hq : q ≤ 1) : q = 0 := by
  have : q = 0 ∨ q = 1 := by omega
  rcases this with rfl | rfl
  · rfl
  · omega
theorem cmpN_nlt {x y : Nat} (h : ¬ x < y) : decide (cmpN x y < 0) = false := by
  unfold cmpN; rw [if_neg h]; split <;> decide
theorem sub_same {t u : List Nat} {a b q m : Nat} (ht : allLt t) (hu : allLt u) (lt : t.length = m) (lu : u.length = m) (e : val 18446744073709551616 u = (a + 18446744073709551616 ^ m - b) % 18446744073709551616 ^ m)
    (h : val 18446744073709551616 t + b = a + q * 18446744073709551616 ^ m) (htl : val 18446744073709551616 t < 18446744073709551616 ^ m) (hb : b < 18446744073709551616 ^ m) (ha : a < 18446744073709551616 ^ m) : t = u := by
  refine val_inj _ (by decide) _ _ ht hu (lt.trans lu.symm) ?_
  rw [e]
  generalize val 18446744073709551616 t = x at *
  generalize 18446744073709551616 ^ m = P at *
  have e1 : (a + P - b) % P = (x + (1 - q) * P) % P := by
    by_cases hq : q ≤ 1
    · have : q = 0 ∨ q = 1 := by omega
      rcases this with rfl | rfl
      · congr 1; omega
      · congr 1; omega
    · exfalso
      have : 2 * P ≤ q * P := Nat.mul_le_mul_right _ (by omega)
      omega
  rw [e1, Nat.add_mul_mod_self_right, Nat.mod_eq_of_lt htl]

set_option maxRecDepth 100000 in
set_option maxHeartbeats 16000000 in
theorem limbReckons_w (A0 A1 : Option Addr) (n0 n1 c0 c1 : Nat) (l0 l1 : List Nat) (w : World) (r0 : Rd w w.heap.size A0 n0 l0) (r1 : Rd w w.heap.size A1 n1 l1) :
    Calls Try.prog 3 #[.slice A0 n0 c0, .slice A1 n1 c1] w fun e w' => e = .returned (.bool true) ∧ Below w.heap.size w w' := by
  by_cases g0 : 40 < n0
  · have d0 : decide ((40 : Int) < (n0 : Int)) = true := by simp; omega
    go_enter Try.func3, Try.ntmps3
    go_wp2_with fail
    refine (speaks_c _).mono ?_
    rintro e w1 ⟨rfl, b1⟩
    go_wp2_with fail
    refine (speaks_c _).mono ?_
    rintro e w2 ⟨rfl, b2⟩
    go_wp2
    go_ret
    exact ⟨rfl, (bchain b1 b2)⟩
  have d0 : decide ((40 : Int) < (n0 : Int)) = false := by simp; omega
  by_cases g1 : 40 < n1
  · have d1 : decide ((40 : Int) < (n1 : Int)) = true := by simp; omega
    go_enter Try.func3, Try.ntmps3
    go_wp2_with fail
    refine (speaks_c _).mono ?_
    rintro e w1 ⟨rfl, b1⟩
    go_wp2_with fail
    refine (speaks_c _).mono ?_
    rintro e w2 ⟨rfl, b2⟩
    go_wp2
    go_ret
    exact ⟨rfl, (bchain b1 b2)⟩
  have d1 : decide ((40 : Int) < (n1 : Int)) = false := by simp; omega
  go_enter Try.func3, Try.ntmps3
  go_wp2_with fail
  refine (speaks_c _).mono ?_
  rintro e w1 ⟨rfl, b1⟩
  obtain ⟨m, hm⟩ : ∃ m, m = max n0 n1 := ⟨_, rfl⟩
  have hm0 : n0 ≤ m := by omega
  have hm1 : n1 ≤ m := by omega
  have hm2 : m ≤ 40 := by omega
  have hmx : max (n0 : Int) (n1 : Int) = (m : Int) := by omega
  have hmk := make64 m m (Nat.le_refl _) (by omega)
  have HA : Hid (val 18446744073709551616 l0 < 18446744073709551616 ^ m) := val_bd_m r0 hm0
  have HC : Hid (val 18446744073709551616 l1 < 18446744073709551616 ^ m) := val_bd_m r1 hm1
  have HM := hid hm
  clear hm
  go_wp2_with fail
  refine (digits_c A0 n0 c0 l0 _ (r0.up b1 (Nat.le_refl _)) (by omega)).mono ?_
  rintro e w2 ⟨T1, ct1, t1, rfl, hct1, rt1, dt1, tt1, vt1, b2⟩
  have HV1 := hid vt1
  have HB1 : Hid (val 4294967296 t1 < 4294967296 ^ 80) := by rw [vt1]; exact val_bd r0 (by omega)
  have hl1' : t1.length ≤ 80 := tr_len tt1 80 HB1.out
  clear vt1 tt1
  go_wp2_with fail
  refine (digits_c A1 n1 c1 l1 _ (r1.up (bchain b1 b2) (Nat.le_refl _)) (by omega)).mono ?_
  rintro e w3 ⟨T2, ct2, t2, rfl, hct2, rt2, dt2, tt2, vt2, b3⟩
  have HV2 := hid vt2
  have HB2 : Hid (val 4294967296 t2 < 4294967296 ^ 80) := by rw [vt2]; exact val_bd r1 (by omega)
  have hl2' : t2.length ≤ 80 := tr_len tt2 80 HB2.out
  clear vt2 tt2
  go_wp2_with fail
  refine (ladd_w A0 A1 n0 n1 c0 c1 l0 l1 _ (r0.up (bchain (bchain b1 b2) b3) (Nat.le_refl _)) (r1.up (bchain (bchain b1 b2) b3) (Nat.le_refl _)) (by omega) (by omega)).mono ?_
  rintro e w4 ⟨t3, q3, rfl, hB3, hn3, vt3, hq3, b4⟩
  have hn3' : t3.length ≤ 200 := by omega
  have HN3 := hid hn3
  have HV3 := hid vt3
  have rt3 := hB3.rdAll
  clear vt3 hn3
  go_wp2_with fail
  refine (refAdd_c T1 T2 t1.length t2.length ct1 ct2 t1 t2 _ (rt1.up (bchain b3 b4) (Nat.le_refl _)) (rt2.up b4 (Nat.le_refl _)) dt1 dt2 (by omega) (by omega)).mono ?_
  rintro e w5 ⟨T4, ct4, t4, rfl, hct4, rt4, dt4, tt4, vt4, b5⟩
  have HV4 := hid vt4
  have HB4 : Hid (val 4294967296 t4 < 4294967296 ^ 81) := by rw [vt4]; exact add_bd HB1.out HB2.out (by decide) (by decide)
  have hl4' : t4.length ≤ 81 := tr_len tt4 81 HB4.out
  clear vt4 tt4
  go_wp2_with fail
  refine (words_c T4 t4.length ct4 t4 (m + 1) ((m : Int) + 1) (rfl) _ rt4 dt4 (by omega)).mono ?_
  rintro e w6 ⟨T5, ct5, t5, rfl, hct5, rt5, vt5, b6⟩
  have HV5 := hid vt5
  clear vt5
  have HS : Hid (t3 = t5.take m ∧ q3 = t5.getD m 0) := by
    have e1 := HV5.out
    have e2 := HV3.out
    rw [HV4.out, HV1.out, HV2.out] at e1
    rw [HN3.out, ← HM.out] at e2
    exact add_parts r0 r1 m _ _ _ (HN3.out.trans HM.out.symm) rt5.len rt3.lt rt5.lt e2 HA.out HC.out e1
  obtain ⟨ba, oa, rfl, hba, hca⟩ := rt5.at_ (k := m) (by omega)
  have hcm : at64 t5 m = (q3 : Int) := by unfold at64; rw [← HS.out.2]
  rw [hcm] at hca
  clear hcm
  have hcc : (m : Int) ≤ (ct5 : Int) := by omega
  have hcc2 : m ≤ ct5 := by omega
  have rtk5 := rt5.take m (by omega)
  go_wp2_with fail
  refine (same_c (some ⟨w3.heap.size, 0, none⟩) _ t3.length m t3.length _ _ t3 (t5.take m) _ (rt3.up (bchain b5 b6) (Nat.le_refl _)) rtk5 (by omega)).mono ?_
  rintro e w7 ⟨rfl, S7⟩
  have b7 := S7 w6.heap.size
  have hca7 := S7.cell _ hca
  clear S7
  rw [decide_eq_true HS.out.1]
  go_wp2_with fail
  refine (lsub_w A0 A1 n0 n1 c0 c1 l0 l1 _ (r0.up (bchain (bchain (bchain (bchain (bchain (bchain b1 b2) b3) b4) b5) b6) b7) (Nat.le_refl _)) (r1.up (bchain (bchain (bchain (bchain (bchain (bchain b1 b2) b3) b4) b5) b6) b7) (Nat.le_refl _)) (by omega) (by omega)).mono ?_
  rintro e w8 ⟨t6, q6, rfl, hB6, hn6, vt6, hq6, b8⟩
  have hn6' : t6.length ≤ 200 := by omega
  have HN6 := hid hn6
  have HV6 := hid vt6
  have rt6 := hB6.rdAll
  clear vt6 hn6
  go_wp2_with (at_builtin; refine append_made rfl (.tmp 71) (.tmp 72) rfl w8 m hm2 rfl rfl ?_)
  intro Tb cb w9 rtb b9
  clear hmk
  go_wp2_with fail
  refine (digits_c Tb (m + 1) cb (List.replicate m 0 ++ [1]) _ rtb (by omega)).mono ?_
  rintro e w10 ⟨T7, ct7, t7, rfl, hct7, rt7, dt7, tt7, vt7, b10⟩
  have HV7 := hid vt7
  have HB7 : Hid (val 4294967296 t7 < 4294967296 ^ 82) := by rw [vt7]; exact val_bd rtb (by omega)
  have hl7' : t7.length ≤ 82 := tr_len tt7 82 HB7.out
  clear vt7 tt7
  go_wp2_with fail
  refine (refAdd_c T1 T7 t1.length t7.length ct1 ct7 t1 t7 _ (rt1.up (bchain (bchain (bchain (bchain (bchain (bchain (bchain b3 b4) b5) b6) b7) b8) b9) b10) (Nat.le_refl _)) rt7 dt1 dt7 (by omega) (by omega)).mono ?_
  rintro e w11 ⟨T8, ct8, t8, rfl, hct8, rt8, dt8, tt8, vt8, b11⟩
  have HV8 := hid vt8
  have HB8 : Hid (val 4294967296 t8 < 4294967296 ^ 83) := by rw [vt8]; exact add_bd HB1.out HB7.out (by decide) (by decide)
  have hl8' : t8.length ≤ 83 := tr_len tt8 83 HB8.out
  clear vt8 tt8
  have HBG : Hid (val 18446744073709551616 l1 ≤ val 18446744073709551616 l0 + 18446744073709551616 ^ m) := by have := HC.out; show _ ≤ _; omega
  have HBV : Hid (val 4294967296 t8 = val 18446744073709551616 l0 + 18446744073709551616 ^ m) := by show _ = _; rw [HV8.out, HV1.out, HV7.out, val_big]
  go_wp2_with fail
  refine (refSub_c T8 T2 t8.length t2.length ct8 ct2 t8 t2 _ rt8 (rt2.up (bchain (bchain (bchain (bchain (bchain (bchain (bchain b4 b5) b6) b7) b8) b9) b10) b11) (Nat.le_refl _)) dt8 dt2 (by omega) (by rw [HBV.out, HV2.out]; exact HBG.out)).mono ?_
  rintro e w12 ⟨T9, ct9, t9, rfl, hct9, rt9, dt9, tt9, vt9, b12⟩
  have HV9 := hid vt9
  have HB9 : Hid (val 4294967296 t9 < 4294967296 ^ 83) := by rw [vt9]; exact Nat.lt_of_le_of_lt (Nat.sub_le _ _) HB8.out
  have hl9' : t9.length ≤ 83 := tr_len tt9 83 HB9.out
  clear vt9 tt9
  go_wp2_with fail
  refine (refCmp_c T1 T2 t1.length t2.length ct1 ct2 t1 t2 _ _ (rt1.up (bchain (bchain (bchain (bchain (bchain (bchain (bchain (bchain (bchain b3 b4) b5) b6) b7) b8) b9) b10) b11) b12) (Nat.le_refl _)) (rt2.up (bchain (bchain (bchain (bchain (bchain (bchain (bchain (bchain b4 b5) b6) b7) b8) b9) b10) b11) b12) (Nat.le_refl _)) dt1 dt2 (by omega) (by omega)).mono ?_
  rintro e w' ⟨rfl, rfl⟩
  rw [HV1.out, HV2.out]
  have HD : Hid (val 18446744073709551616 t6 + val 18446744073709551616 l1 = val 18446744073709551616 l0 + q6 * 18446744073709551616 ^ m) := by
    have e := HV6.out
    rw [HN6.out, ← HM.out] at e
    exact e
  have HDL : Hid (val 18446744073709551616 t6 < 18446744073709551616 ^ m) := by
    have e := val_lt _ (by decide) t6 rt6.lt
    rw [HN6.out, ← HM.out] at e
    exact e
  have hle : t6.length = m := HN6.out.trans HM.out.symm
  have HLE := hid hle
  clear hle
  by_cases hcmp : val 18446744073709551616 l0 < val 18446744073709551616 l1
  · have hq : q6 = 1 := sub_less HD.out HDL.out HC.out hcmp hq6
    have HCV : Hid (cmpN (val 18446744073709551616 l0) (val 18446744073709551616 l1) = -1) := cmpN_lt hcmp
    have htest : decide (cmpN (val 18446744073709551616 l0) (val 18446744073709551616 l1) < 0) = true := by rw [HCV.out]; decide
    subst hq
    clear hcmp
    go_wp2_with fail
    refine (words_c T9 t9.length ct9 t9 m (m : Int) (rfl) _ rt9 dt9 (by omega)).mono ?_
    rintro e w13 ⟨T10, ct10, t10, rfl, hct10, rt10, vt10, b13⟩
    have HV10 := hid vt10
    clear vt10
    go_wp2_with fail
    refine (same_c (some ⟨w7.heap.size, 0, none⟩) T10 t6.length m t6.length ct10 _ t6 t10 _ (rt6.up (bchain (bchain (bchain (bchain b9 b10) b11) b12) b13) (Nat.le_refl _)) rt10 (by omega)).mono ?_
    rintro e w14 ⟨rfl, S14⟩
    have b14 := S14 w13.heap.size
    clear S14
    rw [decide_eq_true (sub_same rt6.lt rt10.lt HLE.out rt10.len (by rw [HV10.out, HV9.out, HBV.out, HV2.out]) HD.out HDL.out HC.out HA.out)]
    go_wp2_with fail
    refine (cmp_c A0 A1 n0 n1 c0 c1 l0 l1 _ _ (r0.up (bchain (bchain (bchain (bchain (bchain (bchain (bchain (bchain (bchain (bchain (bchain (bchain (bchain b1 b2) b3) b4) b5) b6) b7) b8) b9) b10) b11) b12) b13) b14) (Nat.le_refl _)) (r1.up (bchain (bchain (bchain (bchain (bchain (bchain (bchain (bchain (bchain (bchain (bchain (bchain (bchain b1 b2) b3) b4) b5) b6) b7) b8) b9) b10) b11) b12) b13) b14) (Nat.le_refl _)) (by omega) (by omega)).mono ?_
    rintro e w' ⟨rfl, rfl⟩
    go_wp2_with fail
    refine (refCmp_c T1 T2 t1.length t2.length ct1 ct2 t1 t2 _ _ (rt1.up (bchain (bchain (bchain (bchain (bchain (bchain (bchain (bchain (bchain (bchain (bchain b3 b4) b5) b6) b7) b8) b9) b10) b11) b12) b13) b14) (Nat.le_refl _)) (rt2.up (bchain (bchain (bchain (bchain (bchain (bchain (bchain (bchain (bchain (bchain b4 b5) b6) b7) b8) b9) b10) b11) b12) b13) b14) (Nat.le_refl _)) dt1 dt2 (by omega) (by omega)).mono ?_
    rintro e w' ⟨rfl, rfl⟩
    rw [HV1.out, HV2.out]
    clear htest
    generalize cmpN (val 18446744073709551616 l0) (val 18446744073709551616 l1) = CV
    go_wp2_with fail
    have q0 := (r0.up (bchain (bchain (bchain (bchain (bchain (bchain (bchain (bchain (bchain (bchain (bchain (bchain (bchain b1 b2) b3) b4) b5) b6) b7) b8) b9) b10) b11) b12) b13) b14) (Nat.le_refl _))
    have q1 := (r1.up (bchain (bchain (bchain (bchain (bchain (bchain (bchain (bchain (bchain (bchain (bchain (bchain (bchain b1 b2) b3) b4) b5) b6) b7) b8) b9) b10) b11) b12) b13) b14) (Nat.le_refl _))
    have qx := (rt1.up (bchain (bchain (bchain (bchain (bchain (bchain (bchain (bchain (bchain (bchain (bchain b3 b4) b5) b6) b7) b8) b9) b10) b11) b12) b13) b14) (Nat.le_refl _))
    have qy := (rt2.up (bchain (bchain (bchain (bchain (bchain (bchain (bchain (bchain (bchain (bchain b4 b5) b6) b7) b8) b9) b10) b11) b12) b13) b14) (Nat.le_refl _))
    have bz := (bchain (bchain (bchain (bchain (bchain (bchain (bchain (bchain (bchain (bchain (bchain (bchain (bchain b1 b2) b3) b4) b5) b6) b7) b8) b9) b10) b11) b12) b13) b14)
    clear b1 b2 b3 b4 b5 b6 b7 b8 b9 b10 b11 b12 b13 b14
    replace bz := bz.drew
    have k0 : n0 ≤ 10000 := by omega
    have k1 : n1 ≤ 10000 := by omega
    have k2 : n0 ≤ 1000 := by omega
    have kx : t1.length ≤ 10000 := by omega
    have ky : t2.length ≤ 10000 := by omega
    have kn : n0 + n1 ≤ 10000 := by omega
    have kn' : n0 + n1 ≤ 100000 := by omega
    have hN : (n0 : Int) + (n1 : Int) = ((n0 + n1 : Nat) : Int) := by omega
    have HN := hid hN
    have hnn : IntKind.i64.wrap ((n0 : Int) + (n1 : Int)) = (n0 : Int) + (n1 : Int) := by rw [IntKind.wrap_i64]; omega
    have HP : Hid (val 18446744073709551616 l0 * val 18446744073709551616 l1 < 18446744073709551616 ^ (n0 + n1)) := mul_bd64 r0 r1
    replace q0 : Rd w14.drew w14.drew.heap.size A0 n0 l0 := ⟨q0.len, q0.lt, q0.cells⟩
    replace q1 : Rd w14.drew w14.drew.heap.size A1 n1 l1 := ⟨q1.len, q1.lt, q1.cells⟩
    replace qx : Rd w14.drew w14.drew.heap.size T1 t1.length t1 := ⟨qx.len, qx.lt, qx.cells⟩
    replace qy : Rd w14.drew w14.drew.heap.size T2 t2.length t2 := ⟨qy.len, qy.lt, qy.cells⟩
    clear hN
    go_region_with (first
      | (go_at_call 19; refine (lmul_w A0 A1 n0 n1 c0 c1 l0 l1 _ q0 q1 k0 k1).mono ?_; rintro e v1 ⟨P1, cp1, p1, rfl, hcp1, rp1, vp1, bp1⟩; have HP1 := hid vp1; clear vp1)
      | (go_at_call 20; refine (refMul_c T1 T2 t1.length t2.length ct1 ct2 t1 t2 _ (qx.up bp1 (Nat.le_refl _)) (qy.up bp1 (Nat.le_refl _)) dt1 dt2 kx ky).mono ?_; rintro e v2 ⟨P2, cp2, p2, rfl, hcp2, rp2, dp2, tp2, vp2, bp2⟩; have HP2 := hid vp2; clear vp2 tp2)
      | (go_at_call 12; refine (words_c P2 p2.length cp2 p2 (n0 + n1) _ HN.out _ rp2 dp2 kn).mono ?_; rintro e v3 ⟨P3, cp3, p3, rfl, hcp3, rp3, vp3, bp3⟩; have HP3 := hid vp3; clear vp3)
      | (go_at_call 14; refine (same_c P1 P3 (n0 + n1) (n0 + n1) cp1 cp3 _ p1 p3 _ (rp1.up (bchain bp2 bp3) (Nat.le_refl _)) rp3 kn').mono ?_; rintro e v4 ⟨rfl, S4⟩; have bp4 := S4 v3.heap.size; clear S4; rw [decide_eq_true (eq_of_val rp1 rp3 (HP1.out.trans (mul_same HP3.out HP2.out HV1.out HV2.out HP.out)))])
      | (go_at_call 21; refine (bits_c A0 n0 c0 _ l0 _ (q0.up (bchain (bchain (bchain bp1 bp2) bp3) bp4) (Nat.le_refl _)) k0).mono ?_; rintro e w' ⟨rfl, rfl⟩)
      | (go_at_call 22; refine (refBits_c T1 t1.length ct1 _ t1 _ (qx.up (bchain (bchain (bchain bp1 bp2) bp3) bp4) (Nat.le_refl _)) dt1 kx hct1).mono ?_; rintro e w' ⟨rfl, rfl⟩; rw [HV1.out])
      | (go_at_call 23; refine (limbBytes_c A0 n0 c0 l0 _ (q0.up (bchain (bchain (bchain bp1 bp2) bp3) bp4) (Nat.le_refl _)) k2).mono ?_; rintro e v5 ⟨P5, cp5, p5, rfl, hcp5, rp5, vp5, bp5⟩; have HP5 := hid vp5; clear vp5; have cv5 := conv8 rp5 cp5)
      | (go_at_call 24; refine (refBytes_c A0 n0 c0 l0 _ (q0.up (bchain (bchain (bchain (bchain bp1 bp2) bp3) bp4) bp5) (Nat.le_refl _)) k2).mono ?_; rintro e v6 ⟨P6, cp6, p6, rfl, hcp6, rp6, vp6, bp6⟩; obtain rfl := val_inj 256 (by decide) p5 p6 rp5.lt rp6.lt (rp5.len.trans rp6.len.symm) (HP5.out.trans vp6.symm); clear vp6; have cv6 := conv8 rp6 cp6; have cv7 := conv8 (rp5.up bp6 (Nat.le_refl _)) cp5))
    all_goals (go_wp2_with fail; go_ret; exact ⟨rfl, bchain (bchain (bchain (bchain (bchain (bchain bz bp1) bp2) bp3) bp4) bp5) bp6⟩)
  · have hq : q6 = 0 := sub_more HD.out HDL.out hcmp hq6
    have htest : decide (cmpN (val 18446744073709551616 l0) (val 18446744073709551616 l1) < 0) = false := cmpN_nlt hcmp
    subst hq
    clear hcmp
    go_wp2_with fail
    refine (words_c T9 t9.length ct9 t9 m (m : Int) (rfl) _ rt9 dt9 (by omega)).mono ?_
    rintro e w13 ⟨T10, ct10, t10, rfl, hct10, rt10, vt10, b13⟩
    have HV10 := hid vt10
    clear vt10
    go_wp2_with fail
    refine (same_c (some ⟨w7.heap.size, 0, none⟩) T10 t6.length m t6.length ct10 _ t6 t10 _ (rt6.up (bchain (bchain (bchain (bchain b9 b10) b11) b12) b13) (Nat.le_refl _)) rt10 (by omega)).mono ?_
    rintro e w14 ⟨rfl, S14⟩
    have b14 := S14 w13.heap.size
    clear S14
    rw [decide_eq_true (sub_same rt6.lt rt10.lt HLE.out rt10.len (by rw [HV10.out, HV9.out, HBV.out, HV2.out]) HD.out HDL.out HC.out HA.out)]
    go_wp2_with fail
    refine (cmp_c A0 A1 n0 n1 c0 c1 l0 l1 _ _ (r0.up (bchain (bchain (bchain (bchain (bchain (bchain (bchain (bchain (bchain (bchain (bchain (bchain (bchain b1 b2) b3) b4) b5) b6) b7) b8) b9) b10) b11) b12) b13) b14) (Nat.le_refl _)) (r1.up (bchain (bchain (bchain (bchain (bchain (bchain (bchain (bchain (bchain (bchain (bchain (bchain (bchain b1 b2) b3) b4) b5) b6) b7) b8) b9) b10) b11) b12) b13) b14) (Nat.le_refl _)) (by omega) (by omega)).mono ?_
    rintro e w' ⟨rfl, rfl⟩
    go_wp2_with fail
    refine (refCmp_c T1 T2 t1.length t2.length ct1 ct2 t1 t2 _ _ (rt1.up (bchain (bchain (bchain (bchain (bchain (bchain (bchain (bchain (bchain (bchain (bchain b3 b4) b5) b6) b7) b8) b9) b10) b11) b12) b13) b14) (Nat.le_refl _)) (rt2.up (bchain (bchain (bchain (bchain (bchain (bchain (bchain (bchain (bchain (bchain b4 b5) b6) b7) b8) b9) b10) b11) b12) b13) b14) (Nat.le_refl _)) dt1 dt2 (by omega) (by omega)).mono ?_
    rintro e w' ⟨rfl, rfl⟩
    rw [HV1.out, HV2.out]
    clear htest
    generalize cmpN (val 18446744073709551616 l0) (val 18446744073709551616 l1) = CV
    go_wp2_with fail
    have q0 := (r0.up (bchain (bchain (bchain (bchain (bchain (bchain (bchain (bchain (bchain (bchain (bchain (bchain (bchain b1 b2) b3) b4) b5) b6) b7) b8) b9) b10) b11) b12) b13) b14) (Nat.le_refl _))
    have q1 := (r1.up (bchain (bchain (bchain (bchain (bchain (bchain (bchain (bchain (bchain (bchain (bchain (bchain (bchain b1 b2) b3) b4) b5) b6) b7) b8) b9) b10) b11) b12) b13) b14) (Nat.le_refl _))
    have qx := (rt1.up (bchain (bchain (bchain (bchain (bchain (bchain (bchain (bchain (bchain (bchain (bchain b3 b4) b5) b6) b7) b8) b9) b10) b11) b12) b13) b14) (Nat.le_refl _))
    have qy := (rt2.up (bchain (bchain (bchain (bchain (bchain (bchain (bchain (bchain (bchain (bchain b4 b5) b6) b7) b8) b9) b10) b11) b12) b13) b14) (Nat.le_refl _))
    have bz := (bchain (bchain (bchain (bchain (bchain (bchain (bchain (bchain (bchain (bchain (bchain (bchain (bchain b1 b2) b3) b4) b5) b6) b7) b8) b9) b10) b11) b12) b13) b14)
    clear b1 b2 b3 b4 b5 b6 b7 b8 b9 b10 b11 b12 b13 b14
    replace bz := bz.drew
    have k0 : n0 ≤ 10000 := by omega
    have k1 : n1 ≤ 10000 := by omega
    have k2 : n0 ≤ 1000 := by omega
    have kx : t1.length ≤ 10000 := by omega
    have ky : t2.length ≤ 10000 := by omega
    have kn : n0 + n1 ≤ 10000 := by omega
    have kn' : n0 + n1 ≤ 100000 := by omega
    have hN : (n0 : Int) + (n1 : Int) = ((n0 + n1 : Nat) : Int) := by omega
    have HN := hid hN
    have hnn : IntKind.i64.wrap ((n0 : Int) + (n1 : Int)) = (n0 : Int) + (n1 : Int) := by rw [IntKind.wrap_i64]; omega
    have HP : Hid (val 18446744073709551616 l0 * val 18446744073709551616 l1 < 18446744073709551616 ^ (n0 + n1)) := mul_bd64 r0 r1
    replace q0 : Rd w14.drew w14.drew.heap.size A0 n0 l0 := ⟨q0.len, q0.lt, q0.cells⟩
    replace q1 : Rd w14.drew w14.drew.heap.size A1 n1 l1 := ⟨q1.len, q1.lt, q1.cells⟩
    replace qx : Rd w14.drew w14.drew.heap.size T1 t1.length t1 := ⟨qx.len, qx.lt, qx.cells⟩
    replace qy : Rd w14.drew w14.drew.heap.size T2 t2.length t2 := ⟨qy.len, qy.lt, qy.cells⟩
    clear hN
    go_region_with (first
      | (go_at_call 19; refine (lmul_w A0 A1 n0 n1 c0 c1 l0 l1 _ q0 q1 k0 k1).mono ?_; rintro e v1 ⟨P1, cp1, p1, rfl, hcp1, rp1, vp1, bp1⟩; have HP1 := hid vp1; clear vp1)
      | (go_at_call 20; refine (refMul_c T1 T2 t1.length t2.length ct1 ct2 t1 t2 _ (qx.up bp1 (Nat.le_refl _)) (qy.up bp1 (Nat.le_refl _)) dt1 dt2 kx ky).mono ?_; rintro e v2 ⟨P2, cp2, p2, rfl, hcp2, rp2, dp2, tp2, vp2, bp2⟩; have HP2 := hid vp2; clear vp2 tp2)
      | (go_at_call 12; refine (words_c P2 p2.length cp2 p2 (n0 + n1) _ HN.out _ rp2 dp2 kn).mono ?_; rintro e v3 ⟨P3, cp3, p3, rfl, hcp3, rp3, vp3, bp3⟩; have HP3 := hid vp3; clear vp3)
      | (go_at_call 14; refine (same_c P1 P3 (n0 + n1) (n0 + n1) cp1 cp3 _ p1 p3 _ (rp1.up (bchain bp2 bp3) (Nat.le_refl _)) rp3 kn').mono ?_; rintro e v4 ⟨rfl, S4⟩; have bp4 := S4 v3.heap.size; clear S4; rw [decide_eq_true (eq_of_val rp1 rp3 (HP1.out.trans (mul_same HP3.out HP2.out HV1.out HV2.out HP.out)))])
      | (go_at_call 21; refine (bits_c A0 n0 c0 _ l0 _ (q0.up (bchain (bchain (bchain bp1 bp2) bp3) bp4) (Nat.le_refl _)) k0).mono ?_; rintro e w' ⟨rfl, rfl⟩)
      | (go_at_call 22; refine (refBits_c T1 t1.length ct1 _ t1 _ (qx.up (bchain (bchain (bchain bp1 bp2) bp3) bp4) (Nat.le_refl _)) dt1 kx hct1).mono ?_; rintro e w' ⟨rfl, rfl⟩; rw [HV1.out])
      | (go_at_call 23; refine (limbBytes_c A0 n0 c0 l0 _ (q0.up (bchain (bchain (bchain bp1 bp2) bp3) bp4) (Nat.le_refl _)) k2).mono ?_; rintro e v5 ⟨P5, cp5, p5, rfl, hcp5, rp5, vp5, bp5⟩; have HP5 := hid vp5; clear vp5; have cv5 := conv8 rp5 cp5)
      | (go_at_call 24; refine (refBytes_c A0 n0 c0 l0 _ (q0.up (bchain (bchain (bchain (bchain bp1 bp2) bp3) bp4) bp5) (Nat.le_refl _)) k2).mono ?_; rintro e v6 ⟨P6, cp6, p6, rfl, hcp6, rp6, vp6, bp6⟩; obtain rfl := val_inj 256 (by decide) p5 p6 rp5.lt rp6.lt (rp5.len.trans rp6.len.symm) (HP5.out.trans vp6.symm); clear vp6; have cv6 := conv8 rp6 cp6; have cv7 := conv8 (rp5.up bp6 (Nat.le_refl _)) cp5))
    all_goals (go_wp2_with fail; go_ret; exact ⟨rfl, bchain (bchain (bchain (bchain (bchain (bchain bz bp1) bp2) bp3) bp4) bp5) bp6⟩)
end Go.Proofs.Ythliochnmlbgcaa
