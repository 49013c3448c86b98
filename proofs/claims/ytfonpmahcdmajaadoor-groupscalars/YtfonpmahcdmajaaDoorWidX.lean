/-
  avouchref04.Times: what the call does.
-/
import Derived.Test.YtfonpmahcdmajaaDoorWidW
import Derived.Deep.CutBlock
import Derived.Deep.DeepCutAuto
import Derived.Deep.RegionHeld3
namespace Go.Proofs.YtfonpmahcdmajaaDoor
open Go.RowKit
set_option linter.unusedVariables false
set_option maxRecDepth 4000
set_option linter.unusedSimpArgs false

theorem small_aux (p a b c x y z : Nat) (ha : a = 0) (hb : b = 0) (hc : c = 0) : p + a * x + b * y + c * z = p := by
  subst ha hb hc
  simp
theorem val_lt24 {ws : List Nat} (hl : ws.length = 27) (d : D32 ws) (h24 : ws.getD 24 0 = 0) (h25 : ws.getD 25 0 = 0) (h26 : ws.getD 26 0 = 0) : val 4294967296 ws < T24 := by
  rw [val27 ws hl, small_aux _ _ _ _ _ _ _ h24 h25 h26]
  exact pv_lt 4294967296 (by decide) ws d 24
theorem val_zero_cons (l : List Nat) : val 4294967296 ([0] ++ l) = 4294967296 * val 4294967296 l := by
  unfold val
  rw [List.singleton_append, List.length_cons, pv_cons]
  simp [Nat.mul_comm]
/-- append of a slice of words behind a new row, as one step of a region that draws. -/
theorem step_append_off {ops : Array Oper} {o : Oper} {a : Act} {K : Act → World → Prop} {Q : Exit → Act → World → Prop} {E : Prop} {w : World} (hw : Region.wanted o (yielded ops a.tmps) = true) (s x : Operand)
    (ho : o.op = .call { callee := .builtin .append, args := #[s, x], argTypes := #[39, 39] })
    (base : Nat) (v : Value) (l : List Nat) (hs : a.eval s = v) (hown : OwnW w base v l) (b off c B : Nat) (news : List Nat) (hr : Rd w B (some ⟨b, off, none⟩) news.length news) (hx : a.eval x = .slice (some ⟨b, off, none⟩) news.length c)
    (hlen : l.length + news.length ≤ 1000000) (hbase : base ≤ w.heap.size)
    (h : ∀ v' w', OwnW w' base v' (l ++ news) → Below base w w' → K (a.put o.dst v') w') : if Region.wanted o (yielded ops a.tmps) = true then Oper.wp Tryd.prog o a w K Q else E := by
  rw [if_pos hw]
  obtain ⟨i0, hi, hz, hs1, hb⟩ := info_parts u64_info
  refine wp_append_own w s x 39 ho base 22 i0 (.int .u64 0) 1 8 Tryd.underlying39 hi hz hs1 hb rfl (by decide) v l.length (cellsOf64 l) hs hown.own ⟨b, off, none⟩ news.length c (cellsOf64 news) hx
    (by simp [cellsOf64]) ?_ ?_ (by unfold maxLen; omega) (by omega) hbase ?_
  · intro j u hj
    rw [Addr.add_mid]
    have hjl : j < news.length := by
      have := (List.getElem?_eq_some_iff.1 hj).1
      simpa [cellsOf64] using this
    obtain ⟨b', off', e, _, hc⟩ := hr.cells (by omega)
    injection e with e
    injection e with e1 e2
    subst e1 e2
    rw [hc j hjl, ← hj]
    simp [cellsOf64, at64, List.getElem?_eq_getElem hjl, List.getD_eq_getElem?_getD]
  · intro u hu
    simp only [cellsOf64, List.mem_map] at hu
    obtain ⟨y, _, rfl⟩ := hu
    rfl
  · intro v' w' ho' hg _
    refine h v' w' ⟨?_, ?_⟩ ((Below.refl _ _).grown hg hbase fun k hk => (hown.own.lt k hk).1)
    · have e : cellsOf64 (l ++ news) = cellsOf64 l ++ cellsOf64 news := by simp [cellsOf64]
      rw [e, List.length_append]
      exact ho'
    · intro y hy
      rcases List.mem_append.1 hy with h' | h'
      · exact hown.lt y h'
      · exact hr.lt y h'
/-- P, or twice q. -/
def m2 (g : Bool) : Nat := if g then bigP else bigP - 1
theorem m2_pos (g : Bool) : 0 < m2 g := by cases g <;> decide
theorem m2_lt (g : Bool) : m2 g < T24 := by cases g <;> decide
theorem m2_c (g : Bool) : T24 - m2 g < 4294967296 ^ 22 := by cases g <;> decide
theorem m2_mod (g : Bool) (X : Nat) : X % m2 g % mOf g = X % mOf g := by
  cases g
  · show X % (bigP - 1) % bigQ = X % bigQ
    rw [twoQ, Nat.mul_comm, Nat.mod_mul_right_mod]
  · exact Nat.mod_mod _ _
theorem all27 : (#[.int .u64 0, .int .u64 0, .int .u64 0, .int .u64 0, .int .u64 0, .int .u64 0, .int .u64 0, .int .u64 0, .int .u64 0, .int .u64 0, .int .u64 0, .int .u64 0, .int .u64 0, .int .u64 0, .int .u64 0, .int .u64 0, .int .u64 0, .int .u64 0, .int .u64 0, .int .u64 0, .int .u64 0, .int .u64 0, .int .u64 0, .int .u64 0, .int .u64 0, .int .u64 0, .int .u64 0] : Array Value).all (·.oneCell') = true := by simp [Value.oneCell']
theorem size_z27 : (Tryd.prog.info? 91).map (·.size) = some (#[.int .u64 0, .int .u64 0, .int .u64 0, .int .u64 0, .int .u64 0, .int .u64 0, .int .u64 0, .int .u64 0, .int .u64 0, .int .u64 0, .int .u64 0, .int .u64 0, .int .u64 0, .int .u64 0, .int .u64 0, .int .u64 0, .int .u64 0, .int .u64 0, .int .u64 0, .int .u64 0, .int .u64 0, .int .u64 0, .int .u64 0, .int .u64 0, .int .u64 0, .int .u64 0, .int .u64 0] : Array Value).size := size27
theorem z27_new (w : World) : Acc w.heap.size (w.alloc (.cells #[.int .u64 0, .int .u64 0, .int .u64 0, .int .u64 0, .int .u64 0, .int .u64 0, .int .u64 0, .int .u64 0, .int .u64 0, .int .u64 0, .int .u64 0, .int .u64 0, .int .u64 0, .int .u64 0, .int .u64 0, .int .u64 0, .int .u64 0, .int .u64 0, .int .u64 0, .int .u64 0, .int .u64 0, .int .u64 0, .int .u64 0, .int .u64 0, .int .u64 0, .int .u64 0, .int .u64 0] 91)) (List.replicate 27 0) :=
  ⟨BlkW.new64 w 91 (List.replicate 27 0) (zeros_all 27), by simp, fun x hx => by have := List.eq_of_mem_replicate hx; omega⟩
/-- The digits of the numbers that are kept. -/
structure Parts (X Y C M : Nat) (la lb lc : List Nat) : Prop where
  a : val 4294967296 la = X
  b : val 4294967296 lb = Y
  c : val 4294967296 lc = C
  da : D32 la
  db : D32 lb
  dc : D32 lc
  lb : lb.length ≤ 24
  lc : lc.length ≤ 22
  la : la.length ≤ 2000
  hC : C + M = T24
  hM : 0 < M
  hY : Y < T24
  hC2 : C < 4294967296 ^ 22
/-- The sum's number, digit by digit from the highest one on. -/
def topN (la : List Nat) (k : Nat) : Nat := val 4294967296 (la.drop k)
theorem topN_step (la : List Nat) (k : Nat) (h : k < la.length) : topN la k = topN la (k + 1) * 4294967296 + la.getD k 0 := by
  unfold topN
  rw [List.drop_eq_getElem_cons h]
  unfold val
  rw [List.length_cons, pv_cons]
  simp [List.getD_eq_getElem?_getD, List.getElem?_eq_getElem h]
theorem topN_all (la : List Nat) : topN la 0 = val 4294967296 la := by unfold topN; rw [List.drop_zero]
theorem topN_end (la : List Nat) : topN la la.length = 0 := by unfold topN; simp [val, pv]
/-- What the outer loop keeps. -/
structure TRel (w : World) (A B C : Option Addr) (la lb lc : List Nat) (b9 M Y : Nat) (v : World) (k : Nat) : Prop where
  e : EnvT w A B C la lb lc b9 v
  acc : ∃ ws, Acc b9 v ws ∧ val 4294967296 ws < T24 ∧ val 4294967296 ws % M = topN la k * Y % M
/-- What the shifting loop keeps: digits from k on are shifted. -/
structure ShRel (w : World) (A B C : Option Addr) (la lb lc : List Nat) (b9 : Nat) (w0 : List Nat) (v : World) (k : Nat) : Prop where
  e : EnvT w A B C la lb lc b9 v
  acc : ∃ ws, Acc b9 v ws ∧ ∀ j, ws.getD j 0 = if k < j ∧ j ≤ 26 then w0.getD (j - 1) 0 else w0.getD j 0
/-- What the folding loop keeps. -/
structure FoRel (w : World) (A B C : Option Addr) (la lb lc : List Nat) (b9 M N : Nat) (v : World) : Prop where
  e : EnvT w A B C la lb lc b9 v
  acc : ∃ ws, Acc b9 v ws ∧ val 4294967296 ws < 4294967296 ^ 26 ∧ val 4294967296 ws % M = N % M
theorem next_num {S V a Y M K : Nat} (h : V % M = K * Y % M) (e : S = V * 4294967296 + Y * a) : S % M = (K * 4294967296 + a) * Y % M := by
  rw [e, Nat.add_mul, Nat.mul_right_comm, Nat.mul_comm a, Nat.add_mod, Nat.mul_mod, h, ← Nat.mul_mod, ← Nat.add_mod]
theorem next_fits {V a Y : Nat} (h1 : V < T24) (h2 : Y < T24) (h3 : a < 4294967296) : V * 4294967296 + Y * a < 4294967296 ^ 26 ∧ V * 4294967296 + Y * a < 4294967296 ^ 27 := by
  have e1 : V * 4294967296 ≤ T24 * 4294967296 := Nat.mul_le_mul_right _ (Nat.le_of_lt h1)
  have e2 : Y * a ≤ T24 * 4294967296 := Nat.mul_le_mul (Nat.le_of_lt h2) (Nat.le_of_lt h3)
  have e3 : T24 * 4294967296 + T24 * 4294967296 < 4294967296 ^ 26 := by decide
  have e4 : (4294967296 : Nat) ^ 26 < 4294967296 ^ 27 := by decide
  omega
theorem fold_fits {L C h1 h2 : Nat} (hL : L < T24) (hC : C < 4294967296 ^ 22) (a : h1 < 4294967296) (b : h2 < 4294967296) : L + C * h1 < 4294967296 ^ 27 ∧ L + C * h1 + 4294967296 * C * h2 < 4294967296 ^ 27 ∧ L + C * h1 + 4294967296 * C * h2 < 4294967296 ^ 26 := by
  have e1 : C * h1 ≤ 4294967296 ^ 22 * 4294967296 := Nat.mul_le_mul (Nat.le_of_lt hC) (Nat.le_of_lt a)
  have e2 : 4294967296 * C * h2 ≤ 4294967296 * 4294967296 ^ 22 * 4294967296 := Nat.mul_le_mul (Nat.mul_le_mul_left _ (Nat.le_of_lt hC)) (Nat.le_of_lt b)
  have e3 : T24 + 4294967296 ^ 22 * 4294967296 + 4294967296 * 4294967296 ^ 22 * 4294967296 < 4294967296 ^ 26 := by decide
  have e4 : (4294967296 : Nat) ^ 26 < 4294967296 ^ 27 := by decide
  omega

set_option maxRecDepth 20000 in
set_option maxHeartbeats 4000000 in
theorem times_true (u v : Value) (X Y : Nat) (w : World) (hu : Dg w u X) (hv : Dg w v Y) (hY : Y < T24) :
    Calls Tryd.prog 41 #[.bool true, u, v] w fun e w' => ∃ r, e = .returned r ∧ Dg w' r (X * Y % mOf true) ∧ Below w.heap.size w w' := by
  have hmk := make64I 24 24 (Nat.le_refl _) (by omega) 24 24 rfl rfl
  have HU := hid hu
  have HV := hid hv
  have HY := hid hY
  clear hu hv hY
  obtain ⟨M, hM⟩ : ∃ M, M = m2 true := ⟨_, rfl⟩
  have HM := hid hM
  clear hM
  go_enter Tryd.func41, Tryd.ntmps41
  go_wp2_with fail
  refine (refP_c w).mono ?_
  rintro e w1 ⟨pv1, rfl, h1, b1⟩
  have H2 : Hid (Dg w1 pv1 M) := hid (by rw [HM.out]; exact h1)
  have HB2 := hid b1
  clear h1 b1
  obtain ⟨w2, hw2⟩ : ∃ x, x = w1 := ⟨_, rfl⟩
  obtain ⟨mv, hmv⟩ : ∃ x, x = pv1 := ⟨_, rfl⟩
  rw [← hw2, ← hmv] at H2
  rw [← hw2] at HB2 ⊢
  rw [← hmv]
  clear hw2 hmv
  go_wp2_with (at_builtin; refine append_big rfl (.tmp 20) (.tmp 21) rfl w2 rfl rfl ?_)
  intro v3 w3 d3 b3
  clear hmk
  have b03 := HB2.out.trans (Below.mono (B' := w.heap.size) b3 HB2.out.size)
  have HM3 := hid (H2.out.up b3)
  have HD3 := hid d3
  clear d3 b3 HB2 H2
  go_wp2_with fail
  refine (gSub_c v3 mv T24 M w3 HD3.out HM3.out (by rw [HM.out]; exact Nat.le_of_lt (m2_lt _))).mono ?_
  rintro e w4 ⟨cv, rfl, h4, b4⟩
  have b04 := bchain b03 b4
  have HC4 := hid h4
  have HU4 := hid (HU.out.up b04)
  have HV4 := hid (HV.out.up b04)
  have HB4 := hid b04
  clear h4 b4 b03 b04 HD3 HM3 HU HV
  obtain ⟨A, ca, la, rfl, a1, a2, a3, a4, a5, a6⟩ := HU4.out
  obtain ⟨B, cb, lb, rfl, c1, c2, c3, c4, c5, c6⟩ := HV4.out
  obtain ⟨C, cc, lc, rfl, d1, d2, d3, d4, d5, d6⟩ := HC4.out
  have HPT : Hid (Parts X Y (T24 - M) M la lb lc) := by
    have hm := HM.out
    refine ⟨a6, c6, d6, a4, c4, d4, ?_, ?_, a2, ?_, ?_, HY.out, ?_⟩
    · exact len_of_lt c4 c5 (by rw [c6]; exact HY.out)
    · exact len_of_lt d4 d5 (by rw [d6, hm]; exact m2_c _)
    · have : M ≤ T24 := by rw [hm]; exact Nat.le_of_lt (m2_lt _)
      omega
    · rw [hm]; exact m2_pos _
    · rw [hm]; exact m2_c _
  have hA0 := z27_new w4
  have b45 : Below w4.heap.size w4 (w4.alloc (.cells #[.int .u64 0, .int .u64 0, .int .u64 0, .int .u64 0, .int .u64 0, .int .u64 0, .int .u64 0, .int .u64 0, .int .u64 0, .int .u64 0, .int .u64 0, .int .u64 0, .int .u64 0, .int .u64 0, .int .u64 0, .int .u64 0, .int .u64 0, .int .u64 0, .int .u64 0, .int .u64 0, .int .u64 0, .int .u64 0, .int .u64 0, .int .u64 0, .int .u64 0, .int .u64 0, .int .u64 0] 91)) := (Below.refl _ _).alloc (Nat.le_refl _) _
  have hE0 : EnvT w A B C la lb lc w4.heap.size (w4.alloc (.cells #[.int .u64 0, .int .u64 0, .int .u64 0, .int .u64 0, .int .u64 0, .int .u64 0, .int .u64 0, .int .u64 0, .int .u64 0, .int .u64 0, .int .u64 0, .int .u64 0, .int .u64 0, .int .u64 0, .int .u64 0, .int .u64 0, .int .u64 0, .int .u64 0, .int .u64 0, .int .u64 0, .int .u64 0, .int .u64 0, .int .u64 0, .int .u64 0, .int .u64 0, .int .u64 0, .int .u64 0] 91)) :=
    ⟨a3.below b45 (Nat.le_refl _), c3.below b45 (Nat.le_refl _), d3.below b45 (Nat.le_refl _), HB4.out.trans (Below.mono (B' := w.heap.size) b45 HB4.out.size), HB4.out.size, b45.size⟩
  have hp := hA0.put (l := List.replicate 27 0) (by simp) hA0.d
  have HTH : Hid ((w4.alloc (.cells #[.int .u64 0, .int .u64 0, .int .u64 0, .int .u64 0, .int .u64 0, .int .u64 0, .int .u64 0, .int .u64 0, .int .u64 0, .int .u64 0, .int .u64 0, .int .u64 0, .int .u64 0, .int .u64 0, .int .u64 0, .int .u64 0, .int .u64 0, .int .u64 0, .int .u64 0, .int .u64 0, .int .u64 0, .int .u64 0, .int .u64 0, .int .u64 0, .int .u64 0, .int .u64 0, .int .u64 0] 91)).there w4.heap.size 0 27) := hid (by have := hA0.blk.there; rw [hA0.len] at this; exact this)
  have HA1 := hid hp.1
  have HE1 := hid (hE0.up hp.2)
  clear hA0 hE0 hp b45 a1 a2 a3 a4 a5 a6 c1 c2 c3 c4 c5 c6 d1 d2 d3 d4 d5 d6 HU4 HV4 HC4 HB4
  have hwr : wrap64 ((la.length : Int) - 1) = (la.length : Int) - 1 := by
    have := HPT.out.la
    unfold wrap64
    omega
  go_wp2_with (refine wpList_store_mid rfl 91 (.tmp 9) (.tmp 25) rfl _ 0 _ rfl rfl ?_ ?_ ?_ ?_)
  · exact HTH.out
  · exact size_z27
  · exact all27
  have HA1 : Hid (Acc w4.heap.size ((w4.alloc (.cells #[.int .u64 0, .int .u64 0, .int .u64 0, .int .u64 0, .int .u64 0, .int .u64 0, .int .u64 0, .int .u64 0, .int .u64 0, .int .u64 0, .int .u64 0, .int .u64 0, .int .u64 0, .int .u64 0, .int .u64 0, .int .u64 0, .int .u64 0, .int .u64 0, .int .u64 0, .int .u64 0, .int .u64 0, .int .u64 0, .int .u64 0, .int .u64 0, .int .u64 0, .int .u64 0, .int .u64 0] 91)).setCells w4.heap.size 0 (#[.int .u64 0, .int .u64 0, .int .u64 0, .int .u64 0, .int .u64 0, .int .u64 0, .int .u64 0, .int .u64 0, .int .u64 0, .int .u64 0, .int .u64 0, .int .u64 0, .int .u64 0, .int .u64 0, .int .u64 0, .int .u64 0, .int .u64 0, .int .u64 0, .int .u64 0, .int .u64 0, .int .u64 0, .int .u64 0, .int .u64 0, .int .u64 0, .int .u64 0, .int .u64 0, .int .u64 0] : Array Value).toList) (List.replicate 27 0)) := HA1
  have HE1 : Hid (EnvT w A B C la lb lc w4.heap.size ((w4.alloc (.cells #[.int .u64 0, .int .u64 0, .int .u64 0, .int .u64 0, .int .u64 0, .int .u64 0, .int .u64 0, .int .u64 0, .int .u64 0, .int .u64 0, .int .u64 0, .int .u64 0, .int .u64 0, .int .u64 0, .int .u64 0, .int .u64 0, .int .u64 0, .int .u64 0, .int .u64 0, .int .u64 0, .int .u64 0, .int .u64 0, .int .u64 0, .int .u64 0, .int .u64 0, .int .u64 0, .int .u64 0] 91)).setCells w4.heap.size 0 (#[.int .u64 0, .int .u64 0, .int .u64 0, .int .u64 0, .int .u64 0, .int .u64 0, .int .u64 0, .int .u64 0, .int .u64 0, .int .u64 0, .int .u64 0, .int .u64 0, .int .u64 0, .int .u64 0, .int .u64 0, .int .u64 0, .int .u64 0, .int .u64 0, .int .u64 0, .int .u64 0, .int .u64 0, .int .u64 0, .int .u64 0, .int .u64 0, .int .u64 0, .int .u64 0, .int .u64 0] : Array Value).toList)) := HE1
  generalize ((w4.alloc (.cells #[.int .u64 0, .int .u64 0, .int .u64 0, .int .u64 0, .int .u64 0, .int .u64 0, .int .u64 0, .int .u64 0, .int .u64 0, .int .u64 0, .int .u64 0, .int .u64 0, .int .u64 0, .int .u64 0, .int .u64 0, .int .u64 0, .int .u64 0, .int .u64 0, .int .u64 0, .int .u64 0, .int .u64 0, .int .u64 0, .int .u64 0, .int .u64 0, .int .u64 0, .int .u64 0, .int .u64 0] 91)).setCells w4.heap.size 0 (#[.int .u64 0, .int .u64 0, .int .u64 0, .int .u64 0, .int .u64 0, .int .u64 0, .int .u64 0, .int .u64 0, .int .u64 0, .int .u64 0, .int .u64 0, .int .u64 0, .int .u64 0, .int .u64 0, .int .u64 0, .int .u64 0, .int .u64 0, .int .u64 0, .int .u64 0, .int .u64 0, .int .u64 0, .int .u64 0, .int .u64 0, .int .u64 0, .int .u64 0, .int .u64 0, .int .u64 0] : Array Value).toList) = w5 at HA1 HE1 ⊢
  generalize w4.heap.size = b9 at *
  clear HTH
  rw [hwr]
  clear hwr
  go_loopw [10] (fun i wr => ∃ k : Nat, k ≤ la.length ∧ i = .int .i64 ((k : Int) - 1) ∧ TRel w A B C la lb lc b9 M Y wr k) (fun i _ => (intOf i + 1).toNat)
  case atStart =>
    have hla := HPT.out.la
    refine ⟨la.length, Nat.le_refl _, by go_num, HE1.out, List.replicate 27 0, HA1.out, by decide, ?_⟩
    rw [topN_end, Nat.zero_mul, show val 4294967296 (List.replicate 27 0) = 0 by decide]
  case round =>
    clear HA1 HE1
    obtain ⟨k, hk, rfl, hE, w0, hA, hlt, hmod⟩ := hrel
    rcases k with _ | k
    · have hr27 : Rd (wr.alloc (.cells #[] 22)) wr.heap.size (some ⟨b9, 0, none⟩) 27 w0 := by
        have h := hA.blk.rd0 (B := wr.heap.size) hA.blk.size hA.len
        exact h.below ((Below.refl wr.heap.size wr).alloc (Nat.le_refl _) (.cells #[] 22)) (Nat.le_refl _)
      have HD := hid hA.d
      have HB := hid hE.bel
      have HMOD := hid hmod
      clear hA hE hlt hmod
      go_wp2_with (at_builtin; refine append_clone rfl (.tmp 76) (.tmp 77) rfl wr.heap.size rfl b9 0 27 27 wr.heap.size w0 rfl hr27 (by decide) (by decide) ?_)
      intro k2 w6 hB6 b6
      have b06 : Below wr.heap.size wr w6 := ((Below.refl wr.heap.size wr).alloc (Nat.le_refl _) (.cells #[] 22)).trans (b6.mono (by simp))
      have r6 := hB6.rd (off := 0) (n := 27) (B := w6.heap.size) (by have := hr27.len; simp; omega) hB6.size
      rw [List.drop_zero, List.take_append_of_le_length (by have := hr27.len; omega), List.take_of_length_le (by have := hr27.len; omega)] at r6
      have hl0 := hr27.len
      clear hr27 hB6 b6
      go_wp2_with fail
      refine (trim_c _ 27 (27 + k2) _ w0 w6 r6 (by decide) (by omega)).mono ?_
      rintro e w' ⟨m2', hm2', rfl, rfl, t2, z2⟩
      have HDG : Hid (Dg w6 (.slice (some ⟨wr.heap.size + 1, 0, none⟩) m2' (27 + k2)) (val 4294967296 w0)) :=
        Dg.ofRd (r6.take m2' hm2') (by omega) (by omega) (fun x hx => HD.out x (List.mem_of_mem_take hx)) t2 (by rw [val_take_zeros _ _ _ (by omega) z2])
      clear r6 t2 z2 hm2' hl0
      go_wp2_with fail
      refine (refMod_c true _ _ w6 HDG.out).mono ?_
      rintro e w7 ⟨r7, rfl, h7, b7⟩
      have HR7 : Hid (Dg w7 r7 (X * Y % mOf true)) := by
        have h := HMOD.out
        rw [topN_all, HPT.out.a] at h
        have e2 : val 4294967296 w0 % mOf true = X * Y % mOf true := by
          rw [← m2_mod true (val 4294967296 w0), ← m2_mod true (X * Y), ← HM.out, h]
        rw [← e2]
        exact h7
      have b07 := HB.out.trans ((bchain b06 b7).mono HB.out.size)
      clear h7 b06 b7 HDG
      go_wp2
      go_ret
      exact ⟨_, rfl, HR7.out, b07⟩
    · have e1 : (((k + 1 : Nat) : Int) - 1) = (k : Int) := by omega
      rw [e1]
      clear e1
      have HE := hid hE
      have HA := hid hA
      have HLT := hid hlt
      have HMOD := hid hmod
      clear hE hA hlt hmod
      go_wp2_with fail
      obtain ⟨w6, rfl⟩ : ∃ x, x = wr := ⟨wr, rfl⟩
      go_loopw [11] (fun i wr => ∃ m : Nat, m ≤ 26 ∧ i = .int .i64 m ∧ ShRel w A B C la lb lc b9 w0 wr m) (fun i _ => (intOf i).toNat)
      case atStart => exact ⟨26, by omega, rfl, HE.out, w0, HA.out, fun j => by rw [if_neg (by omega)]⟩
      case round =>
        clear HE
        obtain ⟨m, hm, rfl, hE, ws, hA, hj⟩ := hrel
        rcases m with _ | m
        · have c0 := hA.blk.cell (i := 0) (by rw [hA.len]; omega)
          have f0 := hA.blk.frozen 0
          obtain ⟨p1, p2⟩ := hA.set 0 0 0 (by decide) rfl
          have HSV : Hid (val 4294967296 (ws.set 0 0) = val 4294967296 w0 * 4294967296) := by
            refine shift_val HA.out.len p1.len (fun j => ?_) (acc_top HA.out.len HA.out.d 24 (by decide) HLT.out 26 (by decide))
            by_cases hj0 : j = 0
            · subst hj0
              rw [getD_set_eq _ _ _ (by rw [hA.len]; omega), if_pos rfl]
            · rw [getD_set_ne _ _ _ _ (by omega), hj j, if_neg hj0]
              by_cases hc : 0 < j ∧ j ≤ 26
              · rw [if_pos hc]
              · rw [if_neg hc, acc_top HA.out.len HA.out.d 24 (by decide) HLT.out j (by omega), acc_top HA.out.len HA.out.d 24 (by decide) HLT.out (j - 1) (by omega)]
          have hE1 := hE.up p2
          have P1 := hid p1
          have E1 := hid hE1
          obtain ⟨ba, oa, rfl, hba, ca0⟩ := hE1.a.at_ (k := k) (by omega)
          have k0 : (0 : Int) ≤ (k : Int) := by omega
          have k1 : (k : Int) < (la.length : Int) := by omega
          clear hj hE hE1 p1 p2 HA
          go_wp2_with fail
          clear c0 f0 hA
          generalize wr.setCell ⟨b9, 0, none⟩ (.int .u64 0) = w7 at *
          have PD : Hid (Acc b9 w7.drew (ws.set 0 0)) := hid (P1.out.drewN 1)
          have ED := hid (E1.out.up (show Below b9 w7 w7.drew from (Below.refl _ _).drew))
          have HG1 := hid PD.out.blk.range
          have HI1 := hid (size27.trans (congrArg some (c27 PD.out.len).symm))
          have ca1 : w7.drew.cell? ⟨ba, oa + k, none⟩ = some (.int .u64 (at64 la k)) := ca0
          clear ca0
          refine wp_region_still_tail 6 (by kernel_rfl) (by kernel_rfl) ?_
          simp only [List.take_succ_cons, List.take_zero, List.drop_succ_cons, List.drop_zero]
          refine still_load rfl 91 (.tmp 9) rfl b9 0 rfl (cellsOf64 (ws.set 0 0)) _ HG1.out Tryd.underlying91 rfl HI1.out ?_
          repeat still_step
          refine wpStill_nil ?_
          change wpList _ _ _ _ _ w7.drew
          generalize w7.drew = w8 at *
          have HPT2 := HPT.out
          have hxk := getD_lt _ (by decide) la HPT2.da k
          have HNF := hid (next_fits (V := val 4294967296 w0) (Y := Y) (a := la.getD k 0) HLT.out HPT2.hY hxk)
          go_wp2_with fail
          refine (plus_c (ws.set 0 0) B lb.length cb lb (la.getD k 0) w8 PD.out.len PD.out.d (ED.out.b.more ED.out.h1) HPT2.db (by have := HPT2.lb; omega) hxk (hid (by rw [HSV.out, HPT2.b]; exact HNF.out.2))).mono ?_
          rintro e w9 ⟨l9, rfl, hl9, d9, v9, b9'⟩
          rw [HSV.out, HPT2.b] at v9
          have A9 := PD.out.below b9'
          have E9 := ED.out.up (b9'.mono ED.out.h1)
          obtain ⟨q1, q2⟩ := A9.put hl9 d9
          have hst := store64 b9 l9 w9 (by rw [hl9]; have := A9.blk.there; rw [A9.len] at this; exact this)
          have hlen9 := c27 hl9
          have HF0 : Hid (FoRel w (some ⟨ba, oa, none⟩) B C la lb lc b9 M (topN la k * Y) (w9.setCells b9 0 (cellsOf64 l9))) := by
            refine ⟨E9.up q2, l9, q1, ?_, ?_⟩
            · rw [v9]; exact HNF.out.1
            · rw [topN_step la k (by omega)]
              exact next_num HMOD.out v9
          clear HPT2 HNF HSV PD ED A9 E9 q1 q2 v9 d9 b9' hxk HG1 HI1 ca1 P1 E1 HLT HMOD
          go_wp2_with fail
          generalize w9.setCells b9 0 (cellsOf64 l9) = w10 at *
          clear hst hlen9
          go_loopw [12] (fun _ wr => FoRel w (some ⟨ba, oa, none⟩) B C la lb lc b9 M (topN la k * Y) wr) (fun _ wr => aval wr b9)
          case atStart => exact HF0.out
          case round =>
            clear HF0
            obtain ⟨hE, ws, hA, h26b, hmodN⟩ := hrel
            have h26 := acc_top hA.len hA.d 26 (by decide) h26b 26 (Nat.le_refl _)
            have c24 := hA.blk.cell (i := 24) (by rw [hA.len]; omega)
            have c25 := hA.blk.cell (i := 25) (by rw [hA.len]; omega)
            by_cases hz : ws.getD 24 0 = 0 ∧ ws.getD 25 0 = 0
            · have n24 : (at64 ws 24 != 0) = false := by unfold at64; rw [hz.1]; rfl
              have n25 : (at64 ws 25 != 0) = false := by unfold at64; rw [hz.2]; rfl
              have HR : Hid (TRel w (some ⟨ba, oa, none⟩) B C la lb lc b9 M Y wr k) := by
                refine ⟨hE, ws, hA, ?_, hmodN⟩
                exact val_lt24 hA.len hA.d hz.1 hz.2 h26
              have hwk : IntKind.i64.wrap ((k : Int) - 1) = (k : Int) - 1 := by have := HPT.out.la; rw [IntKind.wrap_i64]; omega
              clear hE hA h26b hmodN h26 hz
              go_wp2
              go_roundw
              case rel => exact ⟨k, by omega, by go_num, HR.out⟩
              case measure => simp [intOf]
            · have f24 := hA.blk.frozen 24
              have f25 := hA.blk.frozen 25
              have HNE : Hid (0 < ws.getD 24 0 ∨ 0 < ws.getD 25 0) := hid (by omega)
              have HE := hid hE
              have HA := hid hA
              have H26 := hid h26
              have HMN := hid hmodN
              clear hE hA h26b hmodN h26
              by_cases h24 : ws.getD 24 0 = 0
              · have n24 : (at64 ws 24 != 0) = false := by unfold at64; rw [h24]; rfl
                have n25 : (at64 ws 25 != 0) = true := by unfold at64; rw [bne_iff_ne]; intro h; have := HNE.out; omega
                clear hz h24
                go_wp2_with fail
                go_quiet (fail)
                have A1 := HA.out.drewN nq
                have E1 := HE.out.up (show Below b9 wr (wr.drewN nq) from below_drewN (Below.refl _ _) nq)
                generalize wr.drewN nq = w11 at A1 E1 ⊢
                have f24' := A1.blk.frozen 24
                have c24' := A1.blk.cell (i := 24) (by rw [A1.len]; omega)
                obtain ⟨p1, p2⟩ := A1.set 24 0 0 (by decide) rfl
                have E2 := E1.up p2
                have f25' := p1.blk.frozen 25
                have c25' := p1.blk.cell (i := 25) (by rw [p1.len]; omega)
                obtain ⟨p3, p4⟩ := p1.set 25 0 0 (by decide) rfl
                have E3 := hid (E2.up p4)
                have A3 := hid p3
                have HX1 := getD_lt _ (by decide) ws A1.d 24
                have HX2 := getD_lt _ (by decide) ws A1.d 25
                have HCUT := hid (acc_cut A1.len rfl H26.out)
                have HZL : Hid (val 4294967296 ((ws.set 24 0).set 25 0) < T24) := by
                  refine val_lt24 p3.len p3.d ?_ ?_ ?_
                  · rw [getD_set_ne _ _ _ _ (by omega), getD_set_eq _ _ _ (by rw [A1.len]; omega)]
                  · rw [getD_set_eq _ _ _ (by rw [List.length_set, A1.len]; omega)]
                  · rw [getD_set_ne _ _ _ _ (by omega), getD_set_ne _ _ _ _ (by omega)]; exact H26.out
                have HO3 := hid p3.blk.range
                have HI3 := hid (size27.trans (congrArg some (c27 p3.len).symm))
                clear p1 p2 p3 p4 E1 E2 A1 c24 c25 f24 f25
                go_wp2_with (with_reducible refine wpList_load_mid rfl 91 (.tmp 9) rfl b9 0 rfl (cellsOf64 ((ws.set 24 0).set 25 0)) _ HO3.out Tryd.underlying91 rfl HI3.out ?_)
                have HPT2 := HPT.out
                have HFF := hid (fold_fits (L := val 4294967296 ((ws.set 24 0).set 25 0)) (C := T24 - M) HZL.out HPT2.hC2 HX1 HX2)
                refine (plus_c ((ws.set 24 0).set 25 0) C lc.length cc lc (ws.getD 24 0) _ A3.out.len A3.out.d (E3.out.c.more E3.out.h1) HPT2.dc (by have := HPT2.lc; omega) HX1 (hid (by rw [HPT2.c]; exact HFF.out.1))).mono ?_
                rintro e w12 ⟨l12, rfl, hl12, d12, v12, b12⟩
                rw [HPT2.c] at v12
                have A12 := A3.out.below b12
                have E12 := E3.out.up (b12.mono E3.out.h1)
                obtain ⟨q1, q2⟩ := A12.put hl12 d12
                have hst := store64 b9 l12 w12 (by rw [hl12]; have := A12.blk.there; rw [A12.len] at this; exact this)
                have hlen12 := c27 hl12
                have A13 := hid q1
                have E13 := hid (E12.up q2)
                have V12 := hid v12
                clear q1 q2 A12 E12 b12 v12 A3 E3 HO3 HI3 f24' c24' f25' c25'
                go_wp2_with fail
                generalize w12.setCells b9 0 (cellsOf64 l12) = w13 at *
                clear hst hlen12
                have hlc0 : 0 < lc.length := by
                  rcases Nat.eq_zero_or_pos lc.length with h0 | h0
                  · exfalso
                    have : lc = [] := List.eq_nil_of_length_eq_zero h0
                    have h2 := HPT2.c
                    rw [this] at h2
                    have h3 := HPT2.hC
                    have h4 : M < T24 := by rw [HM.out]; exact m2_lt _
                    simp [val, pv] at h2
                    omega
                  · exact h0
                obtain ⟨bc, oc, rfl, hbc, _⟩ := E13.out.c.cells hlc0
                have HI12 := hid (size27.trans (congrArg some (c27 hl12).symm))
                have E13d := E13.out.up (show Below b9 w13 w13.drew from (Below.refl _ _).drew)
                have A13d : Acc b9 w13.drew l12 := A13.out.drewN 1
                have b14 : Below w13.heap.size w13 (w13.alloc (.cells #[.int .u64 0] 22)).drew := ((Below.refl _ _).alloc (Nat.le_refl _) _).drew
                have E14 := E13.out.up (b14.mono E13.out.h1)
                have A14 := A13.out.below b14
                have O14 : OwnW (w13.alloc (.cells #[.int .u64 0] 22)).drew w13.heap.size (.slice (some ⟨w13.heap.size, 0, none⟩) 1 1) [0] := by
                  have hB := BlkW.new64 w13 22 [0] (by intro x hx; simp at hx; omega)
                  exact (hB.own (by simp)).drew
                refine wp_region_held_drew (S := fun _ => True) (by kernel_rfl) trivial (fun hHeld => ?_)
                refine wpAnyH_take (i := 2) (v := ?_) rfl (by kernel_rfl) (by kernel_rfl) (by kernel_rfl) (fun _ _ _ h => h) (Or.inl ⟨by rfl, fun v hv => ?_⟩) (by with_reducible assumption) ?_
                rotate_left
                · go_simp
                  try with_reducible rfl
                simp only [Act.put, List.setIfInBounds_toArray, List.set_cons_zero, List.set_cons_succ, List.getElem_toArray, List.getElem_cons_zero, List.getElem_cons_succ]
                refine wpAnyH_take (i := 4) (v := ?_) rfl (by kernel_rfl) (by kernel_rfl) (by kernel_rfl) (fun _ _ _ h => h) (Or.inl ⟨by rfl, fun v hv => ?_⟩) (by with_reducible assumption) ?_
                rotate_left
                · go_simp
                  try with_reducible rfl
                simp only [Act.put, List.setIfInBounds_toArray, List.set_cons_zero, List.set_cons_succ, List.getElem_toArray, List.getElem_cons_zero, List.getElem_cons_succ]
                refine wpAnyH_ready (rs := [0, 1]) (by kernel_rfl) (by simp) ?_
                refine AllReadyH.cons rfl (fun K hK => ?_) (AllReadyH.cons rfl (fun K hK => ?_) AllReadyH.nil)
                · rw [if_pos (by rfl)]
                  refine wp_load_mid 91 (.tmp 9) rfl b9 0 rfl (cellsOf64 l12) _ A13d.blk.range Tryd.underlying91 rfl HI12.out ?_
                  refine hK.out _ _ trivial (fun hHeld => ?_)
                  clear hK K
                  try simp only [Act.put, List.setIfInBounds_toArray, List.set_cons_zero, List.set_cons_succ, List.getElem_toArray, List.getElem_cons_zero, List.getElem_cons_succ]
                  refine wpAnyH_ready (rs := [1]) (by kernel_rfl) (by simp) ?_
                  refine AllReadyH.cons rfl (fun K hK => ?_) AllReadyH.nil
                  go_simp
                  refine hK.out _ _ trivial (fun hHeld => ?_)
                  clear hK K
                  try simp only [Act.put, List.setIfInBounds_toArray, List.set_cons_zero, List.set_cons_succ, List.getElem_toArray, List.getElem_cons_zero, List.getElem_cons_succ]
                  refine wpAnyH_ready (rs := [3]) (by kernel_rfl) (by simp) ?_
                  refine AllReadyH.cons rfl (fun K hK => ?_) AllReadyH.nil
                  refine step_append_off (by rfl) (.tmp 70) (.tmp 71) rfl w13.heap.size _ [0] (by simp [Act.eval]) O14 bc oc cc _ lc (E14.c.more E14.h1) (by simp [Act.eval]) (by have := HPT2.lc; simp; omega) (by simp) ?_
                  intro v15 w15 O15 b15
                  have b15' : Below w13.heap.size w13 w15 := b14.trans b15
                  have E15 := E13.out.up (b15'.mono E13.out.h1)
                  have A15 := A13.out.below b15'
                  obtain ⟨A7, c7, rfl, hc7, r7⟩ := O15.rd
                  obtain ⟨n7, hn7⟩ : ∃ n, n = ([0] ++ lc).length := ⟨_, rfl⟩
                  rw [← hn7] at r7 hc7 ⊢
                  have HN7 : Hid (n7 ≤ 27) := hid (by have := HPT2.lc; rw [hn7]; simp; omega)
                  clear hn7 b14 E14 A14 O14 O15 b15
                  refine hK.out _ _ trivial (fun hHeld => ?_)
                  clear hK K
                  try simp only [Act.put, List.setIfInBounds_toArray, List.set_cons_zero, List.set_cons_succ, List.getElem_toArray, List.getElem_cons_zero, List.getElem_cons_succ]
                  refine wpAnyH_ready (rs := [5]) (by kernel_rfl) (by simp) ?_
                  refine AllReadyH.cons rfl (fun K hK => ?_) AllReadyH.nil
                  go_simp
                  go_at_call 75
                  have D7 : D32 ([0] ++ lc) := by
                    intro x hx
                    rcases List.mem_append.1 hx with h | h
                    · simp at h; omega
                    · exact HPT2.dc x h
                  refine (plus_c l12 A7 n7 c7 ([0] ++ lc) (ws.getD 25 0) w15 hl12 d12 r7 D7 HN7.out HX2 (hid (by rw [val_zero_cons, V12.out, HPT2.c]; exact HFF.out.2.1))).mono ?_
                  rintro e w16 ⟨l16, rfl, hl16, d16, v16, b16⟩
                  rw [val_zero_cons, V12.out, HPT2.c] at v16
                  have E16 := E15.up (b16.mono E15.h1)
                  have A16 := A15.below b16
                  dsimp only
                  refine hK.out _ _ trivial (fun hHeld => ?_)
                  clear hK K
                  try simp only [Act.put, List.setIfInBounds_toArray, List.set_cons_zero, List.set_cons_succ, List.getElem_toArray, List.getElem_cons_zero, List.getElem_cons_succ]
                  refine wpAnyH_ready (rs := [6]) (by kernel_rfl) (by simp) ?_
                  refine AllReadyH.cons rfl (fun K hK => ?_) AllReadyH.nil
                  rw [if_pos (by rfl)]
                  obtain ⟨q3, q4⟩ := A16.put hl16 d16
                  refine wp_store_mid 91 (.tmp 9) (.tmp 74) rfl b9 0 (cellsOf64 l16).toArray rfl rfl (by have := A16.blk.there; rw [A16.len] at this; simpa [c27 hl16] using this) (by simpa [c27 hl16] using size27) (all_oneCell_toArray (one64 l16)) ?_
                  rw [show (cellsOf64 l16).toArray.toList = cellsOf64 l16 from rfl]
                  refine hK.out _ _ trivial (fun hHeld => ?_)
                  clear hK K
                  try simp only [Act.put, List.setIfInBounds_toArray, List.set_cons_zero, List.set_cons_succ, List.getElem_toArray, List.getElem_cons_zero, List.getElem_cons_succ]
                  refine wpAnyH_done (by kernel_rfl) ?_ _
                  have E17 := E16.up q4
                  have FS := hid (acc_fold _ (ws.getD 24 0) (ws.getD 25 0) (T24 - M) M _ HCUT.out HPT2.hC HNE.out HPT2.hM)
                  have HR17 : Hid (FoRel w (some ⟨ba, oa, none⟩) B (some ⟨bc, oc, none⟩) la lb lc b9 M (topN la k * Y) (w16.setCells b9 0 (cellsOf64 l16))) := by
                    refine ⟨E17, l16, q3, ?_, ?_⟩
                    · rw [v16]; exact HFF.out.2.2
                    · rw [v16]; exact FS.out.1.trans HMN.out
                  have HMS : Hid (aval (w16.setCells b9 0 (cellsOf64 l16)) b9 < aval wr b9) := by
                    show _ < _
                    rw [q3.aval, HA.out.aval, v16]
                    exact FS.out.2
                  clear q3 q4 E17 E16 A16 v16 d16
                  generalize w16.setCells b9 0 (cellsOf64 l16) = w17 at *
                  go_wp2
                  go_roundw
                  case rel => exact HR17.out
                  case measure => exact HMS.out
                · go_simp
                  refine hK.out _ _ trivial (fun hHeld => ?_)
                  clear hK K
                  try simp only [Act.put, List.setIfInBounds_toArray, List.set_cons_zero, List.set_cons_succ, List.getElem_toArray, List.getElem_cons_zero, List.getElem_cons_succ]
                  refine wpAnyH_ready (rs := [0, 3]) (by kernel_rfl) (by simp) ?_
                  refine AllReadyH.cons rfl (fun K hK => ?_) (AllReadyH.cons rfl (fun K hK => ?_) AllReadyH.nil)
                  · rw [if_pos (by rfl)]
                    refine wp_load_mid 91 (.tmp 9) rfl b9 0 rfl (cellsOf64 l12) _ A14.blk.range Tryd.underlying91 rfl HI12.out ?_
                    refine hK.out _ _ trivial (fun hHeld => ?_)
                    clear hK K
                    try simp only [Act.put, List.setIfInBounds_toArray, List.set_cons_zero, List.set_cons_succ, List.getElem_toArray, List.getElem_cons_zero, List.getElem_cons_succ]
                    refine wpAnyH_ready (rs := [3]) (by kernel_rfl) (by simp) ?_
                    refine AllReadyH.cons rfl (fun K hK => ?_) AllReadyH.nil
                    refine step_append_off (by rfl) (.tmp 70) (.tmp 71) rfl w13.heap.size _ [0] (by simp [Act.eval]) O14 bc oc cc _ lc (E14.c.more E14.h1) (by simp [Act.eval]) (by have := HPT2.lc; simp; omega) (by simp) ?_
                    intro v15 w15 O15 b15
                    have b15' : Below w13.heap.size w13 w15 := b14.trans b15
                    have E15 := E13.out.up (b15'.mono E13.out.h1)
                    have A15 := A13.out.below b15'
                    obtain ⟨A7, c7, rfl, hc7, r7⟩ := O15.rd
                    obtain ⟨n7, hn7⟩ : ∃ n, n = ([0] ++ lc).length := ⟨_, rfl⟩
                    rw [← hn7] at r7 hc7 ⊢
                    have HN7 : Hid (n7 ≤ 27) := hid (by have := HPT2.lc; rw [hn7]; simp; omega)
                    clear hn7 b14 E14 A14 O14 O15 b15
                    refine hK.out _ _ trivial (fun hHeld => ?_)
                    clear hK K
                    try simp only [Act.put, List.setIfInBounds_toArray, List.set_cons_zero, List.set_cons_succ, List.getElem_toArray, List.getElem_cons_zero, List.getElem_cons_succ]
                    refine wpAnyH_ready (rs := [5]) (by kernel_rfl) (by simp) ?_
                    refine AllReadyH.cons rfl (fun K hK => ?_) AllReadyH.nil
                    go_simp
                    go_at_call 75
                    have D7 : D32 ([0] ++ lc) := by
                      intro x hx
                      rcases List.mem_append.1 hx with h | h
                      · simp at h; omega
                      · exact HPT2.dc x h
                    refine (plus_c l12 A7 n7 c7 ([0] ++ lc) (ws.getD 25 0) w15 hl12 d12 r7 D7 HN7.out HX2 (hid (by rw [val_zero_cons, V12.out, HPT2.c]; exact HFF.out.2.1))).mono ?_
                    rintro e w16 ⟨l16, rfl, hl16, d16, v16, b16⟩
                    rw [val_zero_cons, V12.out, HPT2.c] at v16
                    have E16 := E15.up (b16.mono E15.h1)
                    have A16 := A15.below b16
                    dsimp only
                    refine hK.out _ _ trivial (fun hHeld => ?_)
                    clear hK K
                    try simp only [Act.put, List.setIfInBounds_toArray, List.set_cons_zero, List.set_cons_succ, List.getElem_toArray, List.getElem_cons_zero, List.getElem_cons_succ]
                    refine wpAnyH_ready (rs := [6]) (by kernel_rfl) (by simp) ?_
                    refine AllReadyH.cons rfl (fun K hK => ?_) AllReadyH.nil
                    rw [if_pos (by rfl)]
                    obtain ⟨q3, q4⟩ := A16.put hl16 d16
                    refine wp_store_mid 91 (.tmp 9) (.tmp 74) rfl b9 0 (cellsOf64 l16).toArray rfl rfl (by have := A16.blk.there; rw [A16.len] at this; simpa [c27 hl16] using this) (by simpa [c27 hl16] using size27) (all_oneCell_toArray (one64 l16)) ?_
                    rw [show (cellsOf64 l16).toArray.toList = cellsOf64 l16 from rfl]
                    refine hK.out _ _ trivial (fun hHeld => ?_)
                    clear hK K
                    try simp only [Act.put, List.setIfInBounds_toArray, List.set_cons_zero, List.set_cons_succ, List.getElem_toArray, List.getElem_cons_zero, List.getElem_cons_succ]
                    refine wpAnyH_done (by kernel_rfl) ?_ _
                    have E17 := E16.up q4
                    have FS := hid (acc_fold _ (ws.getD 24 0) (ws.getD 25 0) (T24 - M) M _ HCUT.out HPT2.hC HNE.out HPT2.hM)
                    have HR17 : Hid (FoRel w (some ⟨ba, oa, none⟩) B (some ⟨bc, oc, none⟩) la lb lc b9 M (topN la k * Y) (w16.setCells b9 0 (cellsOf64 l16))) := by
                      refine ⟨E17, l16, q3, ?_, ?_⟩
                      · rw [v16]; exact HFF.out.2.2
                      · rw [v16]; exact FS.out.1.trans HMN.out
                    have HMS : Hid (aval (w16.setCells b9 0 (cellsOf64 l16)) b9 < aval wr b9) := by
                      show _ < _
                      rw [q3.aval, HA.out.aval, v16]
                      exact FS.out.2
                    clear q3 q4 E17 E16 A16 v16 d16
                    generalize w16.setCells b9 0 (cellsOf64 l16) = w17 at *
                    go_wp2
                    go_roundw
                    case rel => exact HR17.out
                    case measure => exact HMS.out
                  · refine step_append_off (by rfl) (.tmp 70) (.tmp 71) rfl w13.heap.size _ [0] (by simp [Act.eval]) O14 bc oc cc _ lc (E14.c.more E14.h1) (by simp [Act.eval]) (by have := HPT2.lc; simp; omega) (by simp) ?_
                    intro v15 w15 O15 b15
                    have b15' : Below w13.heap.size w13 w15 := b14.trans b15
                    have E15 := E13.out.up (b15'.mono E13.out.h1)
                    have A15 := A13.out.below b15'
                    obtain ⟨A7, c7, rfl, hc7, r7⟩ := O15.rd
                    obtain ⟨n7, hn7⟩ : ∃ n, n = ([0] ++ lc).length := ⟨_, rfl⟩
                    rw [← hn7] at r7 hc7 ⊢
                    have HN7 : Hid (n7 ≤ 27) := hid (by have := HPT2.lc; rw [hn7]; simp; omega)
                    clear hn7 b14 E14 A14 O14 O15 b15
                    refine hK.out _ _ trivial (fun hHeld => ?_)
                    clear hK K
                    try simp only [Act.put, List.setIfInBounds_toArray, List.set_cons_zero, List.set_cons_succ, List.getElem_toArray, List.getElem_cons_zero, List.getElem_cons_succ]
                    refine wpAnyH_ready (rs := [0]) (by kernel_rfl) (by simp) ?_
                    refine AllReadyH.cons rfl (fun K hK => ?_) AllReadyH.nil
                    rw [if_pos (by rfl)]
                    refine wp_load_mid 91 (.tmp 9) rfl b9 0 rfl (cellsOf64 l12) _ A15.blk.range Tryd.underlying91 rfl HI12.out ?_
                    refine hK.out _ _ trivial (fun hHeld => ?_)
                    clear hK K
                    try simp only [Act.put, List.setIfInBounds_toArray, List.set_cons_zero, List.set_cons_succ, List.getElem_toArray, List.getElem_cons_zero, List.getElem_cons_succ]
                    refine wpAnyH_ready (rs := [5]) (by kernel_rfl) (by simp) ?_
                    refine AllReadyH.cons rfl (fun K hK => ?_) AllReadyH.nil
                    go_simp
                    go_at_call 75
                    have D7 : D32 ([0] ++ lc) := by
                      intro x hx
                      rcases List.mem_append.1 hx with h | h
                      · simp at h; omega
                      · exact HPT2.dc x h
                    refine (plus_c l12 A7 n7 c7 ([0] ++ lc) (ws.getD 25 0) w15 hl12 d12 r7 D7 HN7.out HX2 (hid (by rw [val_zero_cons, V12.out, HPT2.c]; exact HFF.out.2.1))).mono ?_
                    rintro e w16 ⟨l16, rfl, hl16, d16, v16, b16⟩
                    rw [val_zero_cons, V12.out, HPT2.c] at v16
                    have E16 := E15.up (b16.mono E15.h1)
                    have A16 := A15.below b16
                    dsimp only
                    refine hK.out _ _ trivial (fun hHeld => ?_)
                    clear hK K
                    try simp only [Act.put, List.setIfInBounds_toArray, List.set_cons_zero, List.set_cons_succ, List.getElem_toArray, List.getElem_cons_zero, List.getElem_cons_succ]
                    refine wpAnyH_ready (rs := [6]) (by kernel_rfl) (by simp) ?_
                    refine AllReadyH.cons rfl (fun K hK => ?_) AllReadyH.nil
                    rw [if_pos (by rfl)]
                    obtain ⟨q3, q4⟩ := A16.put hl16 d16
                    refine wp_store_mid 91 (.tmp 9) (.tmp 74) rfl b9 0 (cellsOf64 l16).toArray rfl rfl (by have := A16.blk.there; rw [A16.len] at this; simpa [c27 hl16] using this) (by simpa [c27 hl16] using size27) (all_oneCell_toArray (one64 l16)) ?_
                    rw [show (cellsOf64 l16).toArray.toList = cellsOf64 l16 from rfl]
                    refine hK.out _ _ trivial (fun hHeld => ?_)
                    clear hK K
                    try simp only [Act.put, List.setIfInBounds_toArray, List.set_cons_zero, List.set_cons_succ, List.getElem_toArray, List.getElem_cons_zero, List.getElem_cons_succ]
                    refine wpAnyH_done (by kernel_rfl) ?_ _
                    have E17 := E16.up q4
                    have FS := hid (acc_fold _ (ws.getD 24 0) (ws.getD 25 0) (T24 - M) M _ HCUT.out HPT2.hC HNE.out HPT2.hM)
                    have HR17 : Hid (FoRel w (some ⟨ba, oa, none⟩) B (some ⟨bc, oc, none⟩) la lb lc b9 M (topN la k * Y) (w16.setCells b9 0 (cellsOf64 l16))) := by
                      refine ⟨E17, l16, q3, ?_, ?_⟩
                      · rw [v16]; exact HFF.out.2.2
                      · rw [v16]; exact FS.out.1.trans HMN.out
                    have HMS : Hid (aval (w16.setCells b9 0 (cellsOf64 l16)) b9 < aval wr b9) := by
                      show _ < _
                      rw [q3.aval, HA.out.aval, v16]
                      exact FS.out.2
                    clear q3 q4 E17 E16 A16 v16 d16
                    generalize w16.setCells b9 0 (cellsOf64 l16) = w17 at *
                    go_wp2
                    go_roundw
                    case rel => exact HR17.out
                    case measure => exact HMS.out

              · have n24 : (at64 ws 24 != 0) = true := by unfold at64; rw [bne_iff_ne]; intro h; omega
                clear hz h24
                go_wp2_with fail
                go_quiet (fail)
                have A1 := HA.out.drewN nq
                have E1 := HE.out.up (show Below b9 wr (wr.drewN nq) from below_drewN (Below.refl _ _) nq)
                generalize wr.drewN nq = w11 at A1 E1 ⊢
                have f24' := A1.blk.frozen 24
                have c24' := A1.blk.cell (i := 24) (by rw [A1.len]; omega)
                obtain ⟨p1, p2⟩ := A1.set 24 0 0 (by decide) rfl
                have E2 := E1.up p2
                have f25' := p1.blk.frozen 25
                have c25' := p1.blk.cell (i := 25) (by rw [p1.len]; omega)
                obtain ⟨p3, p4⟩ := p1.set 25 0 0 (by decide) rfl
                have E3 := hid (E2.up p4)
                have A3 := hid p3
                have HX1 := getD_lt _ (by decide) ws A1.d 24
                have HX2 := getD_lt _ (by decide) ws A1.d 25
                have HCUT := hid (acc_cut A1.len rfl H26.out)
                have HZL : Hid (val 4294967296 ((ws.set 24 0).set 25 0) < T24) := by
                  refine val_lt24 p3.len p3.d ?_ ?_ ?_
                  · rw [getD_set_ne _ _ _ _ (by omega), getD_set_eq _ _ _ (by rw [A1.len]; omega)]
                  · rw [getD_set_eq _ _ _ (by rw [List.length_set, A1.len]; omega)]
                  · rw [getD_set_ne _ _ _ _ (by omega), getD_set_ne _ _ _ _ (by omega)]; exact H26.out
                have HO3 := hid p3.blk.range
                have HI3 := hid (size27.trans (congrArg some (c27 p3.len).symm))
                clear p1 p2 p3 p4 E1 E2 A1 c24 c25 f24 f25
                go_wp2_with (with_reducible refine wpList_load_mid rfl 91 (.tmp 9) rfl b9 0 rfl (cellsOf64 ((ws.set 24 0).set 25 0)) _ HO3.out Tryd.underlying91 rfl HI3.out ?_)
                have HPT2 := HPT.out
                have HFF := hid (fold_fits (L := val 4294967296 ((ws.set 24 0).set 25 0)) (C := T24 - M) HZL.out HPT2.hC2 HX1 HX2)
                refine (plus_c ((ws.set 24 0).set 25 0) C lc.length cc lc (ws.getD 24 0) _ A3.out.len A3.out.d (E3.out.c.more E3.out.h1) HPT2.dc (by have := HPT2.lc; omega) HX1 (hid (by rw [HPT2.c]; exact HFF.out.1))).mono ?_
                rintro e w12 ⟨l12, rfl, hl12, d12, v12, b12⟩
                rw [HPT2.c] at v12
                have A12 := A3.out.below b12
                have E12 := E3.out.up (b12.mono E3.out.h1)
                obtain ⟨q1, q2⟩ := A12.put hl12 d12
                have hst := store64 b9 l12 w12 (by rw [hl12]; have := A12.blk.there; rw [A12.len] at this; exact this)
                have hlen12 := c27 hl12
                have A13 := hid q1
                have E13 := hid (E12.up q2)
                have V12 := hid v12
                clear q1 q2 A12 E12 b12 v12 A3 E3 HO3 HI3 f24' c24' f25' c25'
                go_wp2_with fail
                generalize w12.setCells b9 0 (cellsOf64 l12) = w13 at *
                clear hst hlen12
                have hlc0 : 0 < lc.length := by
                  rcases Nat.eq_zero_or_pos lc.length with h0 | h0
                  · exfalso
                    have : lc = [] := List.eq_nil_of_length_eq_zero h0
                    have h2 := HPT2.c
                    rw [this] at h2
                    have h3 := HPT2.hC
                    have h4 : M < T24 := by rw [HM.out]; exact m2_lt _
                    simp [val, pv] at h2
                    omega
                  · exact h0
                obtain ⟨bc, oc, rfl, hbc, _⟩ := E13.out.c.cells hlc0
                have HI12 := hid (size27.trans (congrArg some (c27 hl12).symm))
                have E13d := E13.out.up (show Below b9 w13 w13.drew from (Below.refl _ _).drew)
                have A13d : Acc b9 w13.drew l12 := A13.out.drewN 1
                have b14 : Below w13.heap.size w13 (w13.alloc (.cells #[.int .u64 0] 22)).drew := ((Below.refl _ _).alloc (Nat.le_refl _) _).drew
                have E14 := E13.out.up (b14.mono E13.out.h1)
                have A14 := A13.out.below b14
                have O14 : OwnW (w13.alloc (.cells #[.int .u64 0] 22)).drew w13.heap.size (.slice (some ⟨w13.heap.size, 0, none⟩) 1 1) [0] := by
                  have hB := BlkW.new64 w13 22 [0] (by intro x hx; simp at hx; omega)
                  exact (hB.own (by simp)).drew
                refine wp_region_held_drew (S := fun _ => True) (by kernel_rfl) trivial (fun hHeld => ?_)
                refine wpAnyH_take (i := 2) (v := ?_) rfl (by kernel_rfl) (by kernel_rfl) (by kernel_rfl) (fun _ _ _ h => h) (Or.inl ⟨by rfl, fun v hv => ?_⟩) (by with_reducible assumption) ?_
                rotate_left
                · go_simp
                  try with_reducible rfl
                simp only [Act.put, List.setIfInBounds_toArray, List.set_cons_zero, List.set_cons_succ, List.getElem_toArray, List.getElem_cons_zero, List.getElem_cons_succ]
                refine wpAnyH_take (i := 4) (v := ?_) rfl (by kernel_rfl) (by kernel_rfl) (by kernel_rfl) (fun _ _ _ h => h) (Or.inl ⟨by rfl, fun v hv => ?_⟩) (by with_reducible assumption) ?_
                rotate_left
                · go_simp
                  try with_reducible rfl
                simp only [Act.put, List.setIfInBounds_toArray, List.set_cons_zero, List.set_cons_succ, List.getElem_toArray, List.getElem_cons_zero, List.getElem_cons_succ]
                refine wpAnyH_ready (rs := [0, 1]) (by kernel_rfl) (by simp) ?_
                refine AllReadyH.cons rfl (fun K hK => ?_) (AllReadyH.cons rfl (fun K hK => ?_) AllReadyH.nil)
                · rw [if_pos (by rfl)]
                  refine wp_load_mid 91 (.tmp 9) rfl b9 0 rfl (cellsOf64 l12) _ A13d.blk.range Tryd.underlying91 rfl HI12.out ?_
                  refine hK.out _ _ trivial (fun hHeld => ?_)
                  clear hK K
                  try simp only [Act.put, List.setIfInBounds_toArray, List.set_cons_zero, List.set_cons_succ, List.getElem_toArray, List.getElem_cons_zero, List.getElem_cons_succ]
                  refine wpAnyH_ready (rs := [1]) (by kernel_rfl) (by simp) ?_
                  refine AllReadyH.cons rfl (fun K hK => ?_) AllReadyH.nil
                  go_simp
                  refine hK.out _ _ trivial (fun hHeld => ?_)
                  clear hK K
                  try simp only [Act.put, List.setIfInBounds_toArray, List.set_cons_zero, List.set_cons_succ, List.getElem_toArray, List.getElem_cons_zero, List.getElem_cons_succ]
                  refine wpAnyH_ready (rs := [3]) (by kernel_rfl) (by simp) ?_
                  refine AllReadyH.cons rfl (fun K hK => ?_) AllReadyH.nil
                  refine step_append_off (by rfl) (.tmp 70) (.tmp 71) rfl w13.heap.size _ [0] (by simp [Act.eval]) O14 bc oc cc _ lc (E14.c.more E14.h1) (by simp [Act.eval]) (by have := HPT2.lc; simp; omega) (by simp) ?_
                  intro v15 w15 O15 b15
                  have b15' : Below w13.heap.size w13 w15 := b14.trans b15
                  have E15 := E13.out.up (b15'.mono E13.out.h1)
                  have A15 := A13.out.below b15'
                  obtain ⟨A7, c7, rfl, hc7, r7⟩ := O15.rd
                  obtain ⟨n7, hn7⟩ : ∃ n, n = ([0] ++ lc).length := ⟨_, rfl⟩
                  rw [← hn7] at r7 hc7 ⊢
                  have HN7 : Hid (n7 ≤ 27) := hid (by have := HPT2.lc; rw [hn7]; simp; omega)
                  clear hn7 b14 E14 A14 O14 O15 b15
                  refine hK.out _ _ trivial (fun hHeld => ?_)
                  clear hK K
                  try simp only [Act.put, List.setIfInBounds_toArray, List.set_cons_zero, List.set_cons_succ, List.getElem_toArray, List.getElem_cons_zero, List.getElem_cons_succ]
                  refine wpAnyH_ready (rs := [5]) (by kernel_rfl) (by simp) ?_
                  refine AllReadyH.cons rfl (fun K hK => ?_) AllReadyH.nil
                  go_simp
                  go_at_call 75
                  have D7 : D32 ([0] ++ lc) := by
                    intro x hx
                    rcases List.mem_append.1 hx with h | h
                    · simp at h; omega
                    · exact HPT2.dc x h
                  refine (plus_c l12 A7 n7 c7 ([0] ++ lc) (ws.getD 25 0) w15 hl12 d12 r7 D7 HN7.out HX2 (hid (by rw [val_zero_cons, V12.out, HPT2.c]; exact HFF.out.2.1))).mono ?_
                  rintro e w16 ⟨l16, rfl, hl16, d16, v16, b16⟩
                  rw [val_zero_cons, V12.out, HPT2.c] at v16
                  have E16 := E15.up (b16.mono E15.h1)
                  have A16 := A15.below b16
                  dsimp only
                  refine hK.out _ _ trivial (fun hHeld => ?_)
                  clear hK K
                  try simp only [Act.put, List.setIfInBounds_toArray, List.set_cons_zero, List.set_cons_succ, List.getElem_toArray, List.getElem_cons_zero, List.getElem_cons_succ]
                  refine wpAnyH_ready (rs := [6]) (by kernel_rfl) (by simp) ?_
                  refine AllReadyH.cons rfl (fun K hK => ?_) AllReadyH.nil
                  rw [if_pos (by rfl)]
                  obtain ⟨q3, q4⟩ := A16.put hl16 d16
                  refine wp_store_mid 91 (.tmp 9) (.tmp 74) rfl b9 0 (cellsOf64 l16).toArray rfl rfl (by have := A16.blk.there; rw [A16.len] at this; simpa [c27 hl16] using this) (by simpa [c27 hl16] using size27) (all_oneCell_toArray (one64 l16)) ?_
                  rw [show (cellsOf64 l16).toArray.toList = cellsOf64 l16 from rfl]
                  refine hK.out _ _ trivial (fun hHeld => ?_)
                  clear hK K
                  try simp only [Act.put, List.setIfInBounds_toArray, List.set_cons_zero, List.set_cons_succ, List.getElem_toArray, List.getElem_cons_zero, List.getElem_cons_succ]
                  refine wpAnyH_done (by kernel_rfl) ?_ _
                  have E17 := E16.up q4
                  have FS := hid (acc_fold _ (ws.getD 24 0) (ws.getD 25 0) (T24 - M) M _ HCUT.out HPT2.hC HNE.out HPT2.hM)
                  have HR17 : Hid (FoRel w (some ⟨ba, oa, none⟩) B (some ⟨bc, oc, none⟩) la lb lc b9 M (topN la k * Y) (w16.setCells b9 0 (cellsOf64 l16))) := by
                    refine ⟨E17, l16, q3, ?_, ?_⟩
                    · rw [v16]; exact HFF.out.2.2
                    · rw [v16]; exact FS.out.1.trans HMN.out
                  have HMS : Hid (aval (w16.setCells b9 0 (cellsOf64 l16)) b9 < aval wr b9) := by
                    show _ < _
                    rw [q3.aval, HA.out.aval, v16]
                    exact FS.out.2
                  clear q3 q4 E17 E16 A16 v16 d16
                  generalize w16.setCells b9 0 (cellsOf64 l16) = w17 at *
                  go_wp2
                  go_roundw
                  case rel => exact HR17.out
                  case measure => exact HMS.out
                · go_simp
                  refine hK.out _ _ trivial (fun hHeld => ?_)
                  clear hK K
                  try simp only [Act.put, List.setIfInBounds_toArray, List.set_cons_zero, List.set_cons_succ, List.getElem_toArray, List.getElem_cons_zero, List.getElem_cons_succ]
                  refine wpAnyH_ready (rs := [0, 3]) (by kernel_rfl) (by simp) ?_
                  refine AllReadyH.cons rfl (fun K hK => ?_) (AllReadyH.cons rfl (fun K hK => ?_) AllReadyH.nil)
                  · rw [if_pos (by rfl)]
                    refine wp_load_mid 91 (.tmp 9) rfl b9 0 rfl (cellsOf64 l12) _ A14.blk.range Tryd.underlying91 rfl HI12.out ?_
                    refine hK.out _ _ trivial (fun hHeld => ?_)
                    clear hK K
                    try simp only [Act.put, List.setIfInBounds_toArray, List.set_cons_zero, List.set_cons_succ, List.getElem_toArray, List.getElem_cons_zero, List.getElem_cons_succ]
                    refine wpAnyH_ready (rs := [3]) (by kernel_rfl) (by simp) ?_
                    refine AllReadyH.cons rfl (fun K hK => ?_) AllReadyH.nil
                    refine step_append_off (by rfl) (.tmp 70) (.tmp 71) rfl w13.heap.size _ [0] (by simp [Act.eval]) O14 bc oc cc _ lc (E14.c.more E14.h1) (by simp [Act.eval]) (by have := HPT2.lc; simp; omega) (by simp) ?_
                    intro v15 w15 O15 b15
                    have b15' : Below w13.heap.size w13 w15 := b14.trans b15
                    have E15 := E13.out.up (b15'.mono E13.out.h1)
                    have A15 := A13.out.below b15'
                    obtain ⟨A7, c7, rfl, hc7, r7⟩ := O15.rd
                    obtain ⟨n7, hn7⟩ : ∃ n, n = ([0] ++ lc).length := ⟨_, rfl⟩
                    rw [← hn7] at r7 hc7 ⊢
                    have HN7 : Hid (n7 ≤ 27) := hid (by have := HPT2.lc; rw [hn7]; simp; omega)
                    clear hn7 b14 E14 A14 O14 O15 b15
                    refine hK.out _ _ trivial (fun hHeld => ?_)
                    clear hK K
                    try simp only [Act.put, List.setIfInBounds_toArray, List.set_cons_zero, List.set_cons_succ, List.getElem_toArray, List.getElem_cons_zero, List.getElem_cons_succ]
                    refine wpAnyH_ready (rs := [5]) (by kernel_rfl) (by simp) ?_
                    refine AllReadyH.cons rfl (fun K hK => ?_) AllReadyH.nil
                    go_simp
                    go_at_call 75
                    have D7 : D32 ([0] ++ lc) := by
                      intro x hx
                      rcases List.mem_append.1 hx with h | h
                      · simp at h; omega
                      · exact HPT2.dc x h
                    refine (plus_c l12 A7 n7 c7 ([0] ++ lc) (ws.getD 25 0) w15 hl12 d12 r7 D7 HN7.out HX2 (hid (by rw [val_zero_cons, V12.out, HPT2.c]; exact HFF.out.2.1))).mono ?_
                    rintro e w16 ⟨l16, rfl, hl16, d16, v16, b16⟩
                    rw [val_zero_cons, V12.out, HPT2.c] at v16
                    have E16 := E15.up (b16.mono E15.h1)
                    have A16 := A15.below b16
                    dsimp only
                    refine hK.out _ _ trivial (fun hHeld => ?_)
                    clear hK K
                    try simp only [Act.put, List.setIfInBounds_toArray, List.set_cons_zero, List.set_cons_succ, List.getElem_toArray, List.getElem_cons_zero, List.getElem_cons_succ]
                    refine wpAnyH_ready (rs := [6]) (by kernel_rfl) (by simp) ?_
                    refine AllReadyH.cons rfl (fun K hK => ?_) AllReadyH.nil
                    rw [if_pos (by rfl)]
                    obtain ⟨q3, q4⟩ := A16.put hl16 d16
                    refine wp_store_mid 91 (.tmp 9) (.tmp 74) rfl b9 0 (cellsOf64 l16).toArray rfl rfl (by have := A16.blk.there; rw [A16.len] at this; simpa [c27 hl16] using this) (by simpa [c27 hl16] using size27) (all_oneCell_toArray (one64 l16)) ?_
                    rw [show (cellsOf64 l16).toArray.toList = cellsOf64 l16 from rfl]
                    refine hK.out _ _ trivial (fun hHeld => ?_)
                    clear hK K
                    try simp only [Act.put, List.setIfInBounds_toArray, List.set_cons_zero, List.set_cons_succ, List.getElem_toArray, List.getElem_cons_zero, List.getElem_cons_succ]
                    refine wpAnyH_done (by kernel_rfl) ?_ _
                    have E17 := E16.up q4
                    have FS := hid (acc_fold _ (ws.getD 24 0) (ws.getD 25 0) (T24 - M) M _ HCUT.out HPT2.hC HNE.out HPT2.hM)
                    have HR17 : Hid (FoRel w (some ⟨ba, oa, none⟩) B (some ⟨bc, oc, none⟩) la lb lc b9 M (topN la k * Y) (w16.setCells b9 0 (cellsOf64 l16))) := by
                      refine ⟨E17, l16, q3, ?_, ?_⟩
                      · rw [v16]; exact HFF.out.2.2
                      · rw [v16]; exact FS.out.1.trans HMN.out
                    have HMS : Hid (aval (w16.setCells b9 0 (cellsOf64 l16)) b9 < aval wr b9) := by
                      show _ < _
                      rw [q3.aval, HA.out.aval, v16]
                      exact FS.out.2
                    clear q3 q4 E17 E16 A16 v16 d16
                    generalize w16.setCells b9 0 (cellsOf64 l16) = w17 at *
                    go_wp2
                    go_roundw
                    case rel => exact HR17.out
                    case measure => exact HMS.out
                  · refine step_append_off (by rfl) (.tmp 70) (.tmp 71) rfl w13.heap.size _ [0] (by simp [Act.eval]) O14 bc oc cc _ lc (E14.c.more E14.h1) (by simp [Act.eval]) (by have := HPT2.lc; simp; omega) (by simp) ?_
                    intro v15 w15 O15 b15
                    have b15' : Below w13.heap.size w13 w15 := b14.trans b15
                    have E15 := E13.out.up (b15'.mono E13.out.h1)
                    have A15 := A13.out.below b15'
                    obtain ⟨A7, c7, rfl, hc7, r7⟩ := O15.rd
                    obtain ⟨n7, hn7⟩ : ∃ n, n = ([0] ++ lc).length := ⟨_, rfl⟩
                    rw [← hn7] at r7 hc7 ⊢
                    have HN7 : Hid (n7 ≤ 27) := hid (by have := HPT2.lc; rw [hn7]; simp; omega)
                    clear hn7 b14 E14 A14 O14 O15 b15
                    refine hK.out _ _ trivial (fun hHeld => ?_)
                    clear hK K
                    try simp only [Act.put, List.setIfInBounds_toArray, List.set_cons_zero, List.set_cons_succ, List.getElem_toArray, List.getElem_cons_zero, List.getElem_cons_succ]
                    refine wpAnyH_ready (rs := [0]) (by kernel_rfl) (by simp) ?_
                    refine AllReadyH.cons rfl (fun K hK => ?_) AllReadyH.nil
                    rw [if_pos (by rfl)]
                    refine wp_load_mid 91 (.tmp 9) rfl b9 0 rfl (cellsOf64 l12) _ A15.blk.range Tryd.underlying91 rfl HI12.out ?_
                    refine hK.out _ _ trivial (fun hHeld => ?_)
                    clear hK K
                    try simp only [Act.put, List.setIfInBounds_toArray, List.set_cons_zero, List.set_cons_succ, List.getElem_toArray, List.getElem_cons_zero, List.getElem_cons_succ]
                    refine wpAnyH_ready (rs := [5]) (by kernel_rfl) (by simp) ?_
                    refine AllReadyH.cons rfl (fun K hK => ?_) AllReadyH.nil
                    go_simp
                    go_at_call 75
                    have D7 : D32 ([0] ++ lc) := by
                      intro x hx
                      rcases List.mem_append.1 hx with h | h
                      · simp at h; omega
                      · exact HPT2.dc x h
                    refine (plus_c l12 A7 n7 c7 ([0] ++ lc) (ws.getD 25 0) w15 hl12 d12 r7 D7 HN7.out HX2 (hid (by rw [val_zero_cons, V12.out, HPT2.c]; exact HFF.out.2.1))).mono ?_
                    rintro e w16 ⟨l16, rfl, hl16, d16, v16, b16⟩
                    rw [val_zero_cons, V12.out, HPT2.c] at v16
                    have E16 := E15.up (b16.mono E15.h1)
                    have A16 := A15.below b16
                    dsimp only
                    refine hK.out _ _ trivial (fun hHeld => ?_)
                    clear hK K
                    try simp only [Act.put, List.setIfInBounds_toArray, List.set_cons_zero, List.set_cons_succ, List.getElem_toArray, List.getElem_cons_zero, List.getElem_cons_succ]
                    refine wpAnyH_ready (rs := [6]) (by kernel_rfl) (by simp) ?_
                    refine AllReadyH.cons rfl (fun K hK => ?_) AllReadyH.nil
                    rw [if_pos (by rfl)]
                    obtain ⟨q3, q4⟩ := A16.put hl16 d16
                    refine wp_store_mid 91 (.tmp 9) (.tmp 74) rfl b9 0 (cellsOf64 l16).toArray rfl rfl (by have := A16.blk.there; rw [A16.len] at this; simpa [c27 hl16] using this) (by simpa [c27 hl16] using size27) (all_oneCell_toArray (one64 l16)) ?_
                    rw [show (cellsOf64 l16).toArray.toList = cellsOf64 l16 from rfl]
                    refine hK.out _ _ trivial (fun hHeld => ?_)
                    clear hK K
                    try simp only [Act.put, List.setIfInBounds_toArray, List.set_cons_zero, List.set_cons_succ, List.getElem_toArray, List.getElem_cons_zero, List.getElem_cons_succ]
                    refine wpAnyH_done (by kernel_rfl) ?_ _
                    have E17 := E16.up q4
                    have FS := hid (acc_fold _ (ws.getD 24 0) (ws.getD 25 0) (T24 - M) M _ HCUT.out HPT2.hC HNE.out HPT2.hM)
                    have HR17 : Hid (FoRel w (some ⟨ba, oa, none⟩) B (some ⟨bc, oc, none⟩) la lb lc b9 M (topN la k * Y) (w16.setCells b9 0 (cellsOf64 l16))) := by
                      refine ⟨E17, l16, q3, ?_, ?_⟩
                      · rw [v16]; exact HFF.out.2.2
                      · rw [v16]; exact FS.out.1.trans HMN.out
                    have HMS : Hid (aval (w16.setCells b9 0 (cellsOf64 l16)) b9 < aval wr b9) := by
                      show _ < _
                      rw [q3.aval, HA.out.aval, v16]
                      exact FS.out.2
                    clear q3 q4 E17 E16 A16 v16 d16
                    generalize w16.setCells b9 0 (cellsOf64 l16) = w17 at *
                    go_wp2
                    go_roundw
                    case rel => exact HR17.out
                    case measure => exact HMS.out

        · have e1 : ((m + 1 : Nat) : Int) = (m : Int) + 1 := by omega
          rw [e1]
          clear e1
          have c0 := hA.blk.cell (i := m) (by rw [hA.len]; omega)
          have c1 := hA.blk.cell (i := m + 1) (by rw [hA.len]; omega)
          have f0 := hA.blk.frozen (m + 1)
          have i0 : (0 : Int) ≤ (m : Int) := by omega
          have i1 : (m : Int) < 27 := by omega
          have i2 : (m : Int) + 1 < 27 := by omega
          have i3 : (0 : Int) ≤ (m : Int) + 1 := by omega
          have i4 : ((m : Int) + 1).toNat = m + 1 := by omega
          have i5 : (1 : Int) ≤ (m : Int) + 1 := by omega
          have g0 : ws.getD m 0 = w0.getD m 0 := by rw [hj m, if_neg (by omega)]
          have hx := getD_lt _ (by decide) ws hA.d m
          have HJ := hid hj
          have HG := hid g0
          clear hj g0
          go_wp2
          go_roundw
          case rel =>
            obtain ⟨p1, p2⟩ := hA.set (m + 1) (ws.getD m 0) (at64 ws m) hx rfl
            refine ⟨m, by omega, by go_num, hE.up p2, _, p1, fun j => ?_⟩
            by_cases hjm : j = m + 1
            · subst hjm
              rw [getD_set_eq _ _ _ (by rw [hA.len]; omega), if_pos (by omega), HG.out]
              rfl
            · rw [getD_set_ne _ _ _ _ (by omega), HJ.out j]
              by_cases hc : m + 1 < j ∧ j ≤ 26
              · rw [if_pos hc, if_pos (by omega)]
              · rw [if_neg hc, if_neg (by omega)]
          case measure => simp [intOf]
set_option maxRecDepth 20000 in
set_option maxHeartbeats 4000000 in
theorem times_false (u v : Value) (X Y : Nat) (w : World) (hu : Dg w u X) (hv : Dg w v Y) (hY : Y < T24) :
    Calls Tryd.prog 41 #[.bool false, u, v] w fun e w' => ∃ r, e = .returned r ∧ Dg w' r (X * Y % mOf false) ∧ Below w.heap.size w w' := by
  have hmk := make64I 24 24 (Nat.le_refl _) (by omega) 24 24 rfl rfl
  have HU := hid hu
  have HV := hid hv
  have HY := hid hY
  clear hu hv hY
  obtain ⟨M, hM⟩ : ∃ M, M = m2 false := ⟨_, rfl⟩
  have HM := hid hM
  clear hM
  go_enter Tryd.func41, Tryd.ntmps41
  go_wp2_with fail
  refine (refP_c w).mono ?_
  rintro e w1 ⟨pv1, rfl, h1, b1⟩
  have HP := hid (h1.up ((Below.refl w1.heap.size w1).alloc (Nat.le_refl _) (.cells #[.int .u64 1] 22)))
  have HO := hid (one_dg w1)
  have HB := hid (b1.alloc b1.size (.cells #[.int .u64 1] 22))
  clear h1 b1
  go_wp2_with fail
  refine (gSub_c pv1 _ bigP 1 _ HP.out HO.out (by decide)).mono ?_
  rintro e w2 ⟨mv, rfl, h2, b2⟩
  have H2 : Hid (Dg w2 mv M) := hid (by rw [HM.out]; exact h2)
  have HB2 := hid (HB.out.trans (Below.mono (B' := w.heap.size) b2 HB.out.size))
  clear h2 b2 HB HP HO
  go_wp2_with (at_builtin; refine append_big rfl (.tmp 20) (.tmp 21) rfl w2 rfl rfl ?_)
  intro v3 w3 d3 b3
  clear hmk
  have b03 := HB2.out.trans (Below.mono (B' := w.heap.size) b3 HB2.out.size)
  have HM3 := hid (H2.out.up b3)
  have HD3 := hid d3
  clear d3 b3 HB2 H2
  go_wp2_with fail
  refine (gSub_c v3 mv T24 M w3 HD3.out HM3.out (by rw [HM.out]; exact Nat.le_of_lt (m2_lt _))).mono ?_
  rintro e w4 ⟨cv, rfl, h4, b4⟩
  have b04 := bchain b03 b4
  have HC4 := hid h4
  have HU4 := hid (HU.out.up b04)
  have HV4 := hid (HV.out.up b04)
  have HB4 := hid b04
  clear h4 b4 b03 b04 HD3 HM3 HU HV
  obtain ⟨A, ca, la, rfl, a1, a2, a3, a4, a5, a6⟩ := HU4.out
  obtain ⟨B, cb, lb, rfl, c1, c2, c3, c4, c5, c6⟩ := HV4.out
  obtain ⟨C, cc, lc, rfl, d1, d2, d3, d4, d5, d6⟩ := HC4.out
  have HPT : Hid (Parts X Y (T24 - M) M la lb lc) := by
    have hm := HM.out
    refine ⟨a6, c6, d6, a4, c4, d4, ?_, ?_, a2, ?_, ?_, HY.out, ?_⟩
    · exact len_of_lt c4 c5 (by rw [c6]; exact HY.out)
    · exact len_of_lt d4 d5 (by rw [d6, hm]; exact m2_c _)
    · have : M ≤ T24 := by rw [hm]; exact Nat.le_of_lt (m2_lt _)
      omega
    · rw [hm]; exact m2_pos _
    · rw [hm]; exact m2_c _
  have hA0 := z27_new w4
  have b45 : Below w4.heap.size w4 (w4.alloc (.cells #[.int .u64 0, .int .u64 0, .int .u64 0, .int .u64 0, .int .u64 0, .int .u64 0, .int .u64 0, .int .u64 0, .int .u64 0, .int .u64 0, .int .u64 0, .int .u64 0, .int .u64 0, .int .u64 0, .int .u64 0, .int .u64 0, .int .u64 0, .int .u64 0, .int .u64 0, .int .u64 0, .int .u64 0, .int .u64 0, .int .u64 0, .int .u64 0, .int .u64 0, .int .u64 0, .int .u64 0] 91)) := (Below.refl _ _).alloc (Nat.le_refl _) _
  have hE0 : EnvT w A B C la lb lc w4.heap.size (w4.alloc (.cells #[.int .u64 0, .int .u64 0, .int .u64 0, .int .u64 0, .int .u64 0, .int .u64 0, .int .u64 0, .int .u64 0, .int .u64 0, .int .u64 0, .int .u64 0, .int .u64 0, .int .u64 0, .int .u64 0, .int .u64 0, .int .u64 0, .int .u64 0, .int .u64 0, .int .u64 0, .int .u64 0, .int .u64 0, .int .u64 0, .int .u64 0, .int .u64 0, .int .u64 0, .int .u64 0, .int .u64 0] 91)) :=
    ⟨a3.below b45 (Nat.le_refl _), c3.below b45 (Nat.le_refl _), d3.below b45 (Nat.le_refl _), HB4.out.trans (Below.mono (B' := w.heap.size) b45 HB4.out.size), HB4.out.size, b45.size⟩
  have hp := hA0.put (l := List.replicate 27 0) (by simp) hA0.d
  have HTH : Hid ((w4.alloc (.cells #[.int .u64 0, .int .u64 0, .int .u64 0, .int .u64 0, .int .u64 0, .int .u64 0, .int .u64 0, .int .u64 0, .int .u64 0, .int .u64 0, .int .u64 0, .int .u64 0, .int .u64 0, .int .u64 0, .int .u64 0, .int .u64 0, .int .u64 0, .int .u64 0, .int .u64 0, .int .u64 0, .int .u64 0, .int .u64 0, .int .u64 0, .int .u64 0, .int .u64 0, .int .u64 0, .int .u64 0] 91)).there w4.heap.size 0 27) := hid (by have := hA0.blk.there; rw [hA0.len] at this; exact this)
  have HA1 := hid hp.1
  have HE1 := hid (hE0.up hp.2)
  clear hA0 hE0 hp b45 a1 a2 a3 a4 a5 a6 c1 c2 c3 c4 c5 c6 d1 d2 d3 d4 d5 d6 HU4 HV4 HC4 HB4
  have hwr : wrap64 ((la.length : Int) - 1) = (la.length : Int) - 1 := by
    have := HPT.out.la
    unfold wrap64
    omega
  go_wp2_with (refine wpList_store_mid rfl 91 (.tmp 9) (.tmp 25) rfl _ 0 _ rfl rfl ?_ ?_ ?_ ?_)
  · exact HTH.out
  · exact size_z27
  · exact all27
  have HA1 : Hid (Acc w4.heap.size ((w4.alloc (.cells #[.int .u64 0, .int .u64 0, .int .u64 0, .int .u64 0, .int .u64 0, .int .u64 0, .int .u64 0, .int .u64 0, .int .u64 0, .int .u64 0, .int .u64 0, .int .u64 0, .int .u64 0, .int .u64 0, .int .u64 0, .int .u64 0, .int .u64 0, .int .u64 0, .int .u64 0, .int .u64 0, .int .u64 0, .int .u64 0, .int .u64 0, .int .u64 0, .int .u64 0, .int .u64 0, .int .u64 0] 91)).setCells w4.heap.size 0 (#[.int .u64 0, .int .u64 0, .int .u64 0, .int .u64 0, .int .u64 0, .int .u64 0, .int .u64 0, .int .u64 0, .int .u64 0, .int .u64 0, .int .u64 0, .int .u64 0, .int .u64 0, .int .u64 0, .int .u64 0, .int .u64 0, .int .u64 0, .int .u64 0, .int .u64 0, .int .u64 0, .int .u64 0, .int .u64 0, .int .u64 0, .int .u64 0, .int .u64 0, .int .u64 0, .int .u64 0] : Array Value).toList) (List.replicate 27 0)) := HA1
  have HE1 : Hid (EnvT w A B C la lb lc w4.heap.size ((w4.alloc (.cells #[.int .u64 0, .int .u64 0, .int .u64 0, .int .u64 0, .int .u64 0, .int .u64 0, .int .u64 0, .int .u64 0, .int .u64 0, .int .u64 0, .int .u64 0, .int .u64 0, .int .u64 0, .int .u64 0, .int .u64 0, .int .u64 0, .int .u64 0, .int .u64 0, .int .u64 0, .int .u64 0, .int .u64 0, .int .u64 0, .int .u64 0, .int .u64 0, .int .u64 0, .int .u64 0, .int .u64 0] 91)).setCells w4.heap.size 0 (#[.int .u64 0, .int .u64 0, .int .u64 0, .int .u64 0, .int .u64 0, .int .u64 0, .int .u64 0, .int .u64 0, .int .u64 0, .int .u64 0, .int .u64 0, .int .u64 0, .int .u64 0, .int .u64 0, .int .u64 0, .int .u64 0, .int .u64 0, .int .u64 0, .int .u64 0, .int .u64 0, .int .u64 0, .int .u64 0, .int .u64 0, .int .u64 0, .int .u64 0, .int .u64 0, .int .u64 0] : Array Value).toList)) := HE1
  generalize ((w4.alloc (.cells #[.int .u64 0, .int .u64 0, .int .u64 0, .int .u64 0, .int .u64 0, .int .u64 0, .int .u64 0, .int .u64 0, .int .u64 0, .int .u64 0, .int .u64 0, .int .u64 0, .int .u64 0, .int .u64 0, .int .u64 0, .int .u64 0, .int .u64 0, .int .u64 0, .int .u64 0, .int .u64 0, .int .u64 0, .int .u64 0, .int .u64 0, .int .u64 0, .int .u64 0, .int .u64 0, .int .u64 0] 91)).setCells w4.heap.size 0 (#[.int .u64 0, .int .u64 0, .int .u64 0, .int .u64 0, .int .u64 0, .int .u64 0, .int .u64 0, .int .u64 0, .int .u64 0, .int .u64 0, .int .u64 0, .int .u64 0, .int .u64 0, .int .u64 0, .int .u64 0, .int .u64 0, .int .u64 0, .int .u64 0, .int .u64 0, .int .u64 0, .int .u64 0, .int .u64 0, .int .u64 0, .int .u64 0, .int .u64 0, .int .u64 0, .int .u64 0] : Array Value).toList) = w5 at HA1 HE1 ⊢
  generalize w4.heap.size = b9 at *
  clear HTH
  rw [hwr]
  clear hwr
  go_loopw [10] (fun i wr => ∃ k : Nat, k ≤ la.length ∧ i = .int .i64 ((k : Int) - 1) ∧ TRel w A B C la lb lc b9 M Y wr k) (fun i _ => (intOf i + 1).toNat)
  case atStart =>
    have hla := HPT.out.la
    refine ⟨la.length, Nat.le_refl _, by go_num, HE1.out, List.replicate 27 0, HA1.out, by decide, ?_⟩
    rw [topN_end, Nat.zero_mul, show val 4294967296 (List.replicate 27 0) = 0 by decide]
  case round =>
    clear HA1 HE1
    obtain ⟨k, hk, rfl, hE, w0, hA, hlt, hmod⟩ := hrel
    rcases k with _ | k
    · have hr27 : Rd (wr.alloc (.cells #[] 22)) wr.heap.size (some ⟨b9, 0, none⟩) 27 w0 := by
        have h := hA.blk.rd0 (B := wr.heap.size) hA.blk.size hA.len
        exact h.below ((Below.refl wr.heap.size wr).alloc (Nat.le_refl _) (.cells #[] 22)) (Nat.le_refl _)
      have HD := hid hA.d
      have HB := hid hE.bel
      have HMOD := hid hmod
      clear hA hE hlt hmod
      go_wp2_with (at_builtin; refine append_clone rfl (.tmp 76) (.tmp 77) rfl wr.heap.size rfl b9 0 27 27 wr.heap.size w0 rfl hr27 (by decide) (by decide) ?_)
      intro k2 w6 hB6 b6
      have b06 : Below wr.heap.size wr w6 := ((Below.refl wr.heap.size wr).alloc (Nat.le_refl _) (.cells #[] 22)).trans (b6.mono (by simp))
      have r6 := hB6.rd (off := 0) (n := 27) (B := w6.heap.size) (by have := hr27.len; simp; omega) hB6.size
      rw [List.drop_zero, List.take_append_of_le_length (by have := hr27.len; omega), List.take_of_length_le (by have := hr27.len; omega)] at r6
      have hl0 := hr27.len
      clear hr27 hB6 b6
      go_wp2_with fail
      refine (trim_c _ 27 (27 + k2) _ w0 w6 r6 (by decide) (by omega)).mono ?_
      rintro e w' ⟨m2', hm2', rfl, rfl, t2, z2⟩
      have HDG : Hid (Dg w6 (.slice (some ⟨wr.heap.size + 1, 0, none⟩) m2' (27 + k2)) (val 4294967296 w0)) :=
        Dg.ofRd (r6.take m2' hm2') (by omega) (by omega) (fun x hx => HD.out x (List.mem_of_mem_take hx)) t2 (by rw [val_take_zeros _ _ _ (by omega) z2])
      clear r6 t2 z2 hm2' hl0
      go_wp2_with fail
      refine (refMod_c false _ _ w6 HDG.out).mono ?_
      rintro e w7 ⟨r7, rfl, h7, b7⟩
      have HR7 : Hid (Dg w7 r7 (X * Y % mOf false)) := by
        have h := HMOD.out
        rw [topN_all, HPT.out.a] at h
        have e2 : val 4294967296 w0 % mOf false = X * Y % mOf false := by
          rw [← m2_mod false (val 4294967296 w0), ← m2_mod false (X * Y), ← HM.out, h]
        rw [← e2]
        exact h7
      have b07 := HB.out.trans ((bchain b06 b7).mono HB.out.size)
      clear h7 b06 b7 HDG
      go_wp2
      go_ret
      exact ⟨_, rfl, HR7.out, b07⟩
    · have e1 : (((k + 1 : Nat) : Int) - 1) = (k : Int) := by omega
      rw [e1]
      clear e1
      have HE := hid hE
      have HA := hid hA
      have HLT := hid hlt
      have HMOD := hid hmod
      clear hE hA hlt hmod
      go_wp2_with fail
      obtain ⟨w6, rfl⟩ : ∃ x, x = wr := ⟨wr, rfl⟩
      go_loopw [11] (fun i wr => ∃ m : Nat, m ≤ 26 ∧ i = .int .i64 m ∧ ShRel w A B C la lb lc b9 w0 wr m) (fun i _ => (intOf i).toNat)
      case atStart => exact ⟨26, by omega, rfl, HE.out, w0, HA.out, fun j => by rw [if_neg (by omega)]⟩
      case round =>
        clear HE
        obtain ⟨m, hm, rfl, hE, ws, hA, hj⟩ := hrel
        rcases m with _ | m
        · have c0 := hA.blk.cell (i := 0) (by rw [hA.len]; omega)
          have f0 := hA.blk.frozen 0
          obtain ⟨p1, p2⟩ := hA.set 0 0 0 (by decide) rfl
          have HSV : Hid (val 4294967296 (ws.set 0 0) = val 4294967296 w0 * 4294967296) := by
            refine shift_val HA.out.len p1.len (fun j => ?_) (acc_top HA.out.len HA.out.d 24 (by decide) HLT.out 26 (by decide))
            by_cases hj0 : j = 0
            · subst hj0
              rw [getD_set_eq _ _ _ (by rw [hA.len]; omega), if_pos rfl]
            · rw [getD_set_ne _ _ _ _ (by omega), hj j, if_neg hj0]
              by_cases hc : 0 < j ∧ j ≤ 26
              · rw [if_pos hc]
              · rw [if_neg hc, acc_top HA.out.len HA.out.d 24 (by decide) HLT.out j (by omega), acc_top HA.out.len HA.out.d 24 (by decide) HLT.out (j - 1) (by omega)]
          have hE1 := hE.up p2
          have P1 := hid p1
          have E1 := hid hE1
          obtain ⟨ba, oa, rfl, hba, ca0⟩ := hE1.a.at_ (k := k) (by omega)
          have k0 : (0 : Int) ≤ (k : Int) := by omega
          have k1 : (k : Int) < (la.length : Int) := by omega
          clear hj hE hE1 p1 p2 HA
          go_wp2_with fail
          clear c0 f0 hA
          generalize wr.setCell ⟨b9, 0, none⟩ (.int .u64 0) = w7 at *
          have PD : Hid (Acc b9 w7.drew (ws.set 0 0)) := hid (P1.out.drewN 1)
          have ED := hid (E1.out.up (show Below b9 w7 w7.drew from (Below.refl _ _).drew))
          have HG1 := hid PD.out.blk.range
          have HI1 := hid (size27.trans (congrArg some (c27 PD.out.len).symm))
          have ca1 : w7.drew.cell? ⟨ba, oa + k, none⟩ = some (.int .u64 (at64 la k)) := ca0
          clear ca0
          refine wp_region_still_tail 6 (by kernel_rfl) (by kernel_rfl) ?_
          simp only [List.take_succ_cons, List.take_zero, List.drop_succ_cons, List.drop_zero]
          refine still_load rfl 91 (.tmp 9) rfl b9 0 rfl (cellsOf64 (ws.set 0 0)) _ HG1.out Tryd.underlying91 rfl HI1.out ?_
          repeat still_step
          refine wpStill_nil ?_
          change wpList _ _ _ _ _ w7.drew
          generalize w7.drew = w8 at *
          have HPT2 := HPT.out
          have hxk := getD_lt _ (by decide) la HPT2.da k
          have HNF := hid (next_fits (V := val 4294967296 w0) (Y := Y) (a := la.getD k 0) HLT.out HPT2.hY hxk)
          go_wp2_with fail
          refine (plus_c (ws.set 0 0) B lb.length cb lb (la.getD k 0) w8 PD.out.len PD.out.d (ED.out.b.more ED.out.h1) HPT2.db (by have := HPT2.lb; omega) hxk (hid (by rw [HSV.out, HPT2.b]; exact HNF.out.2))).mono ?_
          rintro e w9 ⟨l9, rfl, hl9, d9, v9, b9'⟩
          rw [HSV.out, HPT2.b] at v9
          have A9 := PD.out.below b9'
          have E9 := ED.out.up (b9'.mono ED.out.h1)
          obtain ⟨q1, q2⟩ := A9.put hl9 d9
          have hst := store64 b9 l9 w9 (by rw [hl9]; have := A9.blk.there; rw [A9.len] at this; exact this)
          have hlen9 := c27 hl9
          have HF0 : Hid (FoRel w (some ⟨ba, oa, none⟩) B C la lb lc b9 M (topN la k * Y) (w9.setCells b9 0 (cellsOf64 l9))) := by
            refine ⟨E9.up q2, l9, q1, ?_, ?_⟩
            · rw [v9]; exact HNF.out.1
            · rw [topN_step la k (by omega)]
              exact next_num HMOD.out v9
          clear HPT2 HNF HSV PD ED A9 E9 q1 q2 v9 d9 b9' hxk HG1 HI1 ca1 P1 E1 HLT HMOD
          go_wp2_with fail
          generalize w9.setCells b9 0 (cellsOf64 l9) = w10 at *
          clear hst hlen9
          go_loopw [12] (fun _ wr => FoRel w (some ⟨ba, oa, none⟩) B C la lb lc b9 M (topN la k * Y) wr) (fun _ wr => aval wr b9)
          case atStart => exact HF0.out
          case round =>
            clear HF0
            obtain ⟨hE, ws, hA, h26b, hmodN⟩ := hrel
            have h26 := acc_top hA.len hA.d 26 (by decide) h26b 26 (Nat.le_refl _)
            have c24 := hA.blk.cell (i := 24) (by rw [hA.len]; omega)
            have c25 := hA.blk.cell (i := 25) (by rw [hA.len]; omega)
            by_cases hz : ws.getD 24 0 = 0 ∧ ws.getD 25 0 = 0
            · have n24 : (at64 ws 24 != 0) = false := by unfold at64; rw [hz.1]; rfl
              have n25 : (at64 ws 25 != 0) = false := by unfold at64; rw [hz.2]; rfl
              have HR : Hid (TRel w (some ⟨ba, oa, none⟩) B C la lb lc b9 M Y wr k) := by
                refine ⟨hE, ws, hA, ?_, hmodN⟩
                exact val_lt24 hA.len hA.d hz.1 hz.2 h26
              have hwk : IntKind.i64.wrap ((k : Int) - 1) = (k : Int) - 1 := by have := HPT.out.la; rw [IntKind.wrap_i64]; omega
              clear hE hA h26b hmodN h26 hz
              go_wp2
              go_roundw
              case rel => exact ⟨k, by omega, by go_num, HR.out⟩
              case measure => simp [intOf]
            · have f24 := hA.blk.frozen 24
              have f25 := hA.blk.frozen 25
              have HNE : Hid (0 < ws.getD 24 0 ∨ 0 < ws.getD 25 0) := hid (by omega)
              have HE := hid hE
              have HA := hid hA
              have H26 := hid h26
              have HMN := hid hmodN
              clear hE hA h26b hmodN h26
              by_cases h24 : ws.getD 24 0 = 0
              · have n24 : (at64 ws 24 != 0) = false := by unfold at64; rw [h24]; rfl
                have n25 : (at64 ws 25 != 0) = true := by unfold at64; rw [bne_iff_ne]; intro h; have := HNE.out; omega
                clear hz h24
                go_wp2_with fail
                go_quiet (fail)
                have A1 := HA.out.drewN nq
                have E1 := HE.out.up (show Below b9 wr (wr.drewN nq) from below_drewN (Below.refl _ _) nq)
                generalize wr.drewN nq = w11 at A1 E1 ⊢
                have f24' := A1.blk.frozen 24
                have c24' := A1.blk.cell (i := 24) (by rw [A1.len]; omega)
                obtain ⟨p1, p2⟩ := A1.set 24 0 0 (by decide) rfl
                have E2 := E1.up p2
                have f25' := p1.blk.frozen 25
                have c25' := p1.blk.cell (i := 25) (by rw [p1.len]; omega)
                obtain ⟨p3, p4⟩ := p1.set 25 0 0 (by decide) rfl
                have E3 := hid (E2.up p4)
                have A3 := hid p3
                have HX1 := getD_lt _ (by decide) ws A1.d 24
                have HX2 := getD_lt _ (by decide) ws A1.d 25
                have HCUT := hid (acc_cut A1.len rfl H26.out)
                have HZL : Hid (val 4294967296 ((ws.set 24 0).set 25 0) < T24) := by
                  refine val_lt24 p3.len p3.d ?_ ?_ ?_
                  · rw [getD_set_ne _ _ _ _ (by omega), getD_set_eq _ _ _ (by rw [A1.len]; omega)]
                  · rw [getD_set_eq _ _ _ (by rw [List.length_set, A1.len]; omega)]
                  · rw [getD_set_ne _ _ _ _ (by omega), getD_set_ne _ _ _ _ (by omega)]; exact H26.out
                have HO3 := hid p3.blk.range
                have HI3 := hid (size27.trans (congrArg some (c27 p3.len).symm))
                clear p1 p2 p3 p4 E1 E2 A1 c24 c25 f24 f25
                go_wp2_with (with_reducible refine wpList_load_mid rfl 91 (.tmp 9) rfl b9 0 rfl (cellsOf64 ((ws.set 24 0).set 25 0)) _ HO3.out Tryd.underlying91 rfl HI3.out ?_)
                have HPT2 := HPT.out
                have HFF := hid (fold_fits (L := val 4294967296 ((ws.set 24 0).set 25 0)) (C := T24 - M) HZL.out HPT2.hC2 HX1 HX2)
                refine (plus_c ((ws.set 24 0).set 25 0) C lc.length cc lc (ws.getD 24 0) _ A3.out.len A3.out.d (E3.out.c.more E3.out.h1) HPT2.dc (by have := HPT2.lc; omega) HX1 (hid (by rw [HPT2.c]; exact HFF.out.1))).mono ?_
                rintro e w12 ⟨l12, rfl, hl12, d12, v12, b12⟩
                rw [HPT2.c] at v12
                have A12 := A3.out.below b12
                have E12 := E3.out.up (b12.mono E3.out.h1)
                obtain ⟨q1, q2⟩ := A12.put hl12 d12
                have hst := store64 b9 l12 w12 (by rw [hl12]; have := A12.blk.there; rw [A12.len] at this; exact this)
                have hlen12 := c27 hl12
                have A13 := hid q1
                have E13 := hid (E12.up q2)
                have V12 := hid v12
                clear q1 q2 A12 E12 b12 v12 A3 E3 HO3 HI3 f24' c24' f25' c25'
                go_wp2_with fail
                generalize w12.setCells b9 0 (cellsOf64 l12) = w13 at *
                clear hst hlen12
                have hlc0 : 0 < lc.length := by
                  rcases Nat.eq_zero_or_pos lc.length with h0 | h0
                  · exfalso
                    have : lc = [] := List.eq_nil_of_length_eq_zero h0
                    have h2 := HPT2.c
                    rw [this] at h2
                    have h3 := HPT2.hC
                    have h4 : M < T24 := by rw [HM.out]; exact m2_lt _
                    simp [val, pv] at h2
                    omega
                  · exact h0
                obtain ⟨bc, oc, rfl, hbc, _⟩ := E13.out.c.cells hlc0
                have HI12 := hid (size27.trans (congrArg some (c27 hl12).symm))
                have E13d := E13.out.up (show Below b9 w13 w13.drew from (Below.refl _ _).drew)
                have A13d : Acc b9 w13.drew l12 := A13.out.drewN 1
                have b14 : Below w13.heap.size w13 (w13.alloc (.cells #[.int .u64 0] 22)).drew := ((Below.refl _ _).alloc (Nat.le_refl _) _).drew
                have E14 := E13.out.up (b14.mono E13.out.h1)
                have A14 := A13.out.below b14
                have O14 : OwnW (w13.alloc (.cells #[.int .u64 0] 22)).drew w13.heap.size (.slice (some ⟨w13.heap.size, 0, none⟩) 1 1) [0] := by
                  have hB := BlkW.new64 w13 22 [0] (by intro x hx; simp at hx; omega)
                  exact (hB.own (by simp)).drew
                refine wp_region_held_drew (S := fun _ => True) (by kernel_rfl) trivial (fun hHeld => ?_)
                refine wpAnyH_take (i := 2) (v := ?_) rfl (by kernel_rfl) (by kernel_rfl) (by kernel_rfl) (fun _ _ _ h => h) (Or.inl ⟨by rfl, fun v hv => ?_⟩) (by with_reducible assumption) ?_
                rotate_left
                · go_simp
                  try with_reducible rfl
                simp only [Act.put, List.setIfInBounds_toArray, List.set_cons_zero, List.set_cons_succ, List.getElem_toArray, List.getElem_cons_zero, List.getElem_cons_succ]
                refine wpAnyH_take (i := 4) (v := ?_) rfl (by kernel_rfl) (by kernel_rfl) (by kernel_rfl) (fun _ _ _ h => h) (Or.inl ⟨by rfl, fun v hv => ?_⟩) (by with_reducible assumption) ?_
                rotate_left
                · go_simp
                  try with_reducible rfl
                simp only [Act.put, List.setIfInBounds_toArray, List.set_cons_zero, List.set_cons_succ, List.getElem_toArray, List.getElem_cons_zero, List.getElem_cons_succ]
                refine wpAnyH_ready (rs := [0, 1]) (by kernel_rfl) (by simp) ?_
                refine AllReadyH.cons rfl (fun K hK => ?_) (AllReadyH.cons rfl (fun K hK => ?_) AllReadyH.nil)
                · rw [if_pos (by rfl)]
                  refine wp_load_mid 91 (.tmp 9) rfl b9 0 rfl (cellsOf64 l12) _ A13d.blk.range Tryd.underlying91 rfl HI12.out ?_
                  refine hK.out _ _ trivial (fun hHeld => ?_)
                  clear hK K
                  try simp only [Act.put, List.setIfInBounds_toArray, List.set_cons_zero, List.set_cons_succ, List.getElem_toArray, List.getElem_cons_zero, List.getElem_cons_succ]
                  refine wpAnyH_ready (rs := [1]) (by kernel_rfl) (by simp) ?_
                  refine AllReadyH.cons rfl (fun K hK => ?_) AllReadyH.nil
                  go_simp
                  refine hK.out _ _ trivial (fun hHeld => ?_)
                  clear hK K
                  try simp only [Act.put, List.setIfInBounds_toArray, List.set_cons_zero, List.set_cons_succ, List.getElem_toArray, List.getElem_cons_zero, List.getElem_cons_succ]
                  refine wpAnyH_ready (rs := [3]) (by kernel_rfl) (by simp) ?_
                  refine AllReadyH.cons rfl (fun K hK => ?_) AllReadyH.nil
                  refine step_append_off (by rfl) (.tmp 70) (.tmp 71) rfl w13.heap.size _ [0] (by simp [Act.eval]) O14 bc oc cc _ lc (E14.c.more E14.h1) (by simp [Act.eval]) (by have := HPT2.lc; simp; omega) (by simp) ?_
                  intro v15 w15 O15 b15
                  have b15' : Below w13.heap.size w13 w15 := b14.trans b15
                  have E15 := E13.out.up (b15'.mono E13.out.h1)
                  have A15 := A13.out.below b15'
                  obtain ⟨A7, c7, rfl, hc7, r7⟩ := O15.rd
                  obtain ⟨n7, hn7⟩ : ∃ n, n = ([0] ++ lc).length := ⟨_, rfl⟩
                  rw [← hn7] at r7 hc7 ⊢
                  have HN7 : Hid (n7 ≤ 27) := hid (by have := HPT2.lc; rw [hn7]; simp; omega)
                  clear hn7 b14 E14 A14 O14 O15 b15
                  refine hK.out _ _ trivial (fun hHeld => ?_)
                  clear hK K
                  try simp only [Act.put, List.setIfInBounds_toArray, List.set_cons_zero, List.set_cons_succ, List.getElem_toArray, List.getElem_cons_zero, List.getElem_cons_succ]
                  refine wpAnyH_ready (rs := [5]) (by kernel_rfl) (by simp) ?_
                  refine AllReadyH.cons rfl (fun K hK => ?_) AllReadyH.nil
                  go_simp
                  go_at_call 75
                  have D7 : D32 ([0] ++ lc) := by
                    intro x hx
                    rcases List.mem_append.1 hx with h | h
                    · simp at h; omega
                    · exact HPT2.dc x h
                  refine (plus_c l12 A7 n7 c7 ([0] ++ lc) (ws.getD 25 0) w15 hl12 d12 r7 D7 HN7.out HX2 (hid (by rw [val_zero_cons, V12.out, HPT2.c]; exact HFF.out.2.1))).mono ?_
                  rintro e w16 ⟨l16, rfl, hl16, d16, v16, b16⟩
                  rw [val_zero_cons, V12.out, HPT2.c] at v16
                  have E16 := E15.up (b16.mono E15.h1)
                  have A16 := A15.below b16
                  dsimp only
                  refine hK.out _ _ trivial (fun hHeld => ?_)
                  clear hK K
                  try simp only [Act.put, List.setIfInBounds_toArray, List.set_cons_zero, List.set_cons_succ, List.getElem_toArray, List.getElem_cons_zero, List.getElem_cons_succ]
                  refine wpAnyH_ready (rs := [6]) (by kernel_rfl) (by simp) ?_
                  refine AllReadyH.cons rfl (fun K hK => ?_) AllReadyH.nil
                  rw [if_pos (by rfl)]
                  obtain ⟨q3, q4⟩ := A16.put hl16 d16
                  refine wp_store_mid 91 (.tmp 9) (.tmp 74) rfl b9 0 (cellsOf64 l16).toArray rfl rfl (by have := A16.blk.there; rw [A16.len] at this; simpa [c27 hl16] using this) (by simpa [c27 hl16] using size27) (all_oneCell_toArray (one64 l16)) ?_
                  rw [show (cellsOf64 l16).toArray.toList = cellsOf64 l16 from rfl]
                  refine hK.out _ _ trivial (fun hHeld => ?_)
                  clear hK K
                  try simp only [Act.put, List.setIfInBounds_toArray, List.set_cons_zero, List.set_cons_succ, List.getElem_toArray, List.getElem_cons_zero, List.getElem_cons_succ]
                  refine wpAnyH_done (by kernel_rfl) ?_ _
                  have E17 := E16.up q4
                  have FS := hid (acc_fold _ (ws.getD 24 0) (ws.getD 25 0) (T24 - M) M _ HCUT.out HPT2.hC HNE.out HPT2.hM)
                  have HR17 : Hid (FoRel w (some ⟨ba, oa, none⟩) B (some ⟨bc, oc, none⟩) la lb lc b9 M (topN la k * Y) (w16.setCells b9 0 (cellsOf64 l16))) := by
                    refine ⟨E17, l16, q3, ?_, ?_⟩
                    · rw [v16]; exact HFF.out.2.2
                    · rw [v16]; exact FS.out.1.trans HMN.out
                  have HMS : Hid (aval (w16.setCells b9 0 (cellsOf64 l16)) b9 < aval wr b9) := by
                    show _ < _
                    rw [q3.aval, HA.out.aval, v16]
                    exact FS.out.2
                  clear q3 q4 E17 E16 A16 v16 d16
                  generalize w16.setCells b9 0 (cellsOf64 l16) = w17 at *
                  go_wp2
                  go_roundw
                  case rel => exact HR17.out
                  case measure => exact HMS.out
                · go_simp
                  refine hK.out _ _ trivial (fun hHeld => ?_)
                  clear hK K
                  try simp only [Act.put, List.setIfInBounds_toArray, List.set_cons_zero, List.set_cons_succ, List.getElem_toArray, List.getElem_cons_zero, List.getElem_cons_succ]
                  refine wpAnyH_ready (rs := [0, 3]) (by kernel_rfl) (by simp) ?_
                  refine AllReadyH.cons rfl (fun K hK => ?_) (AllReadyH.cons rfl (fun K hK => ?_) AllReadyH.nil)
                  · rw [if_pos (by rfl)]
                    refine wp_load_mid 91 (.tmp 9) rfl b9 0 rfl (cellsOf64 l12) _ A14.blk.range Tryd.underlying91 rfl HI12.out ?_
                    refine hK.out _ _ trivial (fun hHeld => ?_)
                    clear hK K
                    try simp only [Act.put, List.setIfInBounds_toArray, List.set_cons_zero, List.set_cons_succ, List.getElem_toArray, List.getElem_cons_zero, List.getElem_cons_succ]
                    refine wpAnyH_ready (rs := [3]) (by kernel_rfl) (by simp) ?_
                    refine AllReadyH.cons rfl (fun K hK => ?_) AllReadyH.nil
                    refine step_append_off (by rfl) (.tmp 70) (.tmp 71) rfl w13.heap.size _ [0] (by simp [Act.eval]) O14 bc oc cc _ lc (E14.c.more E14.h1) (by simp [Act.eval]) (by have := HPT2.lc; simp; omega) (by simp) ?_
                    intro v15 w15 O15 b15
                    have b15' : Below w13.heap.size w13 w15 := b14.trans b15
                    have E15 := E13.out.up (b15'.mono E13.out.h1)
                    have A15 := A13.out.below b15'
                    obtain ⟨A7, c7, rfl, hc7, r7⟩ := O15.rd
                    obtain ⟨n7, hn7⟩ : ∃ n, n = ([0] ++ lc).length := ⟨_, rfl⟩
                    rw [← hn7] at r7 hc7 ⊢
                    have HN7 : Hid (n7 ≤ 27) := hid (by have := HPT2.lc; rw [hn7]; simp; omega)
                    clear hn7 b14 E14 A14 O14 O15 b15
                    refine hK.out _ _ trivial (fun hHeld => ?_)
                    clear hK K
                    try simp only [Act.put, List.setIfInBounds_toArray, List.set_cons_zero, List.set_cons_succ, List.getElem_toArray, List.getElem_cons_zero, List.getElem_cons_succ]
                    refine wpAnyH_ready (rs := [5]) (by kernel_rfl) (by simp) ?_
                    refine AllReadyH.cons rfl (fun K hK => ?_) AllReadyH.nil
                    go_simp
                    go_at_call 75
                    have D7 : D32 ([0] ++ lc) := by
                      intro x hx
                      rcases List.mem_append.1 hx with h | h
                      · simp at h; omega
                      · exact HPT2.dc x h
                    refine (plus_c l12 A7 n7 c7 ([0] ++ lc) (ws.getD 25 0) w15 hl12 d12 r7 D7 HN7.out HX2 (hid (by rw [val_zero_cons, V12.out, HPT2.c]; exact HFF.out.2.1))).mono ?_
                    rintro e w16 ⟨l16, rfl, hl16, d16, v16, b16⟩
                    rw [val_zero_cons, V12.out, HPT2.c] at v16
                    have E16 := E15.up (b16.mono E15.h1)
                    have A16 := A15.below b16
                    dsimp only
                    refine hK.out _ _ trivial (fun hHeld => ?_)
                    clear hK K
                    try simp only [Act.put, List.setIfInBounds_toArray, List.set_cons_zero, List.set_cons_succ, List.getElem_toArray, List.getElem_cons_zero, List.getElem_cons_succ]
                    refine wpAnyH_ready (rs := [6]) (by kernel_rfl) (by simp) ?_
                    refine AllReadyH.cons rfl (fun K hK => ?_) AllReadyH.nil
                    rw [if_pos (by rfl)]
                    obtain ⟨q3, q4⟩ := A16.put hl16 d16
                    refine wp_store_mid 91 (.tmp 9) (.tmp 74) rfl b9 0 (cellsOf64 l16).toArray rfl rfl (by have := A16.blk.there; rw [A16.len] at this; simpa [c27 hl16] using this) (by simpa [c27 hl16] using size27) (all_oneCell_toArray (one64 l16)) ?_
                    rw [show (cellsOf64 l16).toArray.toList = cellsOf64 l16 from rfl]
                    refine hK.out _ _ trivial (fun hHeld => ?_)
                    clear hK K
                    try simp only [Act.put, List.setIfInBounds_toArray, List.set_cons_zero, List.set_cons_succ, List.getElem_toArray, List.getElem_cons_zero, List.getElem_cons_succ]
                    refine wpAnyH_done (by kernel_rfl) ?_ _
                    have E17 := E16.up q4
                    have FS := hid (acc_fold _ (ws.getD 24 0) (ws.getD 25 0) (T24 - M) M _ HCUT.out HPT2.hC HNE.out HPT2.hM)
                    have HR17 : Hid (FoRel w (some ⟨ba, oa, none⟩) B (some ⟨bc, oc, none⟩) la lb lc b9 M (topN la k * Y) (w16.setCells b9 0 (cellsOf64 l16))) := by
                      refine ⟨E17, l16, q3, ?_, ?_⟩
                      · rw [v16]; exact HFF.out.2.2
                      · rw [v16]; exact FS.out.1.trans HMN.out
                    have HMS : Hid (aval (w16.setCells b9 0 (cellsOf64 l16)) b9 < aval wr b9) := by
                      show _ < _
                      rw [q3.aval, HA.out.aval, v16]
                      exact FS.out.2
                    clear q3 q4 E17 E16 A16 v16 d16
                    generalize w16.setCells b9 0 (cellsOf64 l16) = w17 at *
                    go_wp2
                    go_roundw
                    case rel => exact HR17.out
                    case measure => exact HMS.out
                  · refine step_append_off (by rfl) (.tmp 70) (.tmp 71) rfl w13.heap.size _ [0] (by simp [Act.eval]) O14 bc oc cc _ lc (E14.c.more E14.h1) (by simp [Act.eval]) (by have := HPT2.lc; simp; omega) (by simp) ?_
                    intro v15 w15 O15 b15
                    have b15' : Below w13.heap.size w13 w15 := b14.trans b15
                    have E15 := E13.out.up (b15'.mono E13.out.h1)
                    have A15 := A13.out.below b15'
                    obtain ⟨A7, c7, rfl, hc7, r7⟩ := O15.rd
                    obtain ⟨n7, hn7⟩ : ∃ n, n = ([0] ++ lc).length := ⟨_, rfl⟩
                    rw [← hn7] at r7 hc7 ⊢
                    have HN7 : Hid (n7 ≤ 27) := hid (by have := HPT2.lc; rw [hn7]; simp; omega)
                    clear hn7 b14 E14 A14 O14 O15 b15
                    refine hK.out _ _ trivial (fun hHeld => ?_)
                    clear hK K
                    try simp only [Act.put, List.setIfInBounds_toArray, List.set_cons_zero, List.set_cons_succ, List.getElem_toArray, List.getElem_cons_zero, List.getElem_cons_succ]
                    refine wpAnyH_ready (rs := [0]) (by kernel_rfl) (by simp) ?_
                    refine AllReadyH.cons rfl (fun K hK => ?_) AllReadyH.nil
                    rw [if_pos (by rfl)]
                    refine wp_load_mid 91 (.tmp 9) rfl b9 0 rfl (cellsOf64 l12) _ A15.blk.range Tryd.underlying91 rfl HI12.out ?_
                    refine hK.out _ _ trivial (fun hHeld => ?_)
                    clear hK K
                    try simp only [Act.put, List.setIfInBounds_toArray, List.set_cons_zero, List.set_cons_succ, List.getElem_toArray, List.getElem_cons_zero, List.getElem_cons_succ]
                    refine wpAnyH_ready (rs := [5]) (by kernel_rfl) (by simp) ?_
                    refine AllReadyH.cons rfl (fun K hK => ?_) AllReadyH.nil
                    go_simp
                    go_at_call 75
                    have D7 : D32 ([0] ++ lc) := by
                      intro x hx
                      rcases List.mem_append.1 hx with h | h
                      · simp at h; omega
                      · exact HPT2.dc x h
                    refine (plus_c l12 A7 n7 c7 ([0] ++ lc) (ws.getD 25 0) w15 hl12 d12 r7 D7 HN7.out HX2 (hid (by rw [val_zero_cons, V12.out, HPT2.c]; exact HFF.out.2.1))).mono ?_
                    rintro e w16 ⟨l16, rfl, hl16, d16, v16, b16⟩
                    rw [val_zero_cons, V12.out, HPT2.c] at v16
                    have E16 := E15.up (b16.mono E15.h1)
                    have A16 := A15.below b16
                    dsimp only
                    refine hK.out _ _ trivial (fun hHeld => ?_)
                    clear hK K
                    try simp only [Act.put, List.setIfInBounds_toArray, List.set_cons_zero, List.set_cons_succ, List.getElem_toArray, List.getElem_cons_zero, List.getElem_cons_succ]
                    refine wpAnyH_ready (rs := [6]) (by kernel_rfl) (by simp) ?_
                    refine AllReadyH.cons rfl (fun K hK => ?_) AllReadyH.nil
                    rw [if_pos (by rfl)]
                    obtain ⟨q3, q4⟩ := A16.put hl16 d16
                    refine wp_store_mid 91 (.tmp 9) (.tmp 74) rfl b9 0 (cellsOf64 l16).toArray rfl rfl (by have := A16.blk.there; rw [A16.len] at this; simpa [c27 hl16] using this) (by simpa [c27 hl16] using size27) (all_oneCell_toArray (one64 l16)) ?_
                    rw [show (cellsOf64 l16).toArray.toList = cellsOf64 l16 from rfl]
                    refine hK.out _ _ trivial (fun hHeld => ?_)
                    clear hK K
                    try simp only [Act.put, List.setIfInBounds_toArray, List.set_cons_zero, List.set_cons_succ, List.getElem_toArray, List.getElem_cons_zero, List.getElem_cons_succ]
                    refine wpAnyH_done (by kernel_rfl) ?_ _
                    have E17 := E16.up q4
                    have FS := hid (acc_fold _ (ws.getD 24 0) (ws.getD 25 0) (T24 - M) M _ HCUT.out HPT2.hC HNE.out HPT2.hM)
                    have HR17 : Hid (FoRel w (some ⟨ba, oa, none⟩) B (some ⟨bc, oc, none⟩) la lb lc b9 M (topN la k * Y) (w16.setCells b9 0 (cellsOf64 l16))) := by
                      refine ⟨E17, l16, q3, ?_, ?_⟩
                      · rw [v16]; exact HFF.out.2.2
                      · rw [v16]; exact FS.out.1.trans HMN.out
                    have HMS : Hid (aval (w16.setCells b9 0 (cellsOf64 l16)) b9 < aval wr b9) := by
                      show _ < _
                      rw [q3.aval, HA.out.aval, v16]
                      exact FS.out.2
                    clear q3 q4 E17 E16 A16 v16 d16
                    generalize w16.setCells b9 0 (cellsOf64 l16) = w17 at *
                    go_wp2
                    go_roundw
                    case rel => exact HR17.out
                    case measure => exact HMS.out

              · have n24 : (at64 ws 24 != 0) = true := by unfold at64; rw [bne_iff_ne]; intro h; omega
                clear hz h24
                go_wp2_with fail
                go_quiet (fail)
                have A1 := HA.out.drewN nq
                have E1 := HE.out.up (show Below b9 wr (wr.drewN nq) from below_drewN (Below.refl _ _) nq)
                generalize wr.drewN nq = w11 at A1 E1 ⊢
                have f24' := A1.blk.frozen 24
                have c24' := A1.blk.cell (i := 24) (by rw [A1.len]; omega)
                obtain ⟨p1, p2⟩ := A1.set 24 0 0 (by decide) rfl
                have E2 := E1.up p2
                have f25' := p1.blk.frozen 25
                have c25' := p1.blk.cell (i := 25) (by rw [p1.len]; omega)
                obtain ⟨p3, p4⟩ := p1.set 25 0 0 (by decide) rfl
                have E3 := hid (E2.up p4)
                have A3 := hid p3
                have HX1 := getD_lt _ (by decide) ws A1.d 24
                have HX2 := getD_lt _ (by decide) ws A1.d 25
                have HCUT := hid (acc_cut A1.len rfl H26.out)
                have HZL : Hid (val 4294967296 ((ws.set 24 0).set 25 0) < T24) := by
                  refine val_lt24 p3.len p3.d ?_ ?_ ?_
                  · rw [getD_set_ne _ _ _ _ (by omega), getD_set_eq _ _ _ (by rw [A1.len]; omega)]
                  · rw [getD_set_eq _ _ _ (by rw [List.length_set, A1.len]; omega)]
                  · rw [getD_set_ne _ _ _ _ (by omega), getD_set_ne _ _ _ _ (by omega)]; exact H26.out
                have HO3 := hid p3.blk.range
                have HI3 := hid (size27.trans (congrArg some (c27 p3.len).symm))
                clear p1 p2 p3 p4 E1 E2 A1 c24 c25 f24 f25
                go_wp2_with (with_reducible refine wpList_load_mid rfl 91 (.tmp 9) rfl b9 0 rfl (cellsOf64 ((ws.set 24 0).set 25 0)) _ HO3.out Tryd.underlying91 rfl HI3.out ?_)
                have HPT2 := HPT.out
                have HFF := hid (fold_fits (L := val 4294967296 ((ws.set 24 0).set 25 0)) (C := T24 - M) HZL.out HPT2.hC2 HX1 HX2)
                refine (plus_c ((ws.set 24 0).set 25 0) C lc.length cc lc (ws.getD 24 0) _ A3.out.len A3.out.d (E3.out.c.more E3.out.h1) HPT2.dc (by have := HPT2.lc; omega) HX1 (hid (by rw [HPT2.c]; exact HFF.out.1))).mono ?_
                rintro e w12 ⟨l12, rfl, hl12, d12, v12, b12⟩
                rw [HPT2.c] at v12
                have A12 := A3.out.below b12
                have E12 := E3.out.up (b12.mono E3.out.h1)
                obtain ⟨q1, q2⟩ := A12.put hl12 d12
                have hst := store64 b9 l12 w12 (by rw [hl12]; have := A12.blk.there; rw [A12.len] at this; exact this)
                have hlen12 := c27 hl12
                have A13 := hid q1
                have E13 := hid (E12.up q2)
                have V12 := hid v12
                clear q1 q2 A12 E12 b12 v12 A3 E3 HO3 HI3 f24' c24' f25' c25'
                go_wp2_with fail
                generalize w12.setCells b9 0 (cellsOf64 l12) = w13 at *
                clear hst hlen12
                have hlc0 : 0 < lc.length := by
                  rcases Nat.eq_zero_or_pos lc.length with h0 | h0
                  · exfalso
                    have : lc = [] := List.eq_nil_of_length_eq_zero h0
                    have h2 := HPT2.c
                    rw [this] at h2
                    have h3 := HPT2.hC
                    have h4 : M < T24 := by rw [HM.out]; exact m2_lt _
                    simp [val, pv] at h2
                    omega
                  · exact h0
                obtain ⟨bc, oc, rfl, hbc, _⟩ := E13.out.c.cells hlc0
                have HI12 := hid (size27.trans (congrArg some (c27 hl12).symm))
                have E13d := E13.out.up (show Below b9 w13 w13.drew from (Below.refl _ _).drew)
                have A13d : Acc b9 w13.drew l12 := A13.out.drewN 1
                have b14 : Below w13.heap.size w13 (w13.alloc (.cells #[.int .u64 0] 22)).drew := ((Below.refl _ _).alloc (Nat.le_refl _) _).drew
                have E14 := E13.out.up (b14.mono E13.out.h1)
                have A14 := A13.out.below b14
                have O14 : OwnW (w13.alloc (.cells #[.int .u64 0] 22)).drew w13.heap.size (.slice (some ⟨w13.heap.size, 0, none⟩) 1 1) [0] := by
                  have hB := BlkW.new64 w13 22 [0] (by intro x hx; simp at hx; omega)
                  exact (hB.own (by simp)).drew
                refine wp_region_held_drew (S := fun _ => True) (by kernel_rfl) trivial (fun hHeld => ?_)
                refine wpAnyH_take (i := 2) (v := ?_) rfl (by kernel_rfl) (by kernel_rfl) (by kernel_rfl) (fun _ _ _ h => h) (Or.inl ⟨by rfl, fun v hv => ?_⟩) (by with_reducible assumption) ?_
                rotate_left
                · go_simp
                  try with_reducible rfl
                simp only [Act.put, List.setIfInBounds_toArray, List.set_cons_zero, List.set_cons_succ, List.getElem_toArray, List.getElem_cons_zero, List.getElem_cons_succ]
                refine wpAnyH_take (i := 4) (v := ?_) rfl (by kernel_rfl) (by kernel_rfl) (by kernel_rfl) (fun _ _ _ h => h) (Or.inl ⟨by rfl, fun v hv => ?_⟩) (by with_reducible assumption) ?_
                rotate_left
                · go_simp
                  try with_reducible rfl
                simp only [Act.put, List.setIfInBounds_toArray, List.set_cons_zero, List.set_cons_succ, List.getElem_toArray, List.getElem_cons_zero, List.getElem_cons_succ]
                refine wpAnyH_ready (rs := [0, 1]) (by kernel_rfl) (by simp) ?_
                refine AllReadyH.cons rfl (fun K hK => ?_) (AllReadyH.cons rfl (fun K hK => ?_) AllReadyH.nil)
                · rw [if_pos (by rfl)]
                  refine wp_load_mid 91 (.tmp 9) rfl b9 0 rfl (cellsOf64 l12) _ A13d.blk.range Tryd.underlying91 rfl HI12.out ?_
                  refine hK.out _ _ trivial (fun hHeld => ?_)
                  clear hK K
                  try simp only [Act.put, List.setIfInBounds_toArray, List.set_cons_zero, List.set_cons_succ, List.getElem_toArray, List.getElem_cons_zero, List.getElem_cons_succ]
                  refine wpAnyH_ready (rs := [1]) (by kernel_rfl) (by simp) ?_
                  refine AllReadyH.cons rfl (fun K hK => ?_) AllReadyH.nil
                  go_simp
                  refine hK.out _ _ trivial (fun hHeld => ?_)
                  clear hK K
                  try simp only [Act.put, List.setIfInBounds_toArray, List.set_cons_zero, List.set_cons_succ, List.getElem_toArray, List.getElem_cons_zero, List.getElem_cons_succ]
                  refine wpAnyH_ready (rs := [3]) (by kernel_rfl) (by simp) ?_
                  refine AllReadyH.cons rfl (fun K hK => ?_) AllReadyH.nil
                  refine step_append_off (by rfl) (.tmp 70) (.tmp 71) rfl w13.heap.size _ [0] (by simp [Act.eval]) O14 bc oc cc _ lc (E14.c.more E14.h1) (by simp [Act.eval]) (by have := HPT2.lc; simp; omega) (by simp) ?_
                  intro v15 w15 O15 b15
                  have b15' : Below w13.heap.size w13 w15 := b14.trans b15
                  have E15 := E13.out.up (b15'.mono E13.out.h1)
                  have A15 := A13.out.below b15'
                  obtain ⟨A7, c7, rfl, hc7, r7⟩ := O15.rd
                  obtain ⟨n7, hn7⟩ : ∃ n, n = ([0] ++ lc).length := ⟨_, rfl⟩
                  rw [← hn7] at r7 hc7 ⊢
                  have HN7 : Hid (n7 ≤ 27) := hid (by have := HPT2.lc; rw [hn7]; simp; omega)
                  clear hn7 b14 E14 A14 O14 O15 b15
                  refine hK.out _ _ trivial (fun hHeld => ?_)
                  clear hK K
                  try simp only [Act.put, List.setIfInBounds_toArray, List.set_cons_zero, List.set_cons_succ, List.getElem_toArray, List.getElem_cons_zero, List.getElem_cons_succ]
                  refine wpAnyH_ready (rs := [5]) (by kernel_rfl) (by simp) ?_
                  refine AllReadyH.cons rfl (fun K hK => ?_) AllReadyH.nil
                  go_simp
                  go_at_call 75
                  have D7 : D32 ([0] ++ lc) := by
                    intro x hx
                    rcases List.mem_append.1 hx with h | h
                    · simp at h; omega
                    · exact HPT2.dc x h
                  refine (plus_c l12 A7 n7 c7 ([0] ++ lc) (ws.getD 25 0) w15 hl12 d12 r7 D7 HN7.out HX2 (hid (by rw [val_zero_cons, V12.out, HPT2.c]; exact HFF.out.2.1))).mono ?_
                  rintro e w16 ⟨l16, rfl, hl16, d16, v16, b16⟩
                  rw [val_zero_cons, V12.out, HPT2.c] at v16
                  have E16 := E15.up (b16.mono E15.h1)
                  have A16 := A15.below b16
                  dsimp only
                  refine hK.out _ _ trivial (fun hHeld => ?_)
                  clear hK K
                  try simp only [Act.put, List.setIfInBounds_toArray, List.set_cons_zero, List.set_cons_succ, List.getElem_toArray, List.getElem_cons_zero, List.getElem_cons_succ]
                  refine wpAnyH_ready (rs := [6]) (by kernel_rfl) (by simp) ?_
                  refine AllReadyH.cons rfl (fun K hK => ?_) AllReadyH.nil
                  rw [if_pos (by rfl)]
                  obtain ⟨q3, q4⟩ := A16.put hl16 d16
                  refine wp_store_mid 91 (.tmp 9) (.tmp 74) rfl b9 0 (cellsOf64 l16).toArray rfl rfl (by have := A16.blk.there; rw [A16.len] at this; simpa [c27 hl16] using this) (by simpa [c27 hl16] using size27) (all_oneCell_toArray (one64 l16)) ?_
                  rw [show (cellsOf64 l16).toArray.toList = cellsOf64 l16 from rfl]
                  refine hK.out _ _ trivial (fun hHeld => ?_)
                  clear hK K
                  try simp only [Act.put, List.setIfInBounds_toArray, List.set_cons_zero, List.set_cons_succ, List.getElem_toArray, List.getElem_cons_zero, List.getElem_cons_succ]
                  refine wpAnyH_done (by kernel_rfl) ?_ _
                  have E17 := E16.up q4
                  have FS := hid (acc_fold _ (ws.getD 24 0) (ws.getD 25 0) (T24 - M) M _ HCUT.out HPT2.hC HNE.out HPT2.hM)
                  have HR17 : Hid (FoRel w (some ⟨ba, oa, none⟩) B (some ⟨bc, oc, none⟩) la lb lc b9 M (topN la k * Y) (w16.setCells b9 0 (cellsOf64 l16))) := by
                    refine ⟨E17, l16, q3, ?_, ?_⟩
                    · rw [v16]; exact HFF.out.2.2
                    · rw [v16]; exact FS.out.1.trans HMN.out
                  have HMS : Hid (aval (w16.setCells b9 0 (cellsOf64 l16)) b9 < aval wr b9) := by
                    show _ < _
                    rw [q3.aval, HA.out.aval, v16]
                    exact FS.out.2
                  clear q3 q4 E17 E16 A16 v16 d16
                  generalize w16.setCells b9 0 (cellsOf64 l16) = w17 at *
                  go_wp2
                  go_roundw
                  case rel => exact HR17.out
                  case measure => exact HMS.out
                · go_simp
                  refine hK.out _ _ trivial (fun hHeld => ?_)
                  clear hK K
                  try simp only [Act.put, List.setIfInBounds_toArray, List.set_cons_zero, List.set_cons_succ, List.getElem_toArray, List.getElem_cons_zero, List.getElem_cons_succ]
                  refine wpAnyH_ready (rs := [0, 3]) (by kernel_rfl) (by simp) ?_
                  refine AllReadyH.cons rfl (fun K hK => ?_) (AllReadyH.cons rfl (fun K hK => ?_) AllReadyH.nil)
                  · rw [if_pos (by rfl)]
                    refine wp_load_mid 91 (.tmp 9) rfl b9 0 rfl (cellsOf64 l12) _ A14.blk.range Tryd.underlying91 rfl HI12.out ?_
                    refine hK.out _ _ trivial (fun hHeld => ?_)
                    clear hK K
                    try simp only [Act.put, List.setIfInBounds_toArray, List.set_cons_zero, List.set_cons_succ, List.getElem_toArray, List.getElem_cons_zero, List.getElem_cons_succ]
                    refine wpAnyH_ready (rs := [3]) (by kernel_rfl) (by simp) ?_
                    refine AllReadyH.cons rfl (fun K hK => ?_) AllReadyH.nil
                    refine step_append_off (by rfl) (.tmp 70) (.tmp 71) rfl w13.heap.size _ [0] (by simp [Act.eval]) O14 bc oc cc _ lc (E14.c.more E14.h1) (by simp [Act.eval]) (by have := HPT2.lc; simp; omega) (by simp) ?_
                    intro v15 w15 O15 b15
                    have b15' : Below w13.heap.size w13 w15 := b14.trans b15
                    have E15 := E13.out.up (b15'.mono E13.out.h1)
                    have A15 := A13.out.below b15'
                    obtain ⟨A7, c7, rfl, hc7, r7⟩ := O15.rd
                    obtain ⟨n7, hn7⟩ : ∃ n, n = ([0] ++ lc).length := ⟨_, rfl⟩
                    rw [← hn7] at r7 hc7 ⊢
                    have HN7 : Hid (n7 ≤ 27) := hid (by have := HPT2.lc; rw [hn7]; simp; omega)
                    clear hn7 b14 E14 A14 O14 O15 b15
                    refine hK.out _ _ trivial (fun hHeld => ?_)
                    clear hK K
                    try simp only [Act.put, List.setIfInBounds_toArray, List.set_cons_zero, List.set_cons_succ, List.getElem_toArray, List.getElem_cons_zero, List.getElem_cons_succ]
                    refine wpAnyH_ready (rs := [5]) (by kernel_rfl) (by simp) ?_
                    refine AllReadyH.cons rfl (fun K hK => ?_) AllReadyH.nil
                    go_simp
                    go_at_call 75
                    have D7 : D32 ([0] ++ lc) := by
                      intro x hx
                      rcases List.mem_append.1 hx with h | h
                      · simp at h; omega
                      · exact HPT2.dc x h
                    refine (plus_c l12 A7 n7 c7 ([0] ++ lc) (ws.getD 25 0) w15 hl12 d12 r7 D7 HN7.out HX2 (hid (by rw [val_zero_cons, V12.out, HPT2.c]; exact HFF.out.2.1))).mono ?_
                    rintro e w16 ⟨l16, rfl, hl16, d16, v16, b16⟩
                    rw [val_zero_cons, V12.out, HPT2.c] at v16
                    have E16 := E15.up (b16.mono E15.h1)
                    have A16 := A15.below b16
                    dsimp only
                    refine hK.out _ _ trivial (fun hHeld => ?_)
                    clear hK K
                    try simp only [Act.put, List.setIfInBounds_toArray, List.set_cons_zero, List.set_cons_succ, List.getElem_toArray, List.getElem_cons_zero, List.getElem_cons_succ]
                    refine wpAnyH_ready (rs := [6]) (by kernel_rfl) (by simp) ?_
                    refine AllReadyH.cons rfl (fun K hK => ?_) AllReadyH.nil
                    rw [if_pos (by rfl)]
                    obtain ⟨q3, q4⟩ := A16.put hl16 d16
                    refine wp_store_mid 91 (.tmp 9) (.tmp 74) rfl b9 0 (cellsOf64 l16).toArray rfl rfl (by have := A16.blk.there; rw [A16.len] at this; simpa [c27 hl16] using this) (by simpa [c27 hl16] using size27) (all_oneCell_toArray (one64 l16)) ?_
                    rw [show (cellsOf64 l16).toArray.toList = cellsOf64 l16 from rfl]
                    refine hK.out _ _ trivial (fun hHeld => ?_)
                    clear hK K
                    try simp only [Act.put, List.setIfInBounds_toArray, List.set_cons_zero, List.set_cons_succ, List.getElem_toArray, List.getElem_cons_zero, List.getElem_cons_succ]
                    refine wpAnyH_done (by kernel_rfl) ?_ _
                    have E17 := E16.up q4
                    have FS := hid (acc_fold _ (ws.getD 24 0) (ws.getD 25 0) (T24 - M) M _ HCUT.out HPT2.hC HNE.out HPT2.hM)
                    have HR17 : Hid (FoRel w (some ⟨ba, oa, none⟩) B (some ⟨bc, oc, none⟩) la lb lc b9 M (topN la k * Y) (w16.setCells b9 0 (cellsOf64 l16))) := by
                      refine ⟨E17, l16, q3, ?_, ?_⟩
                      · rw [v16]; exact HFF.out.2.2
                      · rw [v16]; exact FS.out.1.trans HMN.out
                    have HMS : Hid (aval (w16.setCells b9 0 (cellsOf64 l16)) b9 < aval wr b9) := by
                      show _ < _
                      rw [q3.aval, HA.out.aval, v16]
                      exact FS.out.2
                    clear q3 q4 E17 E16 A16 v16 d16
                    generalize w16.setCells b9 0 (cellsOf64 l16) = w17 at *
                    go_wp2
                    go_roundw
                    case rel => exact HR17.out
                    case measure => exact HMS.out
                  · refine step_append_off (by rfl) (.tmp 70) (.tmp 71) rfl w13.heap.size _ [0] (by simp [Act.eval]) O14 bc oc cc _ lc (E14.c.more E14.h1) (by simp [Act.eval]) (by have := HPT2.lc; simp; omega) (by simp) ?_
                    intro v15 w15 O15 b15
                    have b15' : Below w13.heap.size w13 w15 := b14.trans b15
                    have E15 := E13.out.up (b15'.mono E13.out.h1)
                    have A15 := A13.out.below b15'
                    obtain ⟨A7, c7, rfl, hc7, r7⟩ := O15.rd
                    obtain ⟨n7, hn7⟩ : ∃ n, n = ([0] ++ lc).length := ⟨_, rfl⟩
                    rw [← hn7] at r7 hc7 ⊢
                    have HN7 : Hid (n7 ≤ 27) := hid (by have := HPT2.lc; rw [hn7]; simp; omega)
                    clear hn7 b14 E14 A14 O14 O15 b15
                    refine hK.out _ _ trivial (fun hHeld => ?_)
                    clear hK K
                    try simp only [Act.put, List.setIfInBounds_toArray, List.set_cons_zero, List.set_cons_succ, List.getElem_toArray, List.getElem_cons_zero, List.getElem_cons_succ]
                    refine wpAnyH_ready (rs := [0]) (by kernel_rfl) (by simp) ?_
                    refine AllReadyH.cons rfl (fun K hK => ?_) AllReadyH.nil
                    rw [if_pos (by rfl)]
                    refine wp_load_mid 91 (.tmp 9) rfl b9 0 rfl (cellsOf64 l12) _ A15.blk.range Tryd.underlying91 rfl HI12.out ?_
                    refine hK.out _ _ trivial (fun hHeld => ?_)
                    clear hK K
                    try simp only [Act.put, List.setIfInBounds_toArray, List.set_cons_zero, List.set_cons_succ, List.getElem_toArray, List.getElem_cons_zero, List.getElem_cons_succ]
                    refine wpAnyH_ready (rs := [5]) (by kernel_rfl) (by simp) ?_
                    refine AllReadyH.cons rfl (fun K hK => ?_) AllReadyH.nil
                    go_simp
                    go_at_call 75
                    have D7 : D32 ([0] ++ lc) := by
                      intro x hx
                      rcases List.mem_append.1 hx with h | h
                      · simp at h; omega
                      · exact HPT2.dc x h
                    refine (plus_c l12 A7 n7 c7 ([0] ++ lc) (ws.getD 25 0) w15 hl12 d12 r7 D7 HN7.out HX2 (hid (by rw [val_zero_cons, V12.out, HPT2.c]; exact HFF.out.2.1))).mono ?_
                    rintro e w16 ⟨l16, rfl, hl16, d16, v16, b16⟩
                    rw [val_zero_cons, V12.out, HPT2.c] at v16
                    have E16 := E15.up (b16.mono E15.h1)
                    have A16 := A15.below b16
                    dsimp only
                    refine hK.out _ _ trivial (fun hHeld => ?_)
                    clear hK K
                    try simp only [Act.put, List.setIfInBounds_toArray, List.set_cons_zero, List.set_cons_succ, List.getElem_toArray, List.getElem_cons_zero, List.getElem_cons_succ]
                    refine wpAnyH_ready (rs := [6]) (by kernel_rfl) (by simp) ?_
                    refine AllReadyH.cons rfl (fun K hK => ?_) AllReadyH.nil
                    rw [if_pos (by rfl)]
                    obtain ⟨q3, q4⟩ := A16.put hl16 d16
                    refine wp_store_mid 91 (.tmp 9) (.tmp 74) rfl b9 0 (cellsOf64 l16).toArray rfl rfl (by have := A16.blk.there; rw [A16.len] at this; simpa [c27 hl16] using this) (by simpa [c27 hl16] using size27) (all_oneCell_toArray (one64 l16)) ?_
                    rw [show (cellsOf64 l16).toArray.toList = cellsOf64 l16 from rfl]
                    refine hK.out _ _ trivial (fun hHeld => ?_)
                    clear hK K
                    try simp only [Act.put, List.setIfInBounds_toArray, List.set_cons_zero, List.set_cons_succ, List.getElem_toArray, List.getElem_cons_zero, List.getElem_cons_succ]
                    refine wpAnyH_done (by kernel_rfl) ?_ _
                    have E17 := E16.up q4
                    have FS := hid (acc_fold _ (ws.getD 24 0) (ws.getD 25 0) (T24 - M) M _ HCUT.out HPT2.hC HNE.out HPT2.hM)
                    have HR17 : Hid (FoRel w (some ⟨ba, oa, none⟩) B (some ⟨bc, oc, none⟩) la lb lc b9 M (topN la k * Y) (w16.setCells b9 0 (cellsOf64 l16))) := by
                      refine ⟨E17, l16, q3, ?_, ?_⟩
                      · rw [v16]; exact HFF.out.2.2
                      · rw [v16]; exact FS.out.1.trans HMN.out
                    have HMS : Hid (aval (w16.setCells b9 0 (cellsOf64 l16)) b9 < aval wr b9) := by
                      show _ < _
                      rw [q3.aval, HA.out.aval, v16]
                      exact FS.out.2
                    clear q3 q4 E17 E16 A16 v16 d16
                    generalize w16.setCells b9 0 (cellsOf64 l16) = w17 at *
                    go_wp2
                    go_roundw
                    case rel => exact HR17.out
                    case measure => exact HMS.out

        · have e1 : ((m + 1 : Nat) : Int) = (m : Int) + 1 := by omega
          rw [e1]
          clear e1
          have c0 := hA.blk.cell (i := m) (by rw [hA.len]; omega)
          have c1 := hA.blk.cell (i := m + 1) (by rw [hA.len]; omega)
          have f0 := hA.blk.frozen (m + 1)
          have i0 : (0 : Int) ≤ (m : Int) := by omega
          have i1 : (m : Int) < 27 := by omega
          have i2 : (m : Int) + 1 < 27 := by omega
          have i3 : (0 : Int) ≤ (m : Int) + 1 := by omega
          have i4 : ((m : Int) + 1).toNat = m + 1 := by omega
          have i5 : (1 : Int) ≤ (m : Int) + 1 := by omega
          have g0 : ws.getD m 0 = w0.getD m 0 := by rw [hj m, if_neg (by omega)]
          have hx := getD_lt _ (by decide) ws hA.d m
          have HJ := hid hj
          have HG := hid g0
          clear hj g0
          go_wp2
          go_roundw
          case rel =>
            obtain ⟨p1, p2⟩ := hA.set (m + 1) (ws.getD m 0) (at64 ws m) hx rfl
            refine ⟨m, by omega, by go_num, hE.up p2, _, p1, fun j => ?_⟩
            by_cases hjm : j = m + 1
            · subst hjm
              rw [getD_set_eq _ _ _ (by rw [hA.len]; omega), if_pos (by omega), HG.out]
              rfl
            · rw [getD_set_ne _ _ _ _ (by omega), HJ.out j]
              by_cases hc : m + 1 < j ∧ j ≤ 26
              · rw [if_pos hc, if_pos (by omega)]
              · rw [if_neg hc, if_neg (by omega)]
          case measure => simp [intOf]
theorem times_c (g : Bool) (u v : Value) (X Y : Nat) (w : World) (hu : Dg w u X) (hv : Dg w v Y) (hY : Y < T24) :
    Calls Tryd.prog 41 #[.bool g, u, v] w fun e w' => ∃ r, e = .returned r ∧ Dg w' r (X * Y % mOf g) ∧ Below w.heap.size w w' := by
  cases g
  · exact times_false u v X Y w hu hv hY
  · exact times_true u v X Y w hu hv hY
end Go.Proofs.YtfonpmahcdmajaaDoor
