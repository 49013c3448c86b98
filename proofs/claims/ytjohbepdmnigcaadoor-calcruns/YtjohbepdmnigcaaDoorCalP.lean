/-
  avouchref03.Do and avouchref03.Run: what the calls do.
-/
import Derived.Test.YtjohbepdmnigcaaDoorCalO
namespace Go.Proofs.YtjohbepdmnigcaaDoor
open Go.RowKit
set_option linter.unusedVariables false

theorem stepE_few (k N : Nat) (xs : List Nat) (hk : k ≤ 10) (h : xs.length < needN k N) : stepE (k : Int) N xs = 13 := by
  unfold stepE
  rw [if_neg (by omega), show Int.toNat (k : Int) = k from rfl, if_pos h]
theorem stepE_full (k N : Nat) (xs : List Nat) (hk : k ≤ 10) (h1 : needN k N ≤ xs.length) (h2 : 64 < (act k N xs).length) : stepE (k : Int) N xs = 9 := by
  unfold stepE
  rw [if_neg (by omega), show Int.toNat (k : Int) = k from rfl, if_neg (by omega), if_pos h2]
theorem stepE_fine (k N : Nat) (xs : List Nat) (hk : k ≤ 10) (h1 : needN k N ≤ xs.length) (h2 : (act k N xs).length ≤ 64) : stepE (k : Int) N xs = 0 := by
  unfold stepE
  rw [if_neg (by omega), show Int.toNat (k : Int) = k from rfl, if_neg (by omega), if_neg (by omega)]

set_option maxRecDepth 20000 in
theorem do_bad (op : Int) (v : Value) (N : Nat) (w : World) (h : op < 0 ∨ 10 < op) :
    Calls Tryd.prog 20 #[v, .agg #[.int .i64 op, .int .u64 (N : Int)]] w fun e w' => ∃ r, e = .returned (.tuple #[r, .int .i64 5]) ∧ Below w.heap.size w w' := by
  have hd : decide (op < 0) = true ∨ (decide (op < 0) = false ∧ decide (10 < op) = true) := by
    by_cases h0 : op < 0
    · exact Or.inl (decide_eq_true h0)
    · exact Or.inr ⟨decide_eq_false h0, decide_eq_true (by omega)⟩
  have b0 : Below w.heap.size w (w.alloc (.cells #[.int .i64 op, .int .u64 (N : Int)] 59)) := (Below.refl _ _).alloc (Nat.le_refl _) _
  have B := hid b0
  clear h b0
  rcases hd with d1 | ⟨d1, d2⟩
  all_goals
    go_enter Tryd.func20, Tryd.ntmps20
    go_wp2
    go_ret2
    exact ⟨_, rfl, B.out⟩
/-- What Do answers. -/
def DoP (op : Int) (N : Nat) (Xs : List Nat) (w : World) (e : Ending) (w' : World) : Prop := ∃ r, e = .returned (.tuple #[r, .int .i64 ((stepE op N Xs : Nat) : Int)]) ∧ (stepE op N Xs = 0 → Digs w' r (act op.toNat N Xs)) ∧ Below w.heap.size w w'
theorem do_er {op : Int} {v : Value} {N : Nat} {Xs : List Nat} {w : World} (er : Nat) (hs : stepE op N Xs = er) (h0 : er ≠ 0)
    (h : Calls Tryd.prog 20 #[v, .agg #[.int .i64 op, .int .u64 (N : Int)]] w fun e w' => ∃ r, e = .returned (.tuple #[r, .int .i64 (er : Int)]) ∧ Below w.heap.size w w') :
    Calls Tryd.prog 20 #[v, .agg #[.int .i64 op, .int .u64 (N : Int)]] w (DoP op N Xs w) := by
  refine h.mono ?_
  rintro e w' ⟨r, h1, h2⟩
  exact ⟨r, by rw [hs]; exact h1, fun h => absurd (hs.symm.trans h) h0, h2⟩
theorem do_ok {op : Int} {v : Value} {N : Nat} {Xs : List Nat} {w : World} (hs : stepE op N Xs = 0)
    (h : Calls Tryd.prog 20 #[v, .agg #[.int .i64 op, .int .u64 (N : Int)]] w fun e w' => ∃ r, e = .returned (.tuple #[r, .int .i64 0]) ∧ Digs w' r (act op.toNat N Xs) ∧ Below w.heap.size w w') :
    Calls Tryd.prog 20 #[v, .agg #[.int .i64 op, .int .u64 (N : Int)]] w (DoP op N Xs w) := by
  refine h.mono ?_
  rintro e w' ⟨r, h1, h2, h3⟩
  exact ⟨r, by rw [hs]; exact h1, fun _ => h2, h3⟩
theorem do_c (op : Int) (v : Value) (N : Nat) (Xs : List Nat) (w : World) (hD : Digs w v Xs) (hp : ∀ x ∈ Xs, x < pN) (hl : Xs.length ≤ 64) (hN : N < 18446744073709551616) :
    Calls Tryd.prog 20 #[v, .agg #[.int .i64 op, .int .u64 (N : Int)]] w (DoP op N Xs w) := by
  by_cases hop : op < 0 ∨ 10 < op
  · exact do_er 5 (by unfold stepE; exact if_pos hop) (by decide) (do_bad op v N w hop)
  · obtain ⟨k, hk⟩ : ∃ k : Nat, op = (k : Int) := ⟨op.toNat, by omega⟩
    subst hk
    have hk : k < 11 := by omega
    match k, hk with
    | 0, _ =>
      by_cases h2 : Xs.length < 64
      · exact do_ok (stepE_fine 0 N Xs (by decide) (by simp [needN, needT]) (by simp [act]; omega)) (do0_ok v N Xs w hD hp hl hN (Nat.zero_le _) h2)
      · exact do_er 9 (stepE_full 0 N Xs (by decide) (by simp [needN, needT]) (by simp [act]; omega)) (by decide) (do0_full v N Xs w hD hp hl hN (by omega))
    | 1, _ =>
      have hn : needN 1 N = 2 := by unfold needN; rw [if_neg (by decide)]; rfl
      by_cases h1 : Xs.length < 2
      · exact do_er 13 (stepE_few 1 N Xs (by decide) (by rw [hn]; exact h1)) (by decide) (do1_few v N Xs w hD hp hl hN h1)
      · exact do_ok (stepE_fine 1 N Xs (by decide) (by rw [hn]; omega) (by simp [act, joinL]; omega)) (do1_ok v N Xs w hD hp hl hN (by omega))
    | 2, _ =>
      have hn : needN 2 N = 2 := by unfold needN; rw [if_neg (by decide)]; rfl
      by_cases h1 : Xs.length < 2
      · exact do_er 13 (stepE_few 2 N Xs (by decide) (by rw [hn]; exact h1)) (by decide) (do2_few v N Xs w hD hp hl hN h1)
      · exact do_ok (stepE_fine 2 N Xs (by decide) (by rw [hn]; omega) (by simp [act, joinL]; omega)) (do2_ok v N Xs w hD hp hl hN (by omega))
    | 3, _ =>
      have hn : needN 3 N = 2 := by unfold needN; rw [if_neg (by decide)]; rfl
      by_cases h1 : Xs.length < 2
      · exact do_er 13 (stepE_few 3 N Xs (by decide) (by rw [hn]; exact h1)) (by decide) (do3_few v N Xs w hD hp hl hN h1)
      · exact do_ok (stepE_fine 3 N Xs (by decide) (by rw [hn]; omega) (by simp [act, joinL]; omega)) (do3_ok v N Xs w hD hp hl hN (by omega))
    | 4, _ =>
      have hn : needN 4 N = 1 := by unfold needN; rw [if_neg (by decide)]; rfl
      by_cases h1 : Xs.length < 1
      · exact do_er 13 (stepE_few 4 N Xs (by decide) (by rw [hn]; exact h1)) (by decide) (do4_few v N Xs w hD hp hl hN h1)
      · exact do_ok (stepE_fine 4 N Xs (by decide) (by rw [hn]; omega) (by simp [act, turnL]; omega)) (do4_ok v N Xs w hD hp hl hN (by omega))
    | 5, _ =>
      have hn : needN 5 N = 1 := by unfold needN; rw [if_neg (by decide)]; rfl
      by_cases h1 : Xs.length < 1
      · exact do_er 13 (stepE_few 5 N Xs (by decide) (by rw [hn]; exact h1)) (by decide) (do5_few v N Xs w hD hp hl hN h1)
      · exact do_ok (stepE_fine 5 N Xs (by decide) (by rw [hn]; omega) (by simp [act, turnL]; omega)) (do5_ok v N Xs w hD hp hl hN (by omega))
    | 6, _ =>
      have hn : needN 6 N = 1 := by unfold needN; rw [if_neg (by decide)]; rfl
      by_cases h1 : Xs.length < 1
      · exact do_er 13 (stepE_few 6 N Xs (by decide) (by rw [hn]; exact h1)) (by decide) (do6_few v N Xs w hD hp hl hN h1)
      · exact do_ok (stepE_fine 6 N Xs (by decide) (by rw [hn]; omega) (by simp [act, turnL]; omega)) (do6_ok v N Xs w hD hp hl hN (by omega))
    | 7, _ =>
      have hn : needN 7 N = N + 1 := by unfold needN; rw [if_pos rfl]
      by_cases h1 : Xs.length < N + 1
      · exact do_er 13 (stepE_few 7 N Xs (by decide) (by rw [hn]; exact h1)) (by decide) (do7_few v N Xs w hD hp hl hN h1)
      · by_cases h2 : Xs.length < 64
        · exact do_ok (stepE_fine 7 N Xs (by decide) (by rw [hn]; omega) (by simp [act]; omega)) (do7_ok v N Xs w hD hp hl hN (by omega) h2)
        · exact do_er 9 (stepE_full 7 N Xs (by decide) (by rw [hn]; omega) (by simp [act]; omega)) (by decide) (do7_full v N Xs w hD hp hl hN (by omega) (by omega))
    | 8, _ =>
      have hn : needN 8 N = 2 := by unfold needN; rw [if_neg (by decide)]; rfl
      by_cases h1 : Xs.length < 2
      · exact do_er 13 (stepE_few 8 N Xs (by decide) (by rw [hn]; exact h1)) (by decide) (do8_few v N Xs w hD hp hl hN h1)
      · exact do_ok (stepE_fine 8 N Xs (by decide) (by rw [hn]; omega) (by simp [act, swapL]; omega)) (do8_ok v N Xs w hD hp hl hN (by omega))
    | 9, _ =>
      have hn : needN 9 N = 1 := by unfold needN; rw [if_neg (by decide)]; rfl
      by_cases h1 : Xs.length < 1
      · exact do_er 13 (stepE_few 9 N Xs (by decide) (by rw [hn]; exact h1)) (by decide) (do9_few v N Xs w hD hp hl hN h1)
      · exact do_ok (stepE_fine 9 N Xs (by decide) (by rw [hn]; omega) (by simp [act]; omega)) (do9_ok v N Xs w hD hp hl hN (by omega))
    | 10, _ =>
      have hn : needN 10 N = 2 := by unfold needN; rw [if_neg (by decide)]; rfl
      by_cases h1 : Xs.length < 2
      · exact do_er 13 (stepE_few 10 N Xs (by decide) (by rw [hn]; exact h1)) (by decide) (do10_few v N Xs w hD hp hl hN h1)
      · exact do_ok (stepE_fine 10 N Xs (by decide) (by rw [hn]; omega) (by simp [act, joinL]; omega)) (do10_ok v N Xs w hD hp hl hN (by omega))

theorem getD_ltp (xs : List Nat) (hp : ∀ x ∈ xs, x < pN) (i : Nat) : xs.getD i 0 < pN := by
  rw [List.getD_eq_getElem?_getD]
  by_cases h : i < xs.length
  · rw [List.getElem?_eq_getElem h]
    exact hp _ (List.getElem_mem h)
  · rw [List.getElem?_eq_none (by omega)]
    exact pN_pos
theorem take_ltp {xs : List Nat} (hp : ∀ x ∈ xs, x < pN) (n : Nat) {z : List Nat} (hz : ∀ x ∈ z, x < pN) : ∀ x ∈ xs.take n ++ z, x < pN := by
  intro x hx
  rcases List.mem_append.1 hx with h | h
  · exact hp x (List.mem_of_mem_take h)
  · exact hz x h
theorem one_ltp {z : Nat} (h : z < pN) : ∀ x ∈ [z], x < pN := by
  intro x hx
  rw [List.mem_singleton.1 hx]
  exact h
theorem act_ltp (k N : Nat) (xs : List Nat) (hk : k < 11) (hN : N < pN) (hp : ∀ x ∈ xs, x < pN) : ∀ x ∈ act k N xs, x < pN := by
  have hm : ∀ z, z % pN < pN := fun z => Nat.mod_lt _ pN_pos
  have hall : ∀ z, z < pN → ∀ x ∈ xs ++ [z], x < pN := fun z hz x hx => by
    rcases List.mem_append.1 hx with h | h
    · exact hp x h
    · exact one_ltp hz x h
  match k, hk with
  | 0, _ => exact hall N hN
  | 1, _ => exact take_ltp hp _ (one_ltp (hm _))
  | 2, _ => exact take_ltp hp _ (one_ltp (hm _))
  | 3, _ => exact take_ltp hp _ (one_ltp (hm _))
  | 4, _ => exact take_ltp hp _ (one_ltp (hm _))
  | 5, _ => exact take_ltp hp _ (one_ltp (hm _))
  | 6, _ => exact take_ltp hp _ (one_ltp (hm _))
  | 7, _ => exact hall _ (getD_ltp xs hp _)
  | 8, _ =>
    refine take_ltp hp _ (fun x hx => ?_)
    rcases List.mem_cons.1 hx with h | h
    · rw [h]; exact getD_ltp xs hp _
    · exact one_ltp (getD_ltp xs hp _) x h
  | 9, _ => exact fun x hx => hp x (List.mem_of_mem_take hx)
  | 10, _ =>
    refine take_ltp hp _ (one_ltp ?_)
    unfold samF
    split
    · decide
    · exact pN_pos

structure RefR (w0 : World) (st : List St) (xs0 : List Nat) (wr : World) (k : Nat) (v : Value) (xs : List Nat) : Prop where
  d : Digs wr v xs
  p : ∀ x ∈ xs, x < pN
  bl : Below w0.heap.size w0 wr
  le : xs.length ≤ 64
  eq : runL st 0 xs0 = runL (st.drop k) k xs

set_option maxRecDepth 20000 in
set_option maxHeartbeats 4000000 in
theorem refRun_c (A : Option Addr) (n c : Nat) (v2 : Value) (st : List St) (xs0 : List Nat) (w : World) (hS : RdS w w.heap.size A n st) (hn : n ≤ 100000) (hD : Digs w v2 xs0) (hp : ∀ x ∈ xs0, x < pN) (hl : xs0.length ≤ 1000)
    (ys : List Nat) (pl : Int) (er : Nat) (hA : runA st xs0 = (ys, pl, er)) :
    Calls Tryd.prog 11 #[.slice A n c, v2] w fun e w' => ∃ v, e = .returned (.tuple #[v, .int .i64 pl, .int .i64 (er : Int)]) ∧ Digs w' v ys ∧ (∀ y ∈ ys, y < pN) ∧ Below w.heap.size w w' := by
  obtain ⟨A2, c2, hv, hc2, hm2, -⟩ := hD.ex
  have HA := hid hA
  obtain ⟨n2, hn2⟩ : ∃ n, n = xs0.length := ⟨_, rfl⟩
  rw [← hn2] at hv hc2 hl
  have HL := hid hn2
  clear hA hn2
  subst hv
  by_cases h64 : 64 < n2
  · have e := HA.out
    unfold runA at e
    rw [if_pos (by rw [← HL.out]; exact h64)] at e
    simp only [Prod.mk.injEq] at e
    obtain ⟨rfl, rfl, rfl⟩ := e
    clear hS hD HA HL hp
    go_enter Tryd.func11, Tryd.ntmps11
    go_wp2
    go_ret3
    exact ⟨_, rfl, Digs.nil _, fun y hy => by simp at hy, Below.refl _ _⟩
  · have e := HA.out
    unfold runA at e
    rw [if_neg (by rw [← HL.out]; exact h64)] at e
    have HE := hid e
    have hRel : RefR w st xs0 w 0 (.slice A2 n2 c2) xs0 := ⟨hD, hp, Below.refl _ _, by rw [← HL.out]; omega, rfl⟩
    clear e HA hD hp HL hc2
    go_enter Tryd.func11, Tryd.ntmps11
    go_wp2
    go_loopw [1, 7] (fun p i wr => ∃ (k : Nat) (xs : List Nat), k ≤ n ∧ i = .int .i64 k ∧ RefR w st xs0 wr k p xs) (fun _ i _ => n - (intOf i).toNat)
    case atStart => exact ⟨0, xs0, by omega, rfl, hRel⟩
    case round =>
      obtain ⟨k, xs, hk, rfl, hrel⟩ := hrel
      by_cases hlt : k < n
      · obtain ⟨sb, off, rfl, hsb, hc⟩ := hS.cells (by omega)
        obtain ⟨d0, d1⟩ := hc k hlt
        obtain ⟨⟨op, N⟩, hs⟩ : ∃ s, s = st.getD k (0, 0) := ⟨_, rfl⟩
        have hN : N < 18446744073709551616 := hS.lt (op, N) (by rw [hs, List.getD_eq_getElem?_getD, List.getElem?_eq_getElem (by rw [hS.len]; exact hlt)]; exact List.getElem_mem _)
        rw [← hs] at d0 d1
        have c0 := (hrel.bl.cell (p := ⟨sb, off + k * 2, none⟩) hsb).trans d0
        have c1 := (hrel.bl.cell (p := ⟨sb, off + k * 2 + 1, none⟩) hsb).trans d1
        have HS := hid hs
        have HRel := hid hrel
        have HLen := hid hS.len
        have k0 : (0 : Int) ≤ (k : Int) := by omega
        have k1 : (k : Int) < (n : Int) := by omega
        clear hc d0 d1 hs hrel hS hRel
        go_wp2_with fail
        refine (do_c op _ N xs wr HRel.out.d HRel.out.p HRel.out.le hN).mono ?_
        rintro e w4 ⟨r, rfl, hr, hb4⟩
        have HR := hid hr
        have b04 := HRel.out.bl.trans (hb4.mono HRel.out.bl.size)
        obtain ⟨q, hq⟩ : ∃ q, q = stepE op N xs := ⟨_, rfl⟩
        rw [← hq] at HR ⊢
        have HQ := hid hq
        clear hr hb4 hq c0 c1
        by_cases h0 : q = 0
        · have hdig := HR.out h0
          subst h0
          have HRel5 : Hid (RefR w st xs0 w4 (k + 1) r (act op.toNat N xs)) := by
            have hs0 := HQ.out.symm
            have hop : ¬ (op < 0 ∨ 10 < op) := fun h => by unfold stepE at hs0; rw [if_pos h] at hs0; cases hs0
            refine hid ⟨hdig, act_ltp op.toNat N xs (by omega) (Nat.lt_trans hN (by decide)) HRel.out.p, b04, ?_, ?_⟩
            · unfold stepE at hs0
              rw [if_neg hop] at hs0
              split at hs0
              · cases hs0
              · split at hs0
                · cases hs0
                · omega
            · rw [HRel.out.eq, runL_good st k xs (by rw [HLen.out]; exact hlt) (by rw [← HS.out]; exact hs0), ← HS.out]
          clear HRel HR hdig HQ HE b04
          go_wp2
          go_roundw
          case rel => exact ⟨k + 1, _, by omega, by go_num, HRel5.out⟩
          case measure => simp [intOf]; omega
        · have e1 := HE.out
          rw [HRel.out.eq, runL_bad st k xs (by rw [HLen.out]; exact hlt) q (by rw [← HS.out]; exact HQ.out.symm) h0] at e1
          simp only [Prod.mk.injEq] at e1
          obtain ⟨rfl, rfl, rfl⟩ := e1
          have z1 : decide ((q : Int) = 0) = false := decide_eq_false (by omega)
          have z2 : ((q : Int) == 0) = false := by simp; omega
          have z3 : ((q : Int) != 0) = true := by simp; omega
          have HB := hid b04
          clear HRel HR HQ HE b04
          go_wp2
          go_ret3
          exact ⟨_, rfl, Digs.nil _, fun y hy => by simp at hy, HB.out⟩
      · have hkn : k = n := by omega
        subst hkn
        have e1 := HE.out
        rw [hrel.eq, runL_end st k xs (by rw [hS.len]; exact Nat.le_refl _)] at e1
        simp only [Prod.mk.injEq] at e1
        obtain ⟨rfl, rfl, rfl⟩ := e1
        have HRel := hid hrel
        clear hS hRel hrel HE
        go_wp2
        go_ret3
        exact ⟨_, rfl, HRel.out.d, HRel.out.p, HRel.out.bl⟩
end Go.Proofs.YtjohbepdmnigcaaDoor
