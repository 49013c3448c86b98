import Derived.Test.YtlpccdbcaffmmaaDoorRefF
import Derived.StillTailTactics
import Derived.Deep.QuietTactic
import Derived.BigQuiet
import Derived.Test.YtlpccdbcaffmmaaDoorRefD
import Derived.Lib.BitFns
import Derived.Lib.Walk
import Derived.Test.YtlpccdbcaffmmaaDoorRefA
import Derived.Lib.SliceRun
/-
  limb.shiftUp, limb.shiftDown: what each call does.
-/
namespace Go.Proofs.YtlpccdbcaffmmaaDoor
open Go.RowKit
set_option linter.unusedVariables false

theorem pow_split (s : Nat) (hs : s ≤ 63) : 2 ^ (64 - s) * 2 ^ s = 18446744073709551616 := by
  rw [← Nat.pow_add, show 64 - s + s = 64 by omega]
theorem shl_mod (x s : Nat) (hs : s ≤ 63) : x * 2 ^ s % 18446744073709551616 = (x % 2 ^ (64 - s)) * 2 ^ s := by
  rw [← pow_split s hs, Nat.mul_mod_mul_right]
theorem or_up (x y s : Nat) (hs : s ≤ 63) (hy : y < 18446744073709551616) : (x * 2 ^ s % 18446744073709551616) ||| (y / 2 ^ (64 - s)) = x * 2 ^ s % 18446744073709551616 + y / 2 ^ (64 - s) := by
  have hb : y / 2 ^ (64 - s) < 2 ^ s := by
    rw [Nat.div_lt_iff_lt_mul (Nat.two_pow_pos _), Nat.mul_comm, pow_split s hs]; exact hy
  rw [shl_mod x s hs, ← Nat.shiftLeft_eq, Nat.shiftLeft_add_eq_or_of_lt hb]
theorem or_down (x y s : Nat) (hs : s ≤ 63) (hx : x < 18446744073709551616) : (x / 2 ^ s) ||| (y * 2 ^ (64 - s) % 18446744073709551616) = x / 2 ^ s + (y % 2 ^ s) * 2 ^ (64 - s) := by
  have hb : x / 2 ^ s < 2 ^ (64 - s) := by
    rw [Nat.div_lt_iff_lt_mul (Nat.two_pow_pos _), pow_split s hs]; exact hx
  have e : y * 2 ^ (64 - s) % 18446744073709551616 = (y % 2 ^ s) * 2 ^ (64 - s) := by
    have := pow_split s hs
    rw [Nat.mul_comm] at this
    rw [← this, Nat.mul_mod_mul_right]
  rw [e, ← Nat.shiftLeft_eq, Nat.or_comm, ← Nat.shiftLeft_add_eq_or_of_lt hb, Nat.add_comm]

/-- The words of a number that is shifted up. -/
def upZ (l : List Nat) (s i : Nat) : Nat := l.getD i 0 * 2 ^ s % 18446744073709551616 + (if i = 0 then 0 else l.getD (i - 1) 0 / 2 ^ (64 - s))
theorem upZ_lt (l : List Nat) (hl : allLt l) (s i : Nat) (hs : s ≤ 63) : upZ l s i < 18446744073709551616 := by
  unfold upZ
  split
  · omega
  · rw [← or_up _ _ s hs (getD_lt _ (by decide) l hl _)]
    have hb : l.getD (i - 1) 0 / 2 ^ (64 - s) < 2 ^ 64 := Nat.lt_of_le_of_lt (Nat.div_le_self _ _) (getD_lt _ (by decide) l hl _)
    exact Nat.or_lt_two_pow (n := 64) (by omega) hb
theorem up_word (x y : Nat) (s : Nat) (hs : s ≤ 63) (hx : x < 18446744073709551616) (hy : y < 18446744073709551616) :
    bits .or .u64 (IntKind.u64.wrap ((x : Int) * 2 ^ s)) ((y : Int) / 2 ^ (64 - s)) = ((x * 2 ^ s % 18446744073709551616 + y / 2 ^ (64 - s) : Nat) : Int) := by
  have e1 : IntKind.u64.wrap ((x : Int) * 2 ^ s) = ((x * 2 ^ s % 18446744073709551616 : Nat) : Int) := by
    rw [IntKind.wrap_u64, show ((2 : Int) ^ s) = ((2 ^ s : Nat) : Int) by simp, ← Int.natCast_mul]; omega
  have e2 : (y : Int) / 2 ^ (64 - s) = ((y / 2 ^ (64 - s) : Nat) : Int) := by
    rw [show ((2 : Int) ^ (64 - s)) = ((2 ^ (64 - s) : Nat) : Int) by simp, ← Int.natCast_ediv]
  have hb : y / 2 ^ (64 - s) < 18446744073709551616 := Nat.lt_of_le_of_lt (Nat.div_le_self _ _) hy
  rw [e1, e2, bits_or_u64_nat _ _ (Nat.mod_lt _ (by decide)) hb, or_up x y s hs hy]
theorem up_word0 (x s : Nat) : IntKind.u64.wrap ((x : Int) * 2 ^ s) = ((x * 2 ^ s % 18446744073709551616 : Nat) : Int) := by
  rw [IntKind.wrap_u64, show ((2 : Int) ^ s) = ((2 ^ s : Nat) : Int) by simp, ← Int.natCast_mul]; omega
theorem down_word (x y : Nat) (s : Nat) (hs : s ≤ 63) (hx : x < 18446744073709551616) (hy : y < 18446744073709551616) :
    bits .or .u64 ((x : Int) / 2 ^ s) (IntKind.u64.wrap ((y : Int) * 2 ^ (64 - s))) = ((x / 2 ^ s + (y % 2 ^ s) * 2 ^ (64 - s) : Nat) : Int) := by
  have e1 := up_word0 y (64 - s)
  have e2 : (x : Int) / 2 ^ s = ((x / 2 ^ s : Nat) : Int) := by
    rw [show ((2 : Int) ^ s) = ((2 ^ s : Nat) : Int) by simp, ← Int.natCast_ediv]
  have hb : x / 2 ^ s < 18446744073709551616 := Nat.lt_of_le_of_lt (Nat.div_le_self _ _) hx
  rw [e1, e2, bits_or_u64_nat _ _ hb (Nat.mod_lt _ (by decide)), or_down x y s hs hx]

theorem up_pv (l z : List Nat) (s : Nat) (hs : s ≤ 63) (k : Nat) (h : ∀ i, i < k → z.getD i 0 = upZ l s i) :
    pv 18446744073709551616 z k + (if k = 0 then 0 else l.getD (k - 1) 0 / 2 ^ (64 - s)) * 18446744073709551616 ^ k = 2 ^ s * pv 18446744073709551616 l k := by
  induction k with
  | zero => simp [pv]
  | succ k ih =>
    have ih' := ih fun i hi => h i (by omega)
    rw [pv_succ, pv_succ, h k (by omega), Nat.pow_succ, if_neg (by omega), show k + 1 - 1 = k from rfl]
    unfold upZ
    have e : l.getD k 0 * 2 ^ s % 18446744073709551616 + l.getD k 0 / 2 ^ (64 - s) * 18446744073709551616 = l.getD k 0 * 2 ^ s := by
      have e2 : l.getD k 0 / 2 ^ (64 - s) = l.getD k 0 * 2 ^ s / 18446744073709551616 := by
        rw [← pow_split s hs, Nat.mul_div_mul_right _ _ (Nat.two_pow_pos s)]
      rw [e2]; omega
    generalize (if k = 0 then 0 else l.getD (k - 1) 0 / 2 ^ (64 - s)) = d at ih' ⊢
    generalize l.getD k 0 * 2 ^ s % 18446744073709551616 = m at e ⊢
    generalize l.getD k 0 / 2 ^ (64 - s) = q at e ⊢
    generalize l.getD k 0 = x at e ⊢
    generalize pv 18446744073709551616 z k = p at ih' ⊢
    generalize pv 18446744073709551616 l k = p' at ih' ⊢
    generalize 18446744073709551616 ^ k = P at ih' ⊢
    generalize 2 ^ s = S at e ih' ⊢
    have e3 : (m + q * 18446744073709551616) * P = x * S * P := by rw [e]
    grind
theorem down_pv (l z : List Nat) (s : Nat) (hs : s ≤ 63) (n : Nat) (h : ∀ i, i < n → z.getD i 0 = l.getD i 0 / 2 ^ s + (l.getD (i + 1) 0 % 2 ^ s) * 2 ^ (64 - s)) (hl : z.getD n 0 = l.getD n 0 / 2 ^ s) :
    pv 18446744073709551616 z (n + 1) = pv 18446744073709551616 l (n + 1) / 2 ^ s := by
  have key : ∀ k, k ≤ n → 2 ^ s * pv 18446744073709551616 z k + l.getD 0 0 % 2 ^ s = pv 18446744073709551616 l k + (l.getD k 0 % 2 ^ s) * 18446744073709551616 ^ k := by
    intro k hk
    induction k with
    | zero => simp [pv]
    | succ k ih =>
      have ih' := ih (by omega)
      rw [pv_succ, pv_succ, h k (by omega), Nat.pow_succ]
      have e := Nat.div_add_mod (l.getD k 0) (2 ^ s)
      have e2 := pow_split s hs
      generalize l.getD (k + 1) 0 % 2 ^ s = y at ih' ⊢
      generalize l.getD k 0 % 2 ^ s = m at e ih' ⊢
      generalize l.getD k 0 / 2 ^ s = q at e ⊢
      generalize l.getD k 0 = x at e ⊢
      generalize pv 18446744073709551616 z k = p at ih' ⊢
      generalize pv 18446744073709551616 l k = p' at ih' ⊢
      generalize l.getD 0 0 % 2 ^ s = c at ih' ⊢
      generalize 18446744073709551616 ^ k = P at ih' ⊢
      generalize 2 ^ s = S at e e2 ih' ⊢
      generalize 2 ^ (64 - s) = T at e2 ⊢
      subst e
      have e3 : T * S * (y * P) = 18446744073709551616 * (y * P) := by rw [e2]
      grind
  have k1 := key n (Nat.le_refl _)
  have hS : 0 < 2 ^ s := Nat.two_pow_pos s
  have e := Nat.div_add_mod (l.getD n 0) (2 ^ s)
  have hm : l.getD 0 0 % 2 ^ s < 2 ^ s := Nat.mod_lt _ hS
  rw [pv_succ, pv_succ, hl]
  have e4 : pv 18446744073709551616 l n + l.getD n 0 * 18446744073709551616 ^ n = l.getD 0 0 % 2 ^ s + 2 ^ s * (pv 18446744073709551616 z n + l.getD n 0 / 2 ^ s * 18446744073709551616 ^ n) := by
    generalize l.getD n 0 % 2 ^ s = m at e k1 ⊢
    generalize l.getD n 0 / 2 ^ s = q at e ⊢
    generalize l.getD n 0 = x at e ⊢
    generalize l.getD 0 0 % 2 ^ s = c at k1 ⊢
    generalize 18446744073709551616 ^ n = P at k1 ⊢
    generalize 2 ^ s = S at e k1 ⊢
    subst e
    grind
  rw [e4, Nat.add_mul_div_left _ _ hS, Nat.div_eq_of_lt hm, Nat.zero_add]

/-- The relation of shiftUp's loop: words from k + 1 to n are shifted. -/
def UpRel (w : World) (b n s : Nat) (ws0 : List Nat) (wr : World) (k : Nat) : Prop :=
  ∃ ws : List Nat, ws.length = ws0.length ∧ BlkW wr b 27 ws ∧ Below b w wr ∧ ∀ j, ws.getD j 0 = if k ≤ j ∧ j ≤ n then upZ ws0 s j else ws0.getD j 0

theorem UpRel.step {w wr : World} {b n s k : Nat} {ws0 : List Nat} (h0 : allLt ws0) (hs : s ≤ 63) (h : UpRel w b n s ws0 wr (k + 1)) (hk : k ≤ n) (hn : n < ws0.length) (v : Int) (hv : v = (upZ ws0 s k : Nat)) :
    UpRel w b n s ws0 (wr.setCell ⟨b, k, none⟩ (.int .u64 v)) k := by
  obtain ⟨ws, hl, hB, hb, hj⟩ := h
  refine ⟨ws.set k (upZ ws0 s k), by simp [hl], hB.setI _ _ _ (upZ_lt _ h0 _ _ hs) hv, hb.setCell (Nat.le_refl _) _, fun j => ?_⟩
  by_cases hjk : j = k
  · subst hjk
    rw [getD_set_eq _ _ _ (by omega), if_pos (by omega)]
  · rw [getD_set_ne _ _ _ _ (by omega), hj j]
    by_cases hc : k + 1 ≤ j ∧ j ≤ n
    · rw [if_pos hc, if_pos (by omega)]
    · rw [if_neg hc, if_neg (by omega)]
theorem UpRel.drew {w wr : World} {b n s k : Nat} {ws0 : List Nat} (h : UpRel w b n s ws0 wr k) : UpRel w b n s ws0 wr.drew k := by
  obtain ⟨ws, hl, hB, hb, hj⟩ := h
  exact ⟨ws, hl, ⟨hB.heap, hB.lt⟩, hb.drew, hj⟩

set_option maxRecDepth 100000 in
set_option maxHeartbeats 1000000 in
theorem shiftUp_r (b n c s : Nat) (ws0 : List Nat) (w : World) (hB : BlkW w b 27 ws0) (hn : n + 1 ≤ ws0.length) (hs : s ≤ 63) (hn' : n ≤ 10000) :
    Calls Tryd.prog 82 #[.slice (some ⟨b, 0, none⟩) (n + 1) c, .int .i64 s] w fun e w' => e = .returned (.tuple #[]) ∧ UpRel w b n s ws0 w' 0 := by
  go_enter Tryd.func82, Tryd.ntmps82
  go_wp2
  go_loopw [4] (fun i wr => ∃ k : Nat, k ≤ n ∧ i = .int .i64 k ∧ UpRel w b n s ws0 wr (k + 1)) (fun i _ => (intOf i).toNat)
  case atStart => exact ⟨n, Nat.le_refl _, by go_num, ws0, rfl, hB, Below.refl _ _, fun j => by rw [if_neg (by omega)]⟩
  case round =>
    obtain ⟨k, hk, rfl, hrel⟩ := hrel
    obtain ⟨ws, hl, hB1, hb1, hj⟩ := id hrel
    rcases k with _ | k
    · have c0 := hB1.cell (i := 0) (by omega)
      have f0 := hB1.frozen 0
      have g0 : at64 ws 0 = at64 ws0 0 := by unfold at64; rw [hj 0, if_neg (by omega)]
      rw [g0] at c0
      have HST := hid (UpRel.step hB.lt hs hrel hk (by omega) _ (show IntKind.u64.wrap (at64 ws0 0 * 2 ^ s) = _ by unfold upZ; rw [if_pos rfl, Nat.add_zero]; exact up_word0 _ _))
      clear hl hj g0
      go_wp2
      go_end0
      exact ⟨rfl, HST.out⟩
    · have e1 : ((k + 1 : Nat) : Int) = (k : Int) + 1 := by omega
      rw [e1]
      clear e1
      have c0 := hB1.cell (i := k) (by omega)
      have c1 := hB1.cell (i := k + 1) (by omega)
      have g0 : at64 ws k = at64 ws0 k := by unfold at64; rw [hj k, if_neg (by omega)]
      have g1 : at64 ws (k + 1) = at64 ws0 (k + 1) := by unfold at64; rw [hj (k + 1), if_neg (by omega)]
      rw [g0] at c0
      rw [g1] at c1
      have f0 := hB1.frozen (k + 1)
      have x0 := at64_nonneg ws0 k
      have x1 := at64_nonneg ws0 (k + 1)
      have HST := hid (UpRel.step hB.lt hs hrel hk (by omega) _ (show bits .or .u64 (IntKind.u64.wrap (at64 ws0 (k + 1) * 2 ^ s)) (at64 ws0 k / 2 ^ (64 - s)) = _ by
        unfold upZ; rw [if_neg (by omega)]; exact up_word _ _ s hs (getD_lt _ (by decide) ws0 hB.lt _) (getD_lt _ (by decide) ws0 hB.lt _)))
      have i0 : (0 : Int) ≤ (k : Int) := by omega
      have i1 : (k : Int) < (n : Int) + 1 := by omega
      have i2 : (k : Int) + 1 < (n : Int) + 1 := by omega
      have i3 : (0 : Int) ≤ (k : Int) + 1 := by omega
      have i4 : IntKind.i64.wrap (k : Int) = (k : Int) := by rw [IntKind.wrap_i64]; omega
      have i5 : ((k : Int) + 1).toNat = k + 1 := by omega
      have i6 : IntKind.i64.wrap (64 - (s : Int)) = ((64 - s : Nat) : Int) := by rw [IntKind.wrap_i64]; omega
      clear hl hj g0 g1
      go_wp2
      go_still_tail 18, (by kernel_rfl)
      change wpList _ _ _ _ _ wr.drew
      clear i4 i5 i6
      go_wp2
      go_roundw
      case rel => exact ⟨k, by omega, by go_num, HST.out.drew⟩
      case measure => simp [intOf]
theorem shiftUp_c (b n c s : Nat) (ws0 : List Nat) (w : World) (hB : BlkW w b 27 ws0) (hn : n + 1 ≤ ws0.length) (hs : s ≤ 63) (hn' : n ≤ 10000) :
    Calls Tryd.prog 82 #[.slice (some ⟨b, 0, none⟩) (n + 1) c, .int .i64 s] w fun e w' => e = .returned (.tuple #[]) ∧
      ∃ ws, ws.length = ws0.length ∧ BlkW w' b 27 ws ∧ Below b w w' ∧ pv 18446744073709551616 ws (n + 1) = 2 ^ s * pv 18446744073709551616 ws0 (n + 1) % 18446744073709551616 ^ (n + 1) := by
  refine (shiftUp_r b n c s ws0 w hB hn hs hn').mono ?_
  rintro e w' ⟨rfl, ws, hl, hB', hb, hj⟩
  refine ⟨rfl, ws, hl, hB', hb, ?_⟩
  have := up_pv ws0 ws s hs (n + 1) fun i hi => by rw [hj i, if_pos (by omega)]
  rw [← this, Nat.add_mul_mod_self_right, Nat.mod_eq_of_lt (pv_lt _ (by decide) ws hB'.lt _)]

/-- The relation of shiftDown's loop: words below k are shifted. -/
def DnRel (w : World) (b s : Nat) (ws0 : List Nat) (wr : World) (k : Nat) : Prop :=
  ∃ ws : List Nat, ws.length = ws0.length ∧ BlkW wr b 27 ws ∧ Below b w wr ∧ ∀ j, ws.getD j 0 = if j < k then ws0.getD j 0 / 2 ^ s + (ws0.getD (j + 1) 0 % 2 ^ s) * 2 ^ (64 - s) else ws0.getD j 0
theorem DnRel.drew {w wr : World} {b s k : Nat} {ws0 : List Nat} (h : DnRel w b s ws0 wr k) : DnRel w b s ws0 wr.drew k := by
  obtain ⟨ws, hl, hB, hb, hj⟩ := h
  exact ⟨ws, hl, ⟨hB.heap, hB.lt⟩, hb.drew, hj⟩
theorem dn_lt (x y s : Nat) (hs : s ≤ 63) (hx : x < 18446744073709551616) : x / 2 ^ s + (y % 2 ^ s) * 2 ^ (64 - s) < 18446744073709551616 := by
  rw [← or_down x y s hs hx]
  exact Nat.or_lt_two_pow (n := 64) (Nat.lt_of_le_of_lt (Nat.div_le_self _ _) hx) (Nat.mod_lt _ (by decide))
theorem DnRel.step {w wr : World} {b s k : Nat} {ws0 : List Nat} (h0 : allLt ws0) (hs : s ≤ 63) (h : DnRel w b s ws0 wr k) (hk : k < ws0.length) (v : Int) (hv : v = ((ws0.getD k 0 / 2 ^ s + (ws0.getD (k + 1) 0 % 2 ^ s) * 2 ^ (64 - s) : Nat) : Int)) :
    DnRel w b s ws0 (wr.setCell ⟨b, k, none⟩ (.int .u64 v)) (k + 1) := by
  obtain ⟨ws, hl, hB, hb, hj⟩ := h
  refine ⟨ws.set k (ws0.getD k 0 / 2 ^ s + (ws0.getD (k + 1) 0 % 2 ^ s) * 2 ^ (64 - s)), by simp [hl], hB.setI _ _ _ (dn_lt _ _ s hs (getD_lt _ (by decide) ws0 h0 _)) hv, hb.setCell (Nat.le_refl _) _, fun j => ?_⟩
  by_cases hjk : j = k
  · subst hjk
    rw [getD_set_eq _ _ _ (by omega), if_pos (by omega)]
  · rw [getD_set_ne _ _ _ _ (by omega), hj j]
    by_cases hc : j < k
    · rw [if_pos hc, if_pos (by omega)]
    · rw [if_neg hc, if_neg (by omega)]

set_option maxRecDepth 100000 in
set_option maxHeartbeats 1000000 in
theorem shiftDown_c (b n c s : Nat) (ws0 : List Nat) (w : World) (hB : BlkW w b 27 ws0) (hn : n + 1 ≤ ws0.length) (hs : s ≤ 63) (hn' : n ≤ 10000) :
    Calls Tryd.prog 101 #[.slice (some ⟨b, 0, none⟩) (n + 1) c, .int .i64 s] w fun e w' => e = .returned (.tuple #[]) ∧
      ∃ ws, ws.length = ws0.length ∧ BlkW w' b 27 ws ∧ Below b w w' ∧ pv 18446744073709551616 ws (n + 1) = pv 18446744073709551616 ws0 (n + 1) / 2 ^ s := by
  go_enter Tryd.func101, Tryd.ntmps101
  go_wp2
  go_loopw [10] (fun i wr => ∃ k : Nat, k ≤ n ∧ i = .int .i64 k ∧ DnRel w b s ws0 wr k) (fun i _ => n - (intOf i).toNat)
  case atStart => exact ⟨0, Nat.zero_le _, rfl, ws0, rfl, hB, Below.refl _ _, fun j => by rw [if_neg (by omega)]⟩
  case round =>
    obtain ⟨k, hk, rfl, hrel⟩ := hrel
    obtain ⟨ws, hl, hB1, hb1, hj⟩ := id hrel
    by_cases hlt : k < n
    · have c0 := hB1.cell (i := k) (by omega)
      have c1 := hB1.cell (i := k + 1) (by omega)
      have g0 : at64 ws k = at64 ws0 k := by unfold at64; rw [hj k, if_neg (by omega)]
      have g1 : at64 ws (k + 1) = at64 ws0 (k + 1) := by unfold at64; rw [hj (k + 1), if_neg (by omega)]
      rw [g0] at c0
      rw [g1] at c1
      have f0 := hB1.frozen k
      have x0 := at64_nonneg ws0 k
      have x1 := at64_nonneg ws0 (k + 1)
      have HST := hid (DnRel.step hB.lt hs hrel (by omega) _ (show bits .or .u64 (at64 ws0 k / 2 ^ s) (IntKind.u64.wrap (at64 ws0 (k + 1) * 2 ^ (64 - s))) = _ by
        exact down_word _ _ s hs (getD_lt _ (by decide) ws0 hB.lt _) (getD_lt _ (by decide) ws0 hB.lt _)))
      have i0 : (0 : Int) ≤ (k : Int) := by omega
      have i1 : (k : Int) < (n : Int) + 1 := by omega
      have i2 : (k : Int) + 1 < (n : Int) + 1 := by omega
      have i3 : (0 : Int) ≤ (k : Int) + 1 := by omega
      have i4 : IntKind.i64.wrap ((k : Int) + 1) = (k : Int) + 1 := by rw [IntKind.wrap_i64]; omega
      have i5 : ((k : Int) + 1).toNat = k + 1 := by omega
      have i6 : IntKind.i64.wrap (64 - (s : Int)) = ((64 - s : Nat) : Int) := by rw [IntKind.wrap_i64]; omega
      clear hl hj g0 g1
      go_wp2
      go_still_tail 18, (by kernel_rfl)
      change wpList _ _ _ _ _ wr.drew
      clear i4 i5 i6
      go_wp2
      go_roundw
      case rel => exact ⟨k + 1, by omega, by go_num, HST.out.drew⟩
      case measure => simp [intOf]; omega
    · obtain rfl : k = n := by omega
      have c0 := hB1.cell (i := k) (by omega)
      have f0 := hB1.frozen k
      have g0 : at64 ws k = at64 ws0 k := by unfold at64; rw [hj k, if_neg (by omega)]
      rw [g0] at c0
      have x0 := at64_nonneg ws0 k
      have hd : at64 ws0 k / 2 ^ s = ((ws0.getD k 0 / 2 ^ s : Nat) : Int) := by
        unfold at64; rw [show ((2 : Int) ^ s) = ((2 ^ s : Nat) : Int) by simp, ← Int.natCast_ediv]
      have R : Hid (∃ ws, ws.length = ws0.length ∧ BlkW (wr.setCell ⟨b, k, none⟩ (.int .u64 (at64 ws0 k / 2 ^ s))) b 27 ws ∧ Below b w (wr.setCell ⟨b, k, none⟩ (.int .u64 (at64 ws0 k / 2 ^ s))) ∧ pv 18446744073709551616 ws (k + 1) = pv 18446744073709551616 ws0 (k + 1) / 2 ^ s) := by
        refine ⟨ws.set k (ws0.getD k 0 / 2 ^ s), by simp [hl], hB1.setI _ _ _ (Nat.lt_of_le_of_lt (Nat.div_le_self _ _) (getD_lt _ (by decide) ws0 hB.lt _)) hd, hb1.setCell (Nat.le_refl _) _, ?_⟩
        refine down_pv ws0 _ s hs k (fun i hi => ?_) (getD_set_eq _ _ _ (by omega))
        rw [getD_set_ne _ _ _ _ (by omega), hj i, if_pos hi]
      clear hl hj g0 hd
      go_wp2
      go_end0
      exact ⟨rfl, R.out⟩
end Go.Proofs.YtlpccdbcaffmmaaDoor
/-
  bits.Len64, bits.LeadingZeros64, limb.Bits: what each call does.
-/
namespace Go.Proofs.YtlpccdbcaffmmaaDoor
open Go.RowKit
set_option linter.unusedVariables false

theorem len8_at (i : Int) (h : i.toNat < Lib.len8tab.size) (h0 : 0 ≤ i) (h1 : i ≤ 255) : ((Lib.len8tab[i.toNat]'h).toNat : Int) = (Lib.bitLen i.toNat : Int) := by
  have e := Lib.len8_of i h0 h1
  unfold Lib.len8 at e
  rw [← e, ByteArray.getElem?_lt' _ _ h, Option.getD_some]
theorem wrap_small (x : Int) (h0 : 0 ≤ x) (h1 : x ≤ 1000) : wrap64 x = x := by
  unfold wrap64; omega
theorem len_fin (k : Nat) (x i : Int) (h : i.toNat < Lib.len8tab.size) (h0 : 0 ≤ i) (h1 : i ≤ 255) (hk : k ≤ 64) (hx : x < 18446744073709551616) (hi : i.toNat = x.toNat / 2 ^ k) (hp : 2 ^ k ≤ x.toNat) :
    wrap64 (k + wrap64 ((Lib.len8tab[i.toNat]'h).toNat : Int)) = (Lib.bitLen x.toNat : Int) := by
  have b := Lib.bitLen_le8' i h0 h1
  rw [len8_at i h h0 h1, wrap_small (Lib.bitLen i.toNat : Int) (by omega) (by omega), wrap_small _ (by omega) (by omega), hi, Lib.bitLen_shift k x.toNat hp (by omega)]
  rfl
theorem len_fin0 (x : Int) (h : x.toNat < Lib.len8tab.size) (h0 : 0 ≤ x) (h1 : x ≤ 255) :
    wrap64 (wrap64 ((Lib.len8tab[x.toNat]'h).toNat : Int)) = (Lib.bitLen x.toNat : Int) := by
  have b := Lib.bitLen_le8' x h0 h1
  rw [len8_at x h h0 h1, wrap_small (Lib.bitLen x.toNat : Int) (by omega) (by omega), wrap_small _ (by omega) (by omega)]
set_option maxHeartbeats 4000000 in
set_option maxRecDepth 100000 in
theorem len64_c (x : Int) (h0 : 0 ≤ x) (h1 : x ≤ 18446744073709551615) (w : World) :
    Calls Tryd.prog 99 #[.int .u64 x] w fun e w' => e = .returned (.int .i64 (Lib.bitLen x.toNat)) ∧ w = w' := by
  have hsz := Lib.len8tab_size
  go_enter Tryd.func99, Tryd.ntmps99
  go_wp2
  all_goals (go_ret; refine ⟨ret_int ?_, rfl⟩)
  all_goals first
    | exact len_fin0 _ _ (by omega) (by omega)
    | exact len_fin 56 _ _ _ (by omega) (by omega) (by omega) (by omega) (by omega) (by omega)
    | exact len_fin 48 _ _ _ (by omega) (by omega) (by omega) (by omega) (by omega) (by omega)
    | exact len_fin 40 _ _ _ (by omega) (by omega) (by omega) (by omega) (by omega) (by omega)
    | exact len_fin 32 _ _ _ (by omega) (by omega) (by omega) (by omega) (by omega) (by omega)
    | exact len_fin 24 _ _ _ (by omega) (by omega) (by omega) (by omega) (by omega) (by omega)
    | exact len_fin 16 _ _ _ (by omega) (by omega) (by omega) (by omega) (by omega) (by omega)
    | exact len_fin 8 _ _ _ (by omega) (by omega) (by omega) (by omega) (by omega) (by omega)

theorem lz64_c (x : Int) (h0 : 0 ≤ x) (h1 : x ≤ 18446744073709551615) (w : World) :
    Calls Tryd.prog 80 #[.int .u64 x] w fun e w' => e = .returned (.int .i64 (64 - Lib.bitLen x.toNat)) ∧ w = w' := by
  have b := Lib.bitLen_le x.toNat 64 (by omega) (by omega)
  go_enter Tryd.func80, Tryd.ntmps80
  go_wp2_with fail
  refine (len64_c x h0 h1 _).mono ?_
  rintro e w' ⟨rfl, rfl⟩
  go_wp2
  go_ret
  exact ⟨rfl, rfl⟩
end Go.Proofs.YtlpccdbcaffmmaaDoor
/-
  slices.Clone, limb.isModulus, avouchref01.Right, limb.New: what each call does.
-/
namespace Go.Proofs.YtlpccdbcaffmmaaDoor
open Go.RowKit
set_option linter.unusedVariables false

theorem zeroCells_eq (n : Nat) : Builtin.zeroCells (Value.int .u64 0).cells n = ((List.replicate n 0).map fun (x : Nat) => Value.int .u64 (x : Int)).toArray := by
  unfold Builtin.zeroCells
  apply Array.ext
  · simp [Value.cells]
  · intro i h1 h2
    simp [Value.cells, Nat.mod_one]

set_option maxRecDepth 20000 in
/-- append of the words of a slice onto an empty slice without room. -/
theorem append_clone {ops : Array Oper} {rest : List Oper} {o : Oper} {a : Act} {Q : Exit → Act → World → Prop} {w : World} (hgd : o.guard = none) (s x : Operand)
    (ho : o.op = .call { callee := .builtin .append, args := #[s, x], argTypes := #[43, 43] })
    (g : Nat) (hs : a.eval s = .slice (some ⟨g, 0, none⟩) 0 0) (b off n c B : Nat) (l : List Nat) (hx : a.eval x = .slice (some ⟨b, off, none⟩) n c) (hr : Rd w B (some ⟨b, off, none⟩) n l) (h0 : 1 ≤ n) (hn : n ≤ 100000)
    (h : ∀ k w', BlkW w' w.heap.size 27 (l ++ List.replicate k 0) → Below w.heap.size w w' → wpList Tryd.prog ops Q rest (a.put o.dst (.slice (some ⟨w.heap.size, 0, none⟩) n (n + k))) w') : wpList Tryd.prog ops Q (o :: rest) a w := by
  obtain ⟨i0, hi, hz, hs1, hb⟩ := info_parts u64_info
  have hcells : ∀ j v, (cellsOf64 l)[j]? = some v → w.cell? ((⟨b, off, none⟩ : Addr).add j) = some v := by
    intro j v hj
    have hadd : (⟨b, off, none⟩ : Addr).add j = ⟨b, off + j, none⟩ := by unfold Addr.add; split <;> simp_all
    have hjl : j < l.length := by
      have := (List.getElem?_eq_some_iff.1 hj).1
      simpa [cellsOf64] using this
    obtain ⟨b', off', e, _, hc⟩ := hr.cells (by omega)
    injection e with e
    injection e with e1 e2
    subst e1 e2
    rw [hadd, hc j (by rw [← hr.len]; exact hjl), ← hj]
    simp [cellsOf64, at64, List.getElem?_eq_getElem hjl, List.getD_eq_getElem?_getD]
  have hrun := run_append_grow (P := Tryd.prog) w 43 o.type 27 i0 _ Tryd.underlying43 hi hz ⟨g, 0, none⟩ 0 0 [] (by simp) (by intro j v hj; simp at hj) ⟨b, off, none⟩ n c (cellsOf64 l) (by simp [cellsOf64, hs1, hr.len]) hcells (by omega) (by omega)
    (growslice_fits (by omega) (by rw [hb]; omega))
  simp only [Nat.zero_add] at hrun
  have hge := grownCap_ge w n 0 27
  refine wpList_plain hgd fun K hK' => ?_
  unfold Oper.wp
  simp only [execOp, ho, resolve, invoke, builtin, Sem.run_bind, Sem.run_pure, Result.andThen_ok, List.map_toArray, List.map_cons, List.map_nil, hs, hx, hrun]
  have := h (grownCap w n 0 27 - n) (w.drew.alloc (.cells ([].toArray ++ (cellsOf64 l).toArray ++ Builtin.zeroCells (Value.int .u64 0).cells (grownCap w n 0 27 - n)) 27)) ?_ ?_
  · rw [show n + (grownCap w n 0 27 - n) = grownCap w n 0 27 by omega] at this
    exact hK' _ _ this
  · refine ⟨?_, ?_⟩
    · rw [zeroCells_eq]
      have : ([].toArray ++ (cellsOf64 l).toArray ++ ((List.replicate (grownCap w n 0 27 - n) 0).map fun (x : Nat) => Value.int .u64 (x : Int)).toArray) = ((l ++ List.replicate (grownCap w n 0 27 - n) 0).map fun (x : Nat) => Value.int .u64 (x : Int)).toArray := by
        simp [cellsOf64]
      rw [this]
      exact heap_alloc_new w.drew _
    · intro x hx
      rcases List.mem_append.1 hx with h' | h'
      · exact hr.lt x h'
      · have := List.eq_of_mem_replicate h'; omega
  · exact ((Below.refl _ _).drew).alloc (Nat.le_refl _) _

set_option maxHeartbeats 400000 in
theorem clone_c (b off n c : Nat) (l : List Nat) (w : World) (h : Rd w w.heap.size (some ⟨b, off, none⟩) n l) (h0 : 1 ≤ n) (hn : n ≤ 100000) :
    Calls Tryd.prog 81 #[.slice (some ⟨b, off, none⟩) n c] w fun e w' => ∃ g k, e = .returned (.slice (some ⟨g, 0, none⟩) n (n + k)) ∧ w.heap.size ≤ g ∧ BlkW w' g 27 (l ++ List.replicate k 0) ∧ Below w.heap.size w w' := by
  have hnil : ∀ w, (binOp .eql 43 (.slice (some ⟨b, off, none⟩) n c) (.slice none 0 0)).run Tryd.prog w = .ok (.bool false) w := fun w => by
    have := Lib.run_eql_slice_nil (P := Tryd.prog) w 43 27 (some ⟨b, off, none⟩) n c 0 0 Tryd.underlying43
    simpa using this
  have hb : Below w.heap.size w (w.alloc (.cells #[] 27)) := (Below.refl _ _).alloc (Nat.le_refl _) _
  have hr := h.below hb (Nat.le_refl _)
  go_enter Tryd.func81, Tryd.ntmps81
  go_wp2_with (at_builtin; refine append_clone rfl (.tmp 5) (.tmp 6) rfl w.heap.size rfl b off n c w.heap.size l rfl hr h0 hn ?_)
  intro k w' hB hb'
  have hb2 : Below w.heap.size w w' := hb.trans (hb'.mono (by simp))
  clear hnil hb'
  go_wp2
  go_ret
  exact ⟨_, k, rfl, by simp, hB, hb2⟩

/-- May words be a modulus? -/
def Rt (l : List Nat) : Prop := 1 ≤ l.length ∧ l.length ≤ 16 ∧ l.getD 0 0 % 2 = 1 ∧ l.getD (l.length - 1) 0 ≠ 0 ∧ (1 < l.length ∨ l.getD 0 0 ≠ 1)
def rtB (l : List Nat) : Bool := decide (1 ≤ l.length ∧ l.length ≤ 16 ∧ l.getD 0 0 % 2 = 1 ∧ l.getD (l.length - 1) 0 ≠ 0 ∧ (1 < l.length ∨ l.getD 0 0 ≠ 1))
theorem rtB_t {l : List Nat} (h : Rt l) : rtB l = true := by unfold rtB; unfold Rt at h; exact decide_eq_true h
theorem rtB_f {l : List Nat} (h : ¬ Rt l) : rtB l = false := by unfold rtB; unfold Rt at h; exact decide_eq_false h
theorem rtB_of {l : List Nat} (h : rtB l = true) : Rt l := by unfold rtB at h; unfold Rt; exact of_decide_eq_true h

set_option maxHeartbeats 1000000 in
theorem isModulus_c (A : Option Addr) (n c B : Nat) (l : List Nat) (w : World) (h : Rd w B A n l) (hn : n ≤ 100000) :
    Calls Tryd.prog 79 #[.slice A n c] w fun e w' => e = .returned (.bool (rtB l)) ∧ w = w' := by
  have hl := h.len
  by_cases h0 : n = 0
  · subst h0
    have HF : Hid (rtB l = false) := rtB_f (by unfold Rt; omega)
    clear hl
    go_enter Tryd.func79, Tryd.ntmps79
    go_wp2
    go_ret
    exact ⟨ret_bool HF.out.symm, rfl⟩
  obtain ⟨m, rfl⟩ : ∃ m, n = m + 1 := ⟨n - 1, by omega⟩
  by_cases h16 : 16 < m + 1
  · have HF : Hid (rtB l = false) := rtB_f (by unfold Rt; omega)
    have e0 : ((m : Int) + 1 == 0) = false := by simp; omega
    have e1 : decide (16 < (m : Int) + 1) = true := by simp; omega
    clear hl h0
    go_enter Tryd.func79, Tryd.ntmps79
    go_wp2
    go_ret
    exact ⟨ret_bool HF.out.symm, rfl⟩
  have e0 : ((m : Int) + 1 == 0) = false := by simp; omega
  have e1 : decide (16 < (m : Int) + 1) = false := by simp; omega
  obtain ⟨b, off, rfl, hb, c0⟩ := h.at_ (k := 0) (by omega)
  obtain ⟨b', off', ee, _, c1⟩ := h.at_ (k := m) (by omega)
  obtain ⟨rfl, rfl⟩ : b = b' ∧ off = off' := by injection ee with ee; injection ee with e1 e2; exact ⟨e1, e2⟩
  rw [Nat.add_zero] at c0
  have x0 := at64_nonneg l 0
  have x0' := at64_lt h.lt 0
  clear ee
  by_cases hodd : l.getD 0 0 % 2 = 1
  · have o1 : (at64 l 0 % 2 == 1) = true := beq_iff_eq.2 (by unfold at64; omega)
    by_cases hz : l.getD m 0 = 0
    · have HF : Hid (rtB l = false) := rtB_f (by unfold Rt; rw [hl, show m + 1 - 1 = m from rfl]; omega)
      have z1 : (at64 l m != 0) = false := by unfold at64; rw [hz]; rfl
      clear hl h0 hodd hz
      by_cases h1 : m = 0
      · subst h1
        by_cases hone : l.getD 0 0 = 1
        · have p1 : (at64 l 0 == 1) = true := by unfold at64; rw [hone]; rfl
          clear hone
          go_enter Tryd.func79, Tryd.ntmps79
          go_wp2
          go_ret
          exact ⟨ret_bool HF.out.symm, rfl⟩
        · have p1 : (at64 l 0 == 1) = false := beq_eq_false_iff_ne.2 (by unfold at64; omega)
          clear hone
          go_enter Tryd.func79, Tryd.ntmps79
          go_wp2
          go_ret
          exact ⟨ret_bool HF.out.symm, rfl⟩
      · have p2 : ((m : Int) + 1 == 1) = false := by simp; omega
        clear h1
        go_enter Tryd.func79, Tryd.ntmps79
        go_wp2
        go_ret
        exact ⟨ret_bool HF.out.symm, rfl⟩
    · have z1 : (at64 l m != 0) = true := bne_iff_ne.2 (by unfold at64; omega)
      by_cases h1 : m = 0
      · subst h1
        by_cases hone : l.getD 0 0 = 1
        · have HF : Hid (rtB l = false) := rtB_f (by unfold Rt; omega)
          have p1 : (at64 l 0 == 1) = true := by unfold at64; rw [hone]; rfl
          clear hl h0 hodd hz hone
          go_enter Tryd.func79, Tryd.ntmps79
          go_wp2
          go_ret
          exact ⟨ret_bool HF.out.symm, rfl⟩
        · have HF : Hid (rtB l = true) := rtB_t (by unfold Rt; rw [hl]; exact ⟨by omega, by omega, hodd, hz, .inr hone⟩)
          have p1 : (at64 l 0 == 1) = false := beq_eq_false_iff_ne.2 (by unfold at64; omega)
          clear hl h0 hodd hz hone
          go_enter Tryd.func79, Tryd.ntmps79
          go_wp2
          go_ret
          exact ⟨ret_bool HF.out.symm, rfl⟩
      · have HF : Hid (rtB l = true) := rtB_t (by unfold Rt; rw [hl]; exact ⟨by omega, by omega, hodd, hz, .inl (by omega)⟩)
        have p2 : ((m : Int) + 1 == 1) = false := by simp; omega
        clear hl h0 hodd hz h1
        go_enter Tryd.func79, Tryd.ntmps79
        go_wp2
        go_ret
        exact ⟨ret_bool HF.out.symm, rfl⟩
  · have HF : Hid (rtB l = false) := rtB_f (by unfold Rt; omega)
    have o1 : (at64 l 0 % 2 == 1) = false := beq_eq_false_iff_ne.2 (by unfold at64; omega)
    clear hl h0 hodd
    by_cases h1 : m = 0
    · subst h1
      by_cases hone : l.getD 0 0 = 1
      · have p1 : (at64 l 0 == 1) = true := by unfold at64; rw [hone]; rfl
        clear hone
        go_enter Tryd.func79, Tryd.ntmps79
        go_wp2
        go_ret
        exact ⟨ret_bool HF.out.symm, rfl⟩
      · have p1 : (at64 l 0 == 1) = false := beq_eq_false_iff_ne.2 (by unfold at64; omega)
        clear hone
        go_enter Tryd.func79, Tryd.ntmps79
        go_wp2
        go_ret
        exact ⟨ret_bool HF.out.symm, rfl⟩
    · have p2 : ((m : Int) + 1 == 1) = false := by simp; omega
      clear h1
      go_enter Tryd.func79, Tryd.ntmps79
      go_wp2
      go_ret
      exact ⟨ret_bool HF.out.symm, rfl⟩
end Go.Proofs.YtlpccdbcaffmmaaDoor
