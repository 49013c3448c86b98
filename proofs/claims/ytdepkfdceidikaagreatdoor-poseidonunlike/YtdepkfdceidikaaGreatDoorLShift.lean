import Derived.Test.YtdepkfdceidikaaGreatDoorLMul
import Derived.StillTailTactics
import Derived.Deep.QuietTactic
import Derived.BigQuiet
/-
  limb.subMultiple, limb.multiply, limb.Mul: what each call does.
-/
namespace Go.Proofs.YtdepkfdceidikaaGreatDoor
open Go.RowKit
set_option linter.unusedVariables false

/-- The relation of subMultiple's loop. -/
def SMRel (w : World) (b o n : Nat) (ws0 lb : List Nat) (f : Nat) (wr : World) (k c : Nat) : Prop :=
  ∃ ws : List Nat, ws.length = ws0.length ∧ BlkW wr b 34 ws ∧ Below b w wr ∧ (∀ j, (j < o ∨ o + k ≤ j) → ws.getD j 0 = ws0.getD j 0) ∧ c < 18446744073709551616 ∧
    pv 18446744073709551616 (ws.drop o) k + f * pv 18446744073709551616 lb k = pv 18446744073709551616 (ws0.drop o) k + c * 18446744073709551616 ^ k

theorem sm_step (W p q r c s c' x y f P : Nat) (h : r + f * q = p + c * P) (e : s + y * f + c = x + c' * W) : (r + s * P) + f * (q + y * P) = (p + x * P) + c' * (P * W) := by
  have : (s + y * f + c) * P = (x + c' * W) * P := by rw [e]
  grind

theorem sm_word (o p c : Nat) (ho : o < 18446744073709551616) (hp : p ≤ 340282366920938463426481119284349108225) (hc : c < 18446744073709551616) :
    p / 18446744073709551616 + (p % 18446744073709551616 + c) / 18446744073709551616 + borN o ((p % 18446744073709551616 + c) % 18446744073709551616) < 18446744073709551616 ∧
    (o + 18446744073709551616 - (p % 18446744073709551616 + c) % 18446744073709551616) % 18446744073709551616 + p + c =
      o + (p / 18446744073709551616 + (p % 18446744073709551616 + c) / 18446744073709551616 + borN o ((p % 18446744073709551616 + c) % 18446744073709551616)) * 18446744073709551616 := by
  unfold borN; split <;> omega

/-- The word that is stored, and the borrow that goes on. -/
def smS (o x f c : Int) : Int := (o - (mulLo x f + c)) % 18446744073709551616
def smC (o x f c : Int) : Int := mulHi x f + (mulLo x f + c) / 18446744073709551616 + bor o ((mulLo x f + c) % 18446744073709551616)

theorem SMRel.step {w wr : World} {b o n k c f : Nat} {ws0 lb ws : List Nat} (hb : allLt lb) (h0 : allLt ws0) (hf : f < 18446744073709551616) (h : SMRel w b o n ws0 lb f wr k c) (hk : o + k < ws0.length) :
    ∃ c' : Nat, (c' : Int) = smC (at64 ws0 (o + k)) (at64 lb k) f c ∧ SMRel w b o n ws0 lb f (wr.setCell ⟨b, o + k, none⟩ (.int .u64 (smS (at64 ws0 (o + k)) (at64 lb k) f c))) (k + 1) c' := by
  obtain ⟨ws, hl, hB, hb', hj, hc, he⟩ := h
  have h1 := getD_lt _ (by decide) ws0 h0 (o + k)
  have h2 := getD_lt _ (by decide) lb hb k
  have h3 := mul_bound _ _ h2 hf
  obtain ⟨g1, g2⟩ := sm_word _ _ c h1 h3 hc
  refine ⟨_, ?_, ws.set (o + k) ((ws0.getD (o + k) 0 + 18446744073709551616 - (lb.getD k 0 * f % 18446744073709551616 + c) % 18446744073709551616) % 18446744073709551616), by simp [hl], hB.setI _ _ _ (Nat.mod_lt _ (by decide)) ?_, hb'.setCell (Nat.le_refl _) _, ?_, g1, ?_⟩
  · unfold smC mulHi mulLo at64
    rw [← Int.natCast_mul, Int.natCast_add, ← bor_nat]
    have e1 : (((lb.getD k 0 * f % 18446744073709551616 + c) % 18446744073709551616 : Nat) : Int) = ((lb.getD k 0 * f : Nat) % 18446744073709551616 + (c : Int)) % 18446744073709551616 := by omega
    rw [e1]
    omega
  · unfold smS mulLo at64
    rw [← Int.natCast_mul]; omega
  · intro j hjj
    rw [getD_set_ne _ _ _ _ (by omega)]
    exact hj j (by omega)
  · rw [pv_drop_set _ _ _ _ _ (by omega), pv_succ, pv_succ, Nat.pow_succ, getD_drop]
    exact sm_step _ _ _ _ c _ _ _ _ _ _ he g2

set_option maxHeartbeats 1000000 in
theorem subMultiple_c (A Bb : Option Addr) (b o n ca cb : Nat) (ws0 lb : List Nat) (f : Nat) (w : World) (hA : 0 < n → A = some ⟨b, o, none⟩) (hw : BlkW w b 34 ws0) (ho : o + n ≤ ws0.length)
    (hb : Rd w b Bb n lb) (hf : f < 18446744073709551616) (hn : n ≤ 100000) :
    Calls Tryz.prog 122 #[.slice A n ca, .slice Bb n cb, .int .u64 f] w fun e w' => ∃ c : Nat, e = .returned (.int .u64 c) ∧ SMRel w b o n ws0 lb f w' n c := by
  have hf0 : (0 : Int) ≤ f := by omega
  have hf1 : (f : Int) < 18446744073709551616 := by omega
  go_enter Tryz.func122, Tryz.ntmps122
  go_wp2
  go_loopw [7, 15] (fun c i wr => ∃ k q : Nat, k ≤ n ∧ i = .int .i64 k ∧ c = .int .u64 q ∧ SMRel w b o n ws0 lb f wr k q) (fun _ i _ => n - (intOf i).toNat)
  case atStart =>
    exact ⟨0, 0, Nat.zero_le _, rfl, rfl, ws0, rfl, hw, Below.refl _ _, fun _ _ => rfl, by omega, by simp [pv]⟩
  case round =>
    obtain ⟨k, q, hk, rfl, rfl, hrel⟩ := hrel
    by_cases hlt : k < n
    · have hst := SMRel.step (n := n) (ws := ws0) hb.lt hw.lt hf hrel (by omega)
      obtain ⟨ws, hl, hB, hbl, hj, hq, he⟩ := hrel
      have rb := hb.below hbl (Nat.le_refl _)
      obtain ⟨bb, ob, rfl, hbb, hcb⟩ := rb.at_ hlt
      obtain rfl := hA (by omega)
      have hcell := hB.cell (i := o + k) (by omega)
      have hfz := hB.frozen (o + k)
      have hgd : at64 ws (o + k) = at64 ws0 (o + k) := by unfold at64; rw [hj _ (Or.inr (Nat.le_refl _))]
      rw [hgd] at hcell
      have h1 := at64_nonneg lb k
      have h1' := at64_lt hb.lt k
      have h2 := at64_nonneg ws0 (o + k)
      have h2' := at64_lt hw.lt (o + k)
      have q0 : (0 : Int) ≤ q := by omega
      have q1 : (q : Int) < 18446744073709551616 := by omega
      obtain ⟨l0, l1⟩ := mulLo_bd (at64 lb k) f
      obtain ⟨m0, m1⟩ := mulHi_bd (at64 lb k) f h1 h1' hf0 hf1
      clear hl hj he hgd
      go_wp2_with fail
      refine (mul64_c _ _ h1 h1' hf0 hf1 _).mono ?_
      rintro e w' ⟨rfl, rfl⟩
      go_wp2_with (first | simp only [add64_0 _ _ l0 q0] | simp only [sub64_0 _ _ h2 (show (0:Int) ≤ (mulLo (at64 lb k) f + q) % 18446744073709551616 by omega) (show (mulLo (at64 lb k) f + q) % 18446744073709551616 < 18446744073709551616 by omega)])
      go_roundw
      case rel =>
        obtain ⟨c', e', r'⟩ := hst
        refine ⟨k + 1, c', by omega, by go_num, ?_, r'⟩
        have : c' < 18446744073709551616 := (by obtain ⟨_, _, _, _, _, h, _⟩ := r'; exact h)
        rw [IntKind.wrap_u64, e']
        have e2 : smC (at64 ws0 (o + k)) (at64 lb k) f q % 18446744073709551616 = smC (at64 ws0 (o + k)) (at64 lb k) f q := by omega
        rw [← e2]; rfl
      case measure => simp [intOf]; omega
    · have : k = n := by omega
      subst this
      go_wp2
      go_ret
      exact ⟨q, rfl, hrel⟩

/-- The relation of multiply's loop. -/
def MRel (w : World) (b N nb : Nat) (la lb : List Nat) (wr : World) (k : Nat) : Prop :=
  ∃ ws : List Nat, ws.length = N ∧ BlkW wr b 34 ws ∧ Below b w wr ∧ (∀ j, k + nb ≤ j → ws.getD j 0 = 0) ∧
    pv 18446744073709551616 ws (k + nb) = pv 18446744073709551616 la k * pv 18446744073709551616 lb nb

theorem m_step (p q r c f v Wi Wn : Nat) (h1 : r + c * Wn = q + f * v) : p + Wi * r + c * (Wi * Wn) = (p + Wi * q) + f * Wi * v := by
  have : (r + c * Wn) * Wi = (q + f * v) * Wi := by rw [h1]
  grind

theorem MRel.step {w wr w2 : World} {b N nb k c : Nat} {la lb ws : List Nat} (hl : ws.length = N) (hz : ∀ j, k + nb ≤ j → ws.getD j 0 = 0) (hbl : Below b w wr)
    (he : pv 18446744073709551616 ws (k + nb) = pv 18446744073709551616 la k * pv 18446744073709551616 lb nb) (h : AMRel wr b k nb ws lb (la.getD k 0) w2 nb c) (hk : k + nb < N) :
    MRel w b N nb la lb (w2.setCell ⟨b, k + nb, none⟩ (.int .u64 (c : Int))) (k + 1) := by
  obtain ⟨ws2, hl2, hB, hb', hj, hc, he2⟩ := h
  refine ⟨ws2.set (k + nb) c, by simp [hl2, hl], hB.set _ _ hc, (hbl.trans hb').setCell (Nat.le_refl _) _, ?_, ?_⟩
  · intro j hjj
    rw [getD_set_ne _ _ _ _ (by omega), hj j (Or.inr (by omega))]
    exact hz j (by omega)
  · rw [show k + 1 + nb = (k + nb) + 1 by omega, pv_set_succ _ _ _ _ (by omega), pv_drop, pv_succ, Nat.add_mul, ← he, pv_drop _ ws]
    have e0 : pv 18446744073709551616 ws2 k = pv 18446744073709551616 ws k := pv_congr _ _ _ _ fun i hi => hj i (Or.inl hi)
    rw [e0, Nat.pow_add]
    exact m_step _ _ _ _ _ _ _ _ he2

end Go.Proofs.YtdepkfdceidikaaGreatDoor
/-
  limb.shiftUp, limb.shiftDown: what each call does.
-/
namespace Go.Proofs.YtdepkfdceidikaaGreatDoor
open Go.RowKit
set_option linter.unusedVariables false

theorem pow_split (s : Nat) (hs : s ≤ 63) : 2 ^ (64 - s) * 2 ^ s = 18446744073709551616 := by
  rw [← Nat.pow_add, show 64 - s + s = 64 by omega]
theorem shl_mod (x s : Nat) (hs : s ≤ 63) : x * 2 ^ s % 18446744073709551616 = (x % 2 ^ (64 - s)) * 2 ^ s := by
  rw [← pow_split s hs, Nat.mul_mod_mul_right]
theorem or_up (x y s : Nat) (hs : s ≤ 63) (hy : y < 18446744073709551616) : (x * 2 ^ s % 18446744073709551616) ||| (y / 2 ^ (64 - s)) = x * 2 ^ s % 18446744073709551616 + y / 2 ^ (64 - s) := by
  have hb : y / 2 ^ (64 - s) < 2 ^ s := by
    rw [Nat.div_lt_iff_lt_mul (Nat.two_pow_pos _), Nat.mul_comm, pow_split s hs]; exact hy
  rw [shl_mod x s hs, ← Nat.shiftLeft_eq, Nat.shiftLeft_add_eq_or_of_lt hb]
theorem or_down (x y s : Nat) (hs : s ≤ 63) (hx : x < 18446744073709551616) : (x / 2 ^ s) ||| (y * 2 ^ (64 - s) % 18446744073709551616) = x / 2 ^ s + (y % 2 ^ s) * 2 ^ (64 - s) := by
  have hb : x / 2 ^ s < 2 ^ (64 - s) := by
    rw [Nat.div_lt_iff_lt_mul (Nat.two_pow_pos _), pow_split s hs]; exact hx
  have e : y * 2 ^ (64 - s) % 18446744073709551616 = (y % 2 ^ s) * 2 ^ (64 - s) := by
    have := pow_split s hs
    rw [Nat.mul_comm] at this
    rw [← this, Nat.mul_mod_mul_right]
  rw [e, ← Nat.shiftLeft_eq, Nat.or_comm, ← Nat.shiftLeft_add_eq_or_of_lt hb, Nat.add_comm]

/-- The words of a number that is shifted up. -/
def upZ (l : List Nat) (s i : Nat) : Nat := l.getD i 0 * 2 ^ s % 18446744073709551616 + (if i = 0 then 0 else l.getD (i - 1) 0 / 2 ^ (64 - s))
theorem upZ_lt (l : List Nat) (hl : allLt l) (s i : Nat) (hs : s ≤ 63) : upZ l s i < 18446744073709551616 := by
  unfold upZ
  split
  · omega
  · rw [← or_up _ _ s hs (getD_lt _ (by decide) l hl _)]
    have hb : l.getD (i - 1) 0 / 2 ^ (64 - s) < 2 ^ 64 := Nat.lt_of_le_of_lt (Nat.div_le_self _ _) (getD_lt _ (by decide) l hl _)
    exact Nat.or_lt_two_pow (n := 64) (by omega) hb
theorem up_word (x y : Nat) (s : Nat) (hs : s ≤ 63) (hx : x < 18446744073709551616) (hy : y < 18446744073709551616) :
    bits .or .u64 (IntKind.u64.wrap ((x : Int) * 2 ^ s)) ((y : Int) / 2 ^ (64 - s)) = ((x * 2 ^ s % 18446744073709551616 + y / 2 ^ (64 - s) : Nat) : Int) := by
  have e1 : IntKind.u64.wrap ((x : Int) * 2 ^ s) = ((x * 2 ^ s % 18446744073709551616 : Nat) : Int) := by
    rw [IntKind.wrap_u64, show ((2 : Int) ^ s) = ((2 ^ s : Nat) : Int) by simp, ← Int.natCast_mul]; omega
  have e2 : (y : Int) / 2 ^ (64 - s) = ((y / 2 ^ (64 - s) : Nat) : Int) := by
    rw [show ((2 : Int) ^ (64 - s)) = ((2 ^ (64 - s) : Nat) : Int) by simp, ← Int.natCast_ediv]
  have hb : y / 2 ^ (64 - s) < 18446744073709551616 := Nat.lt_of_le_of_lt (Nat.div_le_self _ _) hy
  rw [e1, e2, bits_or_u64_nat _ _ (Nat.mod_lt _ (by decide)) hb, or_up x y s hs hy]
theorem up_word0 (x s : Nat) : IntKind.u64.wrap ((x : Int) * 2 ^ s) = ((x * 2 ^ s % 18446744073709551616 : Nat) : Int) := by
  rw [IntKind.wrap_u64, show ((2 : Int) ^ s) = ((2 ^ s : Nat) : Int) by simp, ← Int.natCast_mul]; omega
theorem down_word (x y : Nat) (s : Nat) (hs : s ≤ 63) (hx : x < 18446744073709551616) (hy : y < 18446744073709551616) :
    bits .or .u64 ((x : Int) / 2 ^ s) (IntKind.u64.wrap ((y : Int) * 2 ^ (64 - s))) = ((x / 2 ^ s + (y % 2 ^ s) * 2 ^ (64 - s) : Nat) : Int) := by
  have e1 := up_word0 y (64 - s)
  have e2 : (x : Int) / 2 ^ s = ((x / 2 ^ s : Nat) : Int) := by
    rw [show ((2 : Int) ^ s) = ((2 ^ s : Nat) : Int) by simp, ← Int.natCast_ediv]
  have hb : x / 2 ^ s < 18446744073709551616 := Nat.lt_of_le_of_lt (Nat.div_le_self _ _) hx
  rw [e1, e2, bits_or_u64_nat _ _ hb (Nat.mod_lt _ (by decide)), or_down x y s hs hx]

theorem up_pv (l z : List Nat) (s : Nat) (hs : s ≤ 63) (k : Nat) (h : ∀ i, i < k → z.getD i 0 = upZ l s i) :
    pv 18446744073709551616 z k + (if k = 0 then 0 else l.getD (k - 1) 0 / 2 ^ (64 - s)) * 18446744073709551616 ^ k = 2 ^ s * pv 18446744073709551616 l k := by
  induction k with
  | zero => simp [pv]
  | succ k ih =>
    have ih' := ih fun i hi => h i (by omega)
    rw [pv_succ, pv_succ, h k (by omega), Nat.pow_succ, if_neg (by omega), show k + 1 - 1 = k from rfl]
    unfold upZ
    have e : l.getD k 0 * 2 ^ s % 18446744073709551616 + l.getD k 0 / 2 ^ (64 - s) * 18446744073709551616 = l.getD k 0 * 2 ^ s := by
      have e2 : l.getD k 0 / 2 ^ (64 - s) = l.getD k 0 * 2 ^ s / 18446744073709551616 := by
        rw [← pow_split s hs, Nat.mul_div_mul_right _ _ (Nat.two_pow_pos s)]
      rw [e2]; omega
    generalize (if k = 0 then 0 else l.getD (k - 1) 0 / 2 ^ (64 - s)) = d at ih' ⊢
    generalize l.getD k 0 * 2 ^ s % 18446744073709551616 = m at e ⊢
    generalize l.getD k 0 / 2 ^ (64 - s) = q at e ⊢
    generalize l.getD k 0 = x at e ⊢
    generalize pv 18446744073709551616 z k = p at ih' ⊢
    generalize pv 18446744073709551616 l k = p' at ih' ⊢
    generalize 18446744073709551616 ^ k = P at ih' ⊢
    generalize 2 ^ s = S at e ih' ⊢
    have e3 : (m + q * 18446744073709551616) * P = x * S * P := by rw [e]
    grind
theorem down_pv (l z : List Nat) (s : Nat) (hs : s ≤ 63) (n : Nat) (h : ∀ i, i < n → z.getD i 0 = l.getD i 0 / 2 ^ s + (l.getD (i + 1) 0 % 2 ^ s) * 2 ^ (64 - s)) (hl : z.getD n 0 = l.getD n 0 / 2 ^ s) :
    pv 18446744073709551616 z (n + 1) = pv 18446744073709551616 l (n + 1) / 2 ^ s := by
  have key : ∀ k, k ≤ n → 2 ^ s * pv 18446744073709551616 z k + l.getD 0 0 % 2 ^ s = pv 18446744073709551616 l k + (l.getD k 0 % 2 ^ s) * 18446744073709551616 ^ k := by
    intro k hk
    induction k with
    | zero => simp [pv]
    | succ k ih =>
      have ih' := ih (by omega)
      rw [pv_succ, pv_succ, h k (by omega), Nat.pow_succ]
      have e := Nat.div_add_mod (l.getD k 0) (2 ^ s)
      have e2 := pow_split s hs
      generalize l.getD (k + 1) 0 % 2 ^ s = y at ih' ⊢
      generalize l.getD k 0 % 2 ^ s = m at e ih' ⊢
      generalize l.getD k 0 / 2 ^ s = q at e ⊢
      generalize l.getD k 0 = x at e ⊢
      generalize pv 18446744073709551616 z k = p at ih' ⊢
      generalize pv 18446744073709551616 l k = p' at ih' ⊢
      generalize l.getD 0 0 % 2 ^ s = c at ih' ⊢
      generalize 18446744073709551616 ^ k = P at ih' ⊢
      generalize 2 ^ s = S at e e2 ih' ⊢
      generalize 2 ^ (64 - s) = T at e2 ⊢
      subst e
      have e3 : T * S * (y * P) = 18446744073709551616 * (y * P) := by rw [e2]
      grind
  have k1 := key n (Nat.le_refl _)
  have hS : 0 < 2 ^ s := Nat.two_pow_pos s
  have e := Nat.div_add_mod (l.getD n 0) (2 ^ s)
  have hm : l.getD 0 0 % 2 ^ s < 2 ^ s := Nat.mod_lt _ hS
  rw [pv_succ, pv_succ, hl]
  have e4 : pv 18446744073709551616 l n + l.getD n 0 * 18446744073709551616 ^ n = l.getD 0 0 % 2 ^ s + 2 ^ s * (pv 18446744073709551616 z n + l.getD n 0 / 2 ^ s * 18446744073709551616 ^ n) := by
    generalize l.getD n 0 % 2 ^ s = m at e k1 ⊢
    generalize l.getD n 0 / 2 ^ s = q at e ⊢
    generalize l.getD n 0 = x at e ⊢
    generalize l.getD 0 0 % 2 ^ s = c at k1 ⊢
    generalize 18446744073709551616 ^ n = P at k1 ⊢
    generalize 2 ^ s = S at e k1 ⊢
    subst e
    grind
  rw [e4, Nat.add_mul_div_left _ _ hS, Nat.div_eq_of_lt hm, Nat.zero_add]

/-- The relation of shiftUp's loop: words from k + 1 to n are shifted. -/
def UpRel (w : World) (b n s : Nat) (ws0 : List Nat) (wr : World) (k : Nat) : Prop :=
  ∃ ws : List Nat, ws.length = ws0.length ∧ BlkW wr b 34 ws ∧ Below b w wr ∧ ∀ j, ws.getD j 0 = if k ≤ j ∧ j ≤ n then upZ ws0 s j else ws0.getD j 0

theorem UpRel.step {w wr : World} {b n s k : Nat} {ws0 : List Nat} (h0 : allLt ws0) (hs : s ≤ 63) (h : UpRel w b n s ws0 wr (k + 1)) (hk : k ≤ n) (hn : n < ws0.length) (v : Int) (hv : v = (upZ ws0 s k : Nat)) :
    UpRel w b n s ws0 (wr.setCell ⟨b, k, none⟩ (.int .u64 v)) k := by
  obtain ⟨ws, hl, hB, hb, hj⟩ := h
  refine ⟨ws.set k (upZ ws0 s k), by simp [hl], hB.setI _ _ _ (upZ_lt _ h0 _ _ hs) hv, hb.setCell (Nat.le_refl _) _, fun j => ?_⟩
  by_cases hjk : j = k
  · subst hjk
    rw [getD_set_eq _ _ _ (by omega), if_pos (by omega)]
  · rw [getD_set_ne _ _ _ _ (by omega), hj j]
    by_cases hc : k + 1 ≤ j ∧ j ≤ n
    · rw [if_pos hc, if_pos (by omega)]
    · rw [if_neg hc, if_neg (by omega)]
theorem UpRel.drew {w wr : World} {b n s k : Nat} {ws0 : List Nat} (h : UpRel w b n s ws0 wr k) : UpRel w b n s ws0 wr.drew k := by
  obtain ⟨ws, hl, hB, hb, hj⟩ := h
  exact ⟨ws, hl, ⟨hB.heap, hB.lt⟩, hb.drew, hj⟩

set_option maxRecDepth 100000 in
set_option maxHeartbeats 1000000 in
theorem shiftUp_r (b n c s : Nat) (ws0 : List Nat) (w : World) (hB : BlkW w b 34 ws0) (hn : n + 1 ≤ ws0.length) (hs : s ≤ 63) (hn' : n ≤ 10000) :
    Calls Tryz.prog 83 #[.slice (some ⟨b, 0, none⟩) (n + 1) c, .int .i64 s] w fun e w' => e = .returned (.tuple #[]) ∧ UpRel w b n s ws0 w' 0 := by
  go_enter Tryz.func83, Tryz.ntmps83
  go_wp2
  go_loopw [4] (fun i wr => ∃ k : Nat, k ≤ n ∧ i = .int .i64 k ∧ UpRel w b n s ws0 wr (k + 1)) (fun i _ => (intOf i).toNat)
  case atStart => exact ⟨n, Nat.le_refl _, by go_num, ws0, rfl, hB, Below.refl _ _, fun j => by rw [if_neg (by omega)]⟩
  case round =>
    obtain ⟨k, hk, rfl, hrel⟩ := hrel
    obtain ⟨ws, hl, hB1, hb1, hj⟩ := id hrel
    rcases k with _ | k
    · have c0 := hB1.cell (i := 0) (by omega)
      have f0 := hB1.frozen 0
      have g0 : at64 ws 0 = at64 ws0 0 := by unfold at64; rw [hj 0, if_neg (by omega)]
      rw [g0] at c0
      have HST := hid (UpRel.step hB.lt hs hrel hk (by omega) _ (show IntKind.u64.wrap (at64 ws0 0 * 2 ^ s) = _ by unfold upZ; rw [if_pos rfl, Nat.add_zero]; exact up_word0 _ _))
      clear hl hj g0
      go_wp2
      go_end0
      exact ⟨rfl, HST.out⟩
    · have e1 : ((k + 1 : Nat) : Int) = (k : Int) + 1 := by omega
      rw [e1]
      clear e1
      have c0 := hB1.cell (i := k) (by omega)
      have c1 := hB1.cell (i := k + 1) (by omega)
      have g0 : at64 ws k = at64 ws0 k := by unfold at64; rw [hj k, if_neg (by omega)]
      have g1 : at64 ws (k + 1) = at64 ws0 (k + 1) := by unfold at64; rw [hj (k + 1), if_neg (by omega)]
      rw [g0] at c0
      rw [g1] at c1
      have f0 := hB1.frozen (k + 1)
      have x0 := at64_nonneg ws0 k
      have x1 := at64_nonneg ws0 (k + 1)
      have HST := hid (UpRel.step hB.lt hs hrel hk (by omega) _ (show bits .or .u64 (IntKind.u64.wrap (at64 ws0 (k + 1) * 2 ^ s)) (at64 ws0 k / 2 ^ (64 - s)) = _ by
        unfold upZ; rw [if_neg (by omega)]; exact up_word _ _ s hs (getD_lt _ (by decide) ws0 hB.lt _) (getD_lt _ (by decide) ws0 hB.lt _)))
      have i0 : (0 : Int) ≤ (k : Int) := by omega
      have i1 : (k : Int) < (n : Int) + 1 := by omega
      have i2 : (k : Int) + 1 < (n : Int) + 1 := by omega
      have i3 : (0 : Int) ≤ (k : Int) + 1 := by omega
      have i4 : IntKind.i64.wrap (k : Int) = (k : Int) := by rw [IntKind.wrap_i64]; omega
      have i5 : ((k : Int) + 1).toNat = k + 1 := by omega
      have i6 : IntKind.i64.wrap (64 - (s : Int)) = ((64 - s : Nat) : Int) := by rw [IntKind.wrap_i64]; omega
      clear hl hj g0 g1
      go_wp2
      go_still_tail 18, (by kernel_rfl)
      change wpList _ _ _ _ _ wr.drew
      clear i4 i5 i6
      go_wp2
      go_roundw
      case rel => exact ⟨k, by omega, by go_num, HST.out.drew⟩
      case measure => simp [intOf]
theorem shiftUp_c (b n c s : Nat) (ws0 : List Nat) (w : World) (hB : BlkW w b 34 ws0) (hn : n + 1 ≤ ws0.length) (hs : s ≤ 63) (hn' : n ≤ 10000) :
    Calls Tryz.prog 83 #[.slice (some ⟨b, 0, none⟩) (n + 1) c, .int .i64 s] w fun e w' => e = .returned (.tuple #[]) ∧
      ∃ ws, ws.length = ws0.length ∧ BlkW w' b 34 ws ∧ Below b w w' ∧ pv 18446744073709551616 ws (n + 1) = 2 ^ s * pv 18446744073709551616 ws0 (n + 1) % 18446744073709551616 ^ (n + 1) := by
  refine (shiftUp_r b n c s ws0 w hB hn hs hn').mono ?_
  rintro e w' ⟨rfl, ws, hl, hB', hb, hj⟩
  refine ⟨rfl, ws, hl, hB', hb, ?_⟩
  have := up_pv ws0 ws s hs (n + 1) fun i hi => by rw [hj i, if_pos (by omega)]
  rw [← this, Nat.add_mul_mod_self_right, Nat.mod_eq_of_lt (pv_lt _ (by decide) ws hB'.lt _)]

/-- The relation of shiftDown's loop: words below k are shifted. -/
def DnRel (w : World) (b s : Nat) (ws0 : List Nat) (wr : World) (k : Nat) : Prop :=
  ∃ ws : List Nat, ws.length = ws0.length ∧ BlkW wr b 34 ws ∧ Below b w wr ∧ ∀ j, ws.getD j 0 = if j < k then ws0.getD j 0 / 2 ^ s + (ws0.getD (j + 1) 0 % 2 ^ s) * 2 ^ (64 - s) else ws0.getD j 0
theorem DnRel.drew {w wr : World} {b s k : Nat} {ws0 : List Nat} (h : DnRel w b s ws0 wr k) : DnRel w b s ws0 wr.drew k := by
  obtain ⟨ws, hl, hB, hb, hj⟩ := h
  exact ⟨ws, hl, ⟨hB.heap, hB.lt⟩, hb.drew, hj⟩
theorem dn_lt (x y s : Nat) (hs : s ≤ 63) (hx : x < 18446744073709551616) : x / 2 ^ s + (y % 2 ^ s) * 2 ^ (64 - s) < 18446744073709551616 := by
  rw [← or_down x y s hs hx]
  exact Nat.or_lt_two_pow (n := 64) (Nat.lt_of_le_of_lt (Nat.div_le_self _ _) hx) (Nat.mod_lt _ (by decide))
theorem DnRel.step {w wr : World} {b s k : Nat} {ws0 : List Nat} (h0 : allLt ws0) (hs : s ≤ 63) (h : DnRel w b s ws0 wr k) (hk : k < ws0.length) (v : Int) (hv : v = ((ws0.getD k 0 / 2 ^ s + (ws0.getD (k + 1) 0 % 2 ^ s) * 2 ^ (64 - s) : Nat) : Int)) :
    DnRel w b s ws0 (wr.setCell ⟨b, k, none⟩ (.int .u64 v)) (k + 1) := by
  obtain ⟨ws, hl, hB, hb, hj⟩ := h
  refine ⟨ws.set k (ws0.getD k 0 / 2 ^ s + (ws0.getD (k + 1) 0 % 2 ^ s) * 2 ^ (64 - s)), by simp [hl], hB.setI _ _ _ (dn_lt _ _ s hs (getD_lt _ (by decide) ws0 h0 _)) hv, hb.setCell (Nat.le_refl _) _, fun j => ?_⟩
  by_cases hjk : j = k
  · subst hjk
    rw [getD_set_eq _ _ _ (by omega), if_pos (by omega)]
  · rw [getD_set_ne _ _ _ _ (by omega), hj j]
    by_cases hc : j < k
    · rw [if_pos hc, if_pos (by omega)]
    · rw [if_neg hc, if_neg (by omega)]

set_option maxRecDepth 100000 in
set_option maxHeartbeats 1000000 in
theorem shiftDown_c (b n c s : Nat) (ws0 : List Nat) (w : World) (hB : BlkW w b 34 ws0) (hn : n + 1 ≤ ws0.length) (hs : s ≤ 63) (hn' : n ≤ 10000) :
    Calls Tryz.prog 112 #[.slice (some ⟨b, 0, none⟩) (n + 1) c, .int .i64 s] w fun e w' => e = .returned (.tuple #[]) ∧
      ∃ ws, ws.length = ws0.length ∧ BlkW w' b 34 ws ∧ Below b w w' ∧ pv 18446744073709551616 ws (n + 1) = pv 18446744073709551616 ws0 (n + 1) / 2 ^ s := by
  go_enter Tryz.func112, Tryz.ntmps112
  go_wp2
  go_loopw [10] (fun i wr => ∃ k : Nat, k ≤ n ∧ i = .int .i64 k ∧ DnRel w b s ws0 wr k) (fun i _ => n - (intOf i).toNat)
  case atStart => exact ⟨0, Nat.zero_le _, rfl, ws0, rfl, hB, Below.refl _ _, fun j => by rw [if_neg (by omega)]⟩
  case round =>
    obtain ⟨k, hk, rfl, hrel⟩ := hrel
    obtain ⟨ws, hl, hB1, hb1, hj⟩ := id hrel
    by_cases hlt : k < n
    · have c0 := hB1.cell (i := k) (by omega)
      have c1 := hB1.cell (i := k + 1) (by omega)
      have g0 : at64 ws k = at64 ws0 k := by unfold at64; rw [hj k, if_neg (by omega)]
      have g1 : at64 ws (k + 1) = at64 ws0 (k + 1) := by unfold at64; rw [hj (k + 1), if_neg (by omega)]
      rw [g0] at c0
      rw [g1] at c1
      have f0 := hB1.frozen k
      have x0 := at64_nonneg ws0 k
      have x1 := at64_nonneg ws0 (k + 1)
      have HST := hid (DnRel.step hB.lt hs hrel (by omega) _ (show bits .or .u64 (at64 ws0 k / 2 ^ s) (IntKind.u64.wrap (at64 ws0 (k + 1) * 2 ^ (64 - s))) = _ by
        exact down_word _ _ s hs (getD_lt _ (by decide) ws0 hB.lt _) (getD_lt _ (by decide) ws0 hB.lt _)))
      have i0 : (0 : Int) ≤ (k : Int) := by omega
      have i1 : (k : Int) < (n : Int) + 1 := by omega
      have i2 : (k : Int) + 1 < (n : Int) + 1 := by omega
      have i3 : (0 : Int) ≤ (k : Int) + 1 := by omega
      have i4 : IntKind.i64.wrap ((k : Int) + 1) = (k : Int) + 1 := by rw [IntKind.wrap_i64]; omega
      have i5 : ((k : Int) + 1).toNat = k + 1 := by omega
      have i6 : IntKind.i64.wrap (64 - (s : Int)) = ((64 - s : Nat) : Int) := by rw [IntKind.wrap_i64]; omega
      clear hl hj g0 g1
      go_wp2
      go_still_tail 18, (by kernel_rfl)
      change wpList _ _ _ _ _ wr.drew
      clear i4 i5 i6
      go_wp2
      go_roundw
      case rel => exact ⟨k + 1, by omega, by go_num, HST.out.drew⟩
      case measure => simp [intOf]; omega
    · obtain rfl : k = n := by omega
      have c0 := hB1.cell (i := k) (by omega)
      have f0 := hB1.frozen k
      have g0 : at64 ws k = at64 ws0 k := by unfold at64; rw [hj k, if_neg (by omega)]
      rw [g0] at c0
      have x0 := at64_nonneg ws0 k
      have hd : at64 ws0 k / 2 ^ s = ((ws0.getD k 0 / 2 ^ s : Nat) : Int) := by
        unfold at64; rw [show ((2 : Int) ^ s) = ((2 ^ s : Nat) : Int) by simp, ← Int.natCast_ediv]
      have R : Hid (∃ ws, ws.length = ws0.length ∧ BlkW (wr.setCell ⟨b, k, none⟩ (.int .u64 (at64 ws0 k / 2 ^ s))) b 34 ws ∧ Below b w (wr.setCell ⟨b, k, none⟩ (.int .u64 (at64 ws0 k / 2 ^ s))) ∧ pv 18446744073709551616 ws (k + 1) = pv 18446744073709551616 ws0 (k + 1) / 2 ^ s) := by
        refine ⟨ws.set k (ws0.getD k 0 / 2 ^ s), by simp [hl], hB1.setI _ _ _ (Nat.lt_of_le_of_lt (Nat.div_le_self _ _) (getD_lt _ (by decide) ws0 hB.lt _)) hd, hb1.setCell (Nat.le_refl _) _, ?_⟩
        refine down_pv ws0 _ s hs k (fun i hi => ?_) (getD_set_eq _ _ _ (by omega))
        rw [getD_set_ne _ _ _ _ (by omega), hj i, if_pos hi]
      clear hl hj g0 hd
      go_wp2
      go_end0
      exact ⟨rfl, R.out⟩
end Go.Proofs.YtdepkfdceidikaaGreatDoor
