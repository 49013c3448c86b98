import Derived.Test.YteogjnendkbjcaaDoorBytes0
import Derived.Test.YteogjnendkbjcaaDoorRefA
import Derived.Test.YteogjnendkbjcaaDoorLShift
import Derived.Test.YteogjnendkbjcaaDoorLSub
/-
  limb.Bytes, avouchref01.Bytes: what each call does.
-/
namespace Go.Proofs.YteogjnendkbjcaaDoor
open Go.RowKit
set_option linter.unusedVariables false

/-- The slice of e is new, has n bytes, and reads as a list whose number is X. -/
def Bts (w : World) (e : Ending) (w' : World) (n X : Nat) : Prop :=
  ∃ A c l, e = .returned (.slice A n c) ∧ n ≤ c ∧ Rd8 w' w'.heap.size A n l ∧ val 256 l = X ∧ Below w.heap.size w w'

theorem pow256 (k j : Nat) : 256 ^ (8 * k + j) = 256 ^ j * 18446744073709551616 ^ k := by
  rw [Nat.pow_add, Nat.pow_mul, Nat.mul_comm]
theorem byte_step (p x j P : Nat) : p + x % 256 ^ j * P + x / 256 ^ j % 256 * (256 ^ j * P) = p + x % 256 ^ (j + 1) * P := by
  have e : x % 256 ^ (j + 1) = x % 256 ^ j + 256 ^ j * (x / 256 ^ j % 256) := by rw [Nat.pow_succ, Nat.mod_mul]
  rw [e]
  generalize x / 256 ^ j % 256 = y
  generalize x % 256 ^ j = z
  generalize 256 ^ j = Q
  grind
theorem octet_at (x j : Nat) : (x : Int) / 2 ^ (8 * j) % 256 = ((x / 256 ^ j % 256 : Nat) : Int) := by
  have e : ((2 : Int) ^ (8 * j)) = ((256 ^ j : Nat) : Int) := by rw [Int.pow_mul]; simp
  rw [e, ← Int.natCast_ediv]; omega
theorem word_mod (x : Nat) (h : x < 18446744073709551616) : x % 256 ^ 8 = x := Nat.mod_eq_of_lt h
theorem ownB_empty (w : World) : OwnB (w.alloc (.cells #[] 5)) w.heap.size (.slice (some ⟨w.heap.size, 0, none⟩) 0 0) [] :=
  ⟨World.ownsRow_made w #[] 0 (Nat.le_refl _) (Nat.zero_le _) rfl, fun x hx => by simp at hx⟩

set_option maxHeartbeats 1000000 in
theorem limbBytes_c (A : Option Addr) (n c : Nat) (l : List Nat) (w : World) (ha : Rd w w.heap.size A n l) (hn : n ≤ 1000) :
    Calls Tryd.prog 22 #[.slice A n c] w fun e w' => Bts w e w' (8 * n) (val 18446744073709551616 l) := by
  have hmk := make8I 0 (8 * n) (Nat.zero_le _) (by omega) 0 ((n : Int) * 8) rfl (by omega)
  go_enter Tryd.func22, Tryd.ntmps22
  go_wp2
  clear hmk
  go_loopw [3, 13] (fun v i wr => ∃ k : Nat, ∃ r : List Nat, k ≤ n ∧ i = .int .i64 k ∧ Hid (r.length = 8 * k) ∧ OwnB wr w.heap.size v r ∧ Below w.heap.size w wr ∧ Hid (val 256 r = pv 18446744073709551616 l k)) (fun _ i _ => n - (intOf i).toNat)
  case atStart => exact ⟨0, [], Nat.zero_le _, rfl, rfl, ownB_made w (8 * n) (by omega), (Below.refl _ _).alloc (Nat.le_refl _) _, rfl⟩
  case round =>
    obtain ⟨k, r, hk, rfl, HL, hown, hbl, HE⟩ := hrel
    by_cases hlt : k < n
    · have ra := ha.below hbl (Nat.le_refl _)
      obtain ⟨ba, oa, rfl, hba, hca⟩ := ra.at_ hlt
      have x0 := at64_nonneg l k
      obtain ⟨w1, rfl⟩ : ∃ x, x = wr := ⟨wr, rfl⟩
      go_wp2
      go_loopw [3, 17] (fun v i wj => ∃ j : Nat, ∃ r : List Nat, j ≤ 8 ∧ i = .int .i64 j ∧ Hid (r.length = 8 * k + j) ∧ OwnB wj w.heap.size v r ∧ Below w.heap.size w wj ∧ Hid (val 256 r = pv 18446744073709551616 l k + l.getD k 0 % 256 ^ j * 18446744073709551616 ^ k)) (fun _ i _ => 8 - (intOf i).toNat)
      case atStart => exact ⟨0, r, by omega, rfl, HL, hown, hbl, by show _ = _; rw [HE.out, Nat.pow_zero, Nat.mod_one, Nat.zero_mul, Nat.add_zero]⟩
      case round =>
        obtain ⟨j, r2, hj, rfl, HL2, hown2, hbl2, HE2⟩ := hrel
        by_cases hlt2 : j < 8
        · have hsz := hbl2.size
          have hl' : r2.length ≤ 100000 := by rw [HL2.out]; omega
          have i0 : (0 : Int) ≤ 8 * (j : Int) := by omega
          have i1 : 8 * (j : Int) ≤ 64 := by omega
          have hs8 : IntKind.i64.wrap (8 * (j : Int)) = 8 * (j : Int) := by rw [IntKind.wrap_i64]; omega
          go_wp2_with (at_builtin; refine append_byte rfl (.tmp 20) (.tmp 26) rfl w.heap.size _ r2 rfl hown2 _ (l.getD k 0 / 256 ^ j % 256) ?e1 ?e2 rfl hl' hsz ?_)
          case e1 => exact octet_at _ _
          case e2 => exact Nat.mod_lt _ (by decide)
          intro v' w' hown' hb'
          have hb2 := hbl2.trans hb'
          have HL3 : Hid ((r2 ++ [l.getD k 0 / 256 ^ j % 256]).length = 8 * k + (j + 1)) := by show _ = _; rw [List.length_append, HL2.out]; rfl
          have HE3 : Hid (val 256 (r2 ++ [l.getD k 0 / 256 ^ j % 256]) = pv 18446744073709551616 l k + l.getD k 0 % 256 ^ (j + 1) * 18446744073709551616 ^ k) := by
            show _ = _
            rw [val_append, HE2.out, HL2.out, pow256]
            exact byte_step _ _ _ _
          go_wp2
          go_roundw
          case rel => exact ⟨j + 1, _, by omega, by go_num, HL3, hown', hb2, HE3⟩
          case measure => simp [intOf]; omega
        · obtain rfl : j = 8 := by omega
          have HE4 : Hid (val 256 r2 = pv 18446744073709551616 l (k + 1)) := by
            show _ = _
            rw [HE2.out, word_mod _ (getD_lt _ (by decide) l ha.lt k), pv_succ]
          have HL4 : Hid (r2.length = 8 * (k + 1)) := by show _ = _; rw [HL2.out]; omega
          go_wp2
          go_roundw
          case rel => exact ⟨k + 1, r2, by omega, by go_num, HL4, hown2, hbl2, HE4⟩
          case measure => simp [intOf]; omega
    · obtain rfl : k = n := by omega
      have HV : Hid (val 256 r = val 18446744073709551616 l) := by show _ = _; rw [HE.out, pv_out _ _ _ (by rw [ha.len]; exact Nat.le_refl _)]
      obtain ⟨A', c', rfl, hc', rd'⟩ := hown.rd
      rw [HL.out] at rd' hc' ⊢
      go_wp2
      go_ret
      exact ⟨A', c', r, rfl, hc', rd', HV.out, hbl⟩

end Go.Proofs.YteogjnendkbjcaaDoor
/-
  avouchref01.Same, Cmp, Words: what each call does.
-/
namespace Go.Proofs.YteogjnendkbjcaaDoor
open Go.RowKit
set_option linter.unusedVariables false

/-- No block has turned, at any number. -/
def Still (w w' : World) : Prop := ∀ B, Below B w w'
theorem Still.refl (w : World) : Still w w := fun B => Below.refl B w
theorem Still.drewN {w w' : World} (h : Still w w') (n : Nat) : Still w (w'.drewN n) := fun B => below_drewN (h B) n
theorem Still.trans {a b c : World} (h : Still a b) (k : Still b c) : Still a c := fun B => (h B).trans (k B)

theorem same_of_all {la lb : List Nat} (hl : la.length = lb.length) (h : ∀ j, j < la.length → la.getD j 0 = lb.getD j 0) : la = lb := by
  apply List.ext_getElem hl
  intro i h1 h2
  have := h i h1
  simpa [List.getD_eq_getElem?_getD, List.getElem?_eq_getElem h1, List.getElem?_eq_getElem h2] using this

end Go.Proofs.YteogjnendkbjcaaDoor
/-
  avouchref01.Words, Digits, Sub: what each call does.
-/
namespace Go.Proofs.YteogjnendkbjcaaDoor
open Go.RowKit
set_option linter.unusedVariables false

theorem Rd.drewN {w : World} {B n : Nat} {A : Option Addr} {l : List Nat} (h : Rd w B A n l) (k : Nat) : Rd (w.drewN k) B A n l := ⟨h.len, h.lt, h.cells⟩
/-- The slice of e is new, has n words, and reads as a list whose number is X. -/
def Wds (w : World) (e : Ending) (w' : World) (n X : Nat) : Prop :=
  ∃ A c l, e = .returned (.slice A n c) ∧ n ≤ c ∧ Rd w' w'.heap.size A n l ∧ val 18446744073709551616 l = X ∧ Below w.heap.size w w'

theorem pv_mod (W : Nat) (hW : 0 < W) (l : List Nat) (h : ∀ x ∈ l, x < W) (k : Nat) : pv W l k = val W l % W ^ k := by
  by_cases hk : l.length ≤ k
  · have b := val_lt W hW l h
    have : W ^ l.length ≤ W ^ k := Nat.pow_le_pow_right hW hk
    rw [pv_out W l k hk, Nat.mod_eq_of_lt (by omega)]
  · have e := pv_drop W l k (l.length - k)
    rw [show k + (l.length - k) = l.length by omega] at e
    have b := pv_lt W hW l h k
    unfold val
    rw [e, Nat.add_mul_mod_self_left, Nat.mod_eq_of_lt b]

theorem words_step (v p x y P : Nat) (h : v = p) : v + (x + y * 4294967296) * P = (p + x * P) + y * (P * 4294967296) := by subst h; grind
theorem pow64 (k : Nat) : 18446744073709551616 ^ k = 4294967296 ^ (2 * k) := by
  rw [Nat.pow_mul]

end Go.Proofs.YteogjnendkbjcaaDoor
