import Derived.Test.YtpjjobophplleaaDoorGnC
import Derived.Laws.Bits64b
import Derived.Test.YtpjjobophplleaaDoorGnA
import Derived.Test.YtpjjobophplleaaDoorPrims
import Derived.Laws.AppendOwn
import Derived.OwnWalk
/-
  grain.Source.Bit, Number: what each call does.
-/
namespace Go.Proofs.YtpjjobophplleaaDoor
open Go.RowKit
set_option linter.unusedVariables false

theorem one_u8 (b : Bool) : (((b.toNat : Nat) : Int) == 1) = b := by cases b <;> rfl
set_option maxRecDepth 20000 in
set_option maxHeartbeats 2000000 in
theorem gbit_c (s b : Nat) (t : TypeId) (w : World) (hs : GS s) (hB : G8 w b t s) :
    Calls Tryd.prog 13 #[.pointer (some ⟨b, 0, none⟩)] w fun e w' => e = .returned (.bool (gbit s)) ∧ G8 w' b t (gnext s) ∧ Only b w w' := by
  have H1 := hid (one_u8 (gbit s))
  go_enter Tryd.func13, Tryd.ntmps13
  go_wp2_with fail
  refine (gnext_c s b t w hs hB).mono ?_
  rintro e w1 ⟨rfl, g1, o1⟩
  have G1 := hid g1
  have O1 := hid o1
  clear g1 o1
  go_wp2
  go_ret
  exact ⟨by rw [H1.out]; rfl, G1.out, O1.out⟩
theorem or_bit (v y : Nat) (hv : v < 9223372036854775808) (hy : y ≤ 1) : bits .or .u64 ((v : Int) * 2) (IntKind.u64.wrap (y : Int)) = ((2 * v + y : Nat) : Int) := by
  have e1 : (v : Int) * 2 = ((2 * v : Nat) : Int) := by omega
  have e2 : IntKind.u64.wrap (y : Int) = (y : Int) := by rw [IntKind.wrap_u64]; omega
  rw [e1, e2, bits_or_u64_nat _ _ (by omega) (by omega)]
  have h := Nat.shiftLeft_add_eq_or_of_lt (i := 1) (show y < 2 ^ 1 by omega) v
  rw [Nat.shiftLeft_eq, Nat.pow_one, Nat.mul_comm v 2] at h
  rw [h]
/-- How many bits are asked for. -/
def gmany (n : Int) : Nat := (min (max n 0) 64).toNat
theorem gmany_eq (n : Int) : min (max n 0) 64 = (gmany n : Int) := by unfold gmany; omega
theorem gmany_le (n : Int) : gmany n ≤ 64 := by unfold gmany; omega
structure NuR (w : World) (b : Nat) (t : TypeId) (s k : Nat) (wr : World) : Prop where
  g : G8 wr b t (gns k s)
  o : Only b w wr
set_option maxRecDepth 20000 in
set_option maxHeartbeats 2000000 in
theorem gnumber_c (s b : Nat) (n : Int) (t : TypeId) (w : World) (hs : GS s) (hB : G8 w b t s) :
    Calls Tryd.prog 11 #[.pointer (some ⟨b, 0, none⟩), .int .i64 n] w fun e w' => e = .returned (.int .u64 (gval (gmany n) s : Nat)) ∧ G8 w' b t (gns (gmany n) s) ∧ Only b w w' := by
  have hm := gmany_eq n
  have hm64 := gmany_le n
  generalize gmany n = m at *
  have R0 : Hid (NuR w b t s 0 w) := ⟨hB, Only.refl _ _⟩
  clear hB
  go_enter Tryd.func11, Tryd.ntmps11
  go_wp2_with fail
  go_loopw [5, 9] (fun u i wr => ∃ k : Nat, k ≤ m ∧ u = .int .u64 (gval k s : Nat) ∧ i = .int .i64 k ∧ NuR w b t s k wr) (fun _ i _ => m - (intOf i).toNat)
  case atStart => exact ⟨0, Nat.zero_le _, rfl, rfl, R0.out⟩
  case round =>
    clear R0
    obtain ⟨k, hk, rfl, rfl, hrel⟩ := hrel
    have HR := hid hrel
    clear hrel
    by_cases hlt : k < m
    · have i2 : (k : Int) < (m : Int) := by omega
      have hv := gval_lt k s
      have HV := hid (gval_last k s)
      have h63 : (2 : Nat) ^ k ≤ 2 ^ 63 := Nat.pow_le_pow_right (by decide) (by omega)
      have hv2 : gval k s < 9223372036854775808 := Nat.lt_of_lt_of_le hv h63
      have HY := hid (bool_le (gbit (gns k s)))
      have HNS : Hid (gns (k + 1) s = gnext (gns k s)) := gns_add k 1 s
      generalize gval k s = v at *
      clear hv h63
      go_wp2_with fail
      refine (gnext_c (gns k s) b t wr (GS.ns k hs) HR.out.g).mono ?_
      rintro e w1 ⟨rfl, g1, o1⟩
      have HN : Hid (NuR w b t s (k + 1) w1) := ⟨by rw [HNS.out]; exact g1, HR.out.o.trans o1⟩
      generalize (gbit (gns k s)).toNat = y at *
      clear g1 o1
      have HOR := hid (or_bit v y hv2 HY.out)
      go_wp2
      go_roundw
      case rel => exact ⟨k + 1, by omega, by rw [HOR.out, HV.out], by go_num, HN.out⟩
      case measure => simp [intOf]; omega
    · obtain rfl : k = m := by omega
      have j2 : decide (k < k) = false := by simp
      go_wp2
      go_ret
      exact ⟨rfl, HR.out.g, HR.out.o⟩
end Go.Proofs.YtpjjobophplleaaDoor
/-
  A row of bools that the call made and appends to; avouchref08.lay, in: what each call does.
-/
namespace Go.Proofs.YtpjjobophplleaaDoor
open Go.RowKit
set_option linter.unusedVariables false

def cellsL (l : List Bool) : List Value := l.map Value.bool
/-- The slice value v owns the bools l, among the blocks from base on. -/
structure OwnL (w : World) (base : Nat) (v : Value) (l : List Bool) : Prop where
  own : w.ownsRow base 4 1 v l.length (cellsL l)
theorem bool_info : (Tryd.prog.info? 4).map (fun i => (i.zero, i.size, i.bytes)) = some (some (.bool false), 1, 1) := by kernel_rfl
theorem OwnL.nil (w : World) (base : Nat) : OwnL w base (.slice none 0 0) [] := ⟨World.ownsRow_nil w base _ 1⟩
theorem OwnL.alloc {w : World} {base : Nat} {v : Value} {l : List Bool} (h : OwnL w base v l) (o : Obj) : OwnL (w.alloc o) base v l := ⟨h.own.alloc o⟩
theorem append_bool {ops : Array Oper} {rest : List Oper} {o : Oper} {a : Act} {Q : Exit → Act → World → Prop} {w : World} (hgd : o.guard = none) (s x : Operand)
    (ho : o.op = .call { callee := .builtin .append, args := #[s, x], argTypes := #[53, 53] })
    (base : Nat) (v : Value) (l : List Bool) (hs : a.eval s = v) (hown : OwnL w base v l) (X n : Bool) (hX : X = n) (hx : a.eval x = .slice (some ⟨w.heap.size, 0, none⟩) 1 1)
    (hlen : l.length ≤ 100000) (hbase : base ≤ w.heap.size)
    (h : ∀ v' w', OwnL w' base v' (l ++ [n]) → Below base w w' → wpList Tryd.prog ops Q rest (a.put o.dst v') w') : wpList Tryd.prog ops Q (o :: rest) a (w.alloc (.cells #[.bool X] 4)) := by
  subst hX
  obtain ⟨i0, hi, hz, hs1, hb⟩ := info_parts bool_info
  refine wpList_append_own (w.alloc (.cells #[.bool X] 4)) hgd s x 53 ho base 4 i0 (.bool false) 1 1 Tryd.underlying53 hi hz hs1 hb rfl (by decide) v l.length (cellsL l) hs (hown.alloc _).own ⟨w.heap.size, 0, none⟩ 1 1 (cellsL [X]) hx
    rfl ?_ ?_ (by unfold maxLen; omega) (by omega) (by simp; omega) ?_
  · intro j u hj
    have hj0 : j = 0 := by
      have := (List.getElem?_eq_some_iff.1 hj).1
      simp [cellsL] at this
      exact this
    subst hj0
    simp [cellsL] at hj
    subst hj
    rw [Addr.add_mid]
    simp
  · intro u hu
    simp [cellsL] at hu
    subst hu
    rfl
  · intro v' w' ho' hg _
    refine h v' w' ⟨?_⟩ (((Below.refl _ _).alloc hbase _).trans ((Below.refl _ _).grown hg (by simp; omega) fun k hk => (hown.own.lt k hk).1))
    have e : cellsL (l ++ [X]) = cellsL l ++ cellsL [X] := by simp [cellsL]
    rw [e, List.length_append]
    exact ho'
theorem OwnL.cells {w : World} {base : Nat} {v : Value} {l : List Bool} (h : OwnL w base v l) (h0 : 0 < l.length) : ∃ b c, v = .slice (some ⟨b, 0, none⟩) l.length c ∧ base ≤ b ∧ l.length ≤ c ∧ b < w.heap.size ∧ ∀ i, i < l.length → w.cell? ⟨b, i, none⟩ = some (.bool (l.getD i false)) := by
  rcases h.own.2 with ⟨rfl, hn⟩ | ⟨g, cap, cur, rfl, hb, hg, hc, _, _, ht⟩
  · omega
  · refine ⟨g, cap, rfl, hb, hc, (Array.getElem?_eq_some_iff.1 hg).1, fun i hi => ?_⟩
    have := h.own.cells (g := g) rfl i (.bool (l.getD i false)) (by simp [cellsL, List.getElem?_eq_getElem hi, List.getD_eq_getElem?_getD])
    rw [Addr.add_mid, Nat.zero_add] at this
    exact this

/-- The first m of a number's k bits, the highest one first. -/
def layP (n k m : Nat) : List Bool := (List.range m).map fun j => n.testBit (k - 1 - j)
theorem layP_len (n k m : Nat) : (layP n k m).length = m := by unfold layP; rw [List.length_map, List.length_range]
theorem layP_succ (n k m : Nat) : layP n k (m + 1) = layP n k m ++ [n.testBit (k - 1 - m)] := by
  unfold layP
  rw [List.range_succ, List.map_append]
  rfl
structure LyR (w : World) (base : Nat) (l : List Bool) (n k m : Nat) (v : Value) (wr : World) : Prop where
  o : OwnL wr base v (l ++ layP n k m)
  b : Below base w wr
set_option maxRecDepth 20000 in
set_option maxHeartbeats 2000000 in
theorem lay_c (v : Value) (l : List Bool) (base n k : Nat) (w : World) (hv : OwnL w base v l) (hbase : base ≤ w.heap.size) (hl : l.length ≤ 1000) (hn : n < 4294967296) (hk : k ≤ 64) :
    Calls Tryd.prog 18 #[v, .int .i64 (n : Int), .int .i64 (k : Int)] w fun e w' => ∃ v', e = .returned v' ∧ OwnL w' base v' (l ++ layP n k k) ∧ Below base w w' := by
  have R0 : Hid (LyR w base l n k 0 v w) := ⟨by show OwnL w base v (l ++ []); rw [List.append_nil]; exact hv, Below.refl _ _⟩
  have HN := hid hn
  clear hv hn
  go_enter Tryd.func18, Tryd.ntmps18
  go_wp2
  go_loopw [0, 7] (fun v i wr => ∃ (m : Nat) (i' : Int), m ≤ k ∧ Hid (i' = (k : Int) - 1 - m) ∧ i = .int .i64 i' ∧ LyR w base l n k m v wr) (fun _ i _ => (intOf i + 1).toNat)
  case atStart => exact ⟨0, (k : Int) - 1, Nat.zero_le _, by show _ = _; omega, by go_num, R0.out⟩
  case round =>
    clear R0
    obtain ⟨m, i', hm, HI, rfl, hrel⟩ := hrel
    by_cases hlt : m < k
    · obtain ⟨i, hi⟩ : ∃ i : Nat, i = k - 1 - m := ⟨_, rfl⟩
      obtain rfl : i' = (i : Int) := by have := HI.out; omega
      have i0 : (0 : Int) ≤ (i : Int) := by omega
      have HIN := hid hi
      have HR := hid hrel
      have hi64 : i < 64 := by omega
      clear HI hrel
      go_wp2
      obtain ⟨w1, hw1⟩ : ∃ x, x = wr := ⟨wr, rfl⟩
      rw [← hw1] at HR ⊢
      clear hw1
      go_loopw [8, 9] (fun u z wr => ∃ (q p : Nat), q ≤ i ∧ Hid (p = n / 2 ^ q) ∧ u = .int .i64 (p : Int) ∧ z = .int .i64 (q : Int) ∧ wr = w1) (fun _ z _ => i - (intOf z).toNat)
      case atStart => exact ⟨0, n, Nat.zero_le _, by show n = n / 2 ^ 0; rw [Nat.pow_zero, Nat.div_one], rfl, rfl, rfl⟩
      case round =>
        obtain ⟨q, p, hq, HP, rfl, rfl, rfl⟩ := hrel
        have hp32 : p < 4294967296 := by
          rw [HP.out]
          exact Nat.lt_of_le_of_lt (Nat.div_le_self _ _) HN.out
        by_cases hltq : q < i
        · have j2 : (q : Int) < (i : Int) := by omega
          have HP2 : Hid (p / 2 = n / 2 ^ (q + 1)) := by
            show _ = _
            rw [HP.out, Nat.pow_succ, Nat.div_div_eq_div_mul]
          go_wp2
          go_roundw
          case rel => exact ⟨q + 1, p / 2, by omega, HP2, by go_num, by go_num, by trivial⟩
          case measure => simp [intOf]; omega
        · have j2 : decide (q < i) = false := by simp; omega
          obtain rfl : q = i := by omega
          have hbit : ((p : Int) % 2 == 1) = n.testBit (k - 1 - m) := by
            rw [← HIN.out, HP.out]
            rw [Nat.testBit_eq_decide_div_mod_eq]
            by_cases hb : n / 2 ^ q % 2 = 1
            · rw [decide_eq_true hb, show ((n / 2 ^ q : Nat) : Int) % 2 = ((n / 2 ^ q % 2 : Nat) : Int) by omega, hb]
              rfl
            · rw [decide_eq_false hb, show ((n / 2 ^ q : Nat) : Int) % 2 = ((n / 2 ^ q % 2 : Nat) : Int) by omega, show n / 2 ^ q % 2 = 0 by omega]
              rfl
          have HBT := hid hbit
          have HLS := hid (layP_succ n k m)
          clear hbit
          go_wp2_with (with_reducible refine append_bool rfl (.tmp 24) (.tmp 28) rfl base _ (l ++ layP n k m) rfl HR.out.o _ (n.testBit (k - 1 - m)) HBT.out rfl (by rw [List.length_append, layP_len]; omega) (Nat.le_trans hbase HR.out.b.size) ?_; intro v2 w2 o2 b2)
          have HO2 : Hid (LyR w base l n k (m + 1) v2 w2) := ⟨by rw [HLS.out, ← List.append_assoc]; exact o2, HR.out.b.trans b2⟩
          clear o2 b2
          go_roundw
          case rel => exact ⟨m + 1, (k : Int) - 1 - (m + 1 : Nat), by omega, rfl, by first | go_num | (congr 1; omega), HO2.out⟩
          case measure => simp [intOf]; omega
    · obtain rfl : m = k := by omega
      obtain rfl : i' = -1 := by have := HI.out; omega
      have HR := hid hrel
      clear HI hrel
      go_wp2
      go_ret
      exact ⟨_, rfl, HR.out.o, HR.out.b⟩
end Go.Proofs.YtpjjobophplleaaDoor
