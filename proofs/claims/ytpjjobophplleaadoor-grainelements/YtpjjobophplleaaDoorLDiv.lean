import Derived.Test.YtpjjobophplleaaDoorLSub
import Derived.Lib.BitFns
import Derived.Lib.Walk
import Derived.Test.YtpjjobophplleaaDoorLShift
import Derived.Test.YtpjjobophplleaaDoorOwn
import Derived.Lib.SliceRun
import Derived.Test.YtpjjobophplleaaDoorLMul
import Derived.Deep.CutBlock
import Derived.Deep.DeepCutAuto
import Derived.Deep.QuietTactic
import Derived.BigQuiet
/-
  bits.Len64, bits.LeadingZeros64, limb.Bits: what each call does.
-/
namespace Go.Proofs.YtpjjobophplleaaDoor
open Go.RowKit
set_option linter.unusedVariables false

theorem len8_at (i : Int) (h : i.toNat < Lib.len8tab.size) (h0 : 0 ≤ i) (h1 : i ≤ 255) : ((Lib.len8tab[i.toNat]'h).toNat : Int) = (Lib.bitLen i.toNat : Int) := by
  have e := Lib.len8_of i h0 h1
  unfold Lib.len8 at e
  rw [← e, ByteArray.getElem?_lt' _ _ h, Option.getD_some]
theorem wrap_small (x : Int) (h0 : 0 ≤ x) (h1 : x ≤ 1000) : wrap64 x = x := by
  unfold wrap64; omega
theorem len_fin (k : Nat) (x i : Int) (h : i.toNat < Lib.len8tab.size) (h0 : 0 ≤ i) (h1 : i ≤ 255) (hk : k ≤ 64) (hx : x < 18446744073709551616) (hi : i.toNat = x.toNat / 2 ^ k) (hp : 2 ^ k ≤ x.toNat) :
    wrap64 (k + wrap64 ((Lib.len8tab[i.toNat]'h).toNat : Int)) = (Lib.bitLen x.toNat : Int) := by
  have b := Lib.bitLen_le8' i h0 h1
  rw [len8_at i h h0 h1, wrap_small (Lib.bitLen i.toNat : Int) (by omega) (by omega), wrap_small _ (by omega) (by omega), hi, Lib.bitLen_shift k x.toNat hp (by omega)]
  rfl
theorem len_fin0 (x : Int) (h : x.toNat < Lib.len8tab.size) (h0 : 0 ≤ x) (h1 : x ≤ 255) :
    wrap64 (wrap64 ((Lib.len8tab[x.toNat]'h).toNat : Int)) = (Lib.bitLen x.toNat : Int) := by
  have b := Lib.bitLen_le8' x h0 h1
  rw [len8_at x h h0 h1, wrap_small (Lib.bitLen x.toNat : Int) (by omega) (by omega), wrap_small _ (by omega) (by omega)]
end Go.Proofs.YtpjjobophplleaaDoor
/-
  slices.Clone, limb.isModulus, avouchref01.Right, limb.New: what each call does.
-/
namespace Go.Proofs.YtpjjobophplleaaDoor
open Go.RowKit
set_option linter.unusedVariables false

theorem zeroCells_eq (n : Nat) : Builtin.zeroCells (Value.int .u64 0).cells n = ((List.replicate n 0).map fun (x : Nat) => Value.int .u64 (x : Int)).toArray := by
  unfold Builtin.zeroCells
  apply Array.ext
  · simp [Value.cells]
  · intro i h1 h2
    simp [Value.cells, Nat.mod_one]

set_option maxRecDepth 20000 in
/-- append of the words of a slice onto an empty slice without room. -/
theorem append_clone {ops : Array Oper} {rest : List Oper} {o : Oper} {a : Act} {Q : Exit → Act → World → Prop} {w : World} (hgd : o.guard = none) (s x : Operand)
    (ho : o.op = .call { callee := .builtin .append, args := #[s, x], argTypes := #[32, 32] })
    (g : Nat) (hs : a.eval s = .slice (some ⟨g, 0, none⟩) 0 0) (b off n c B : Nat) (l : List Nat) (hx : a.eval x = .slice (some ⟨b, off, none⟩) n c) (hr : Rd w B (some ⟨b, off, none⟩) n l) (h0 : 1 ≤ n) (hn : n ≤ 100000)
    (h : ∀ k w', BlkW w' w.heap.size 36 (l ++ List.replicate k 0) → Below w.heap.size w w' → wpList Tryd.prog ops Q rest (a.put o.dst (.slice (some ⟨w.heap.size, 0, none⟩) n (n + k))) w') : wpList Tryd.prog ops Q (o :: rest) a w := by
  obtain ⟨i0, hi, hz, hs1, hb⟩ := info_parts u64_info
  have hcells : ∀ j v, (cellsOf64 l)[j]? = some v → w.cell? ((⟨b, off, none⟩ : Addr).add j) = some v := by
    intro j v hj
    have hadd : (⟨b, off, none⟩ : Addr).add j = ⟨b, off + j, none⟩ := by unfold Addr.add; split <;> simp_all
    have hjl : j < l.length := by
      have := (List.getElem?_eq_some_iff.1 hj).1
      simpa [cellsOf64] using this
    obtain ⟨b', off', e, _, hc⟩ := hr.cells (by omega)
    injection e with e
    injection e with e1 e2
    subst e1 e2
    rw [hadd, hc j (by rw [← hr.len]; exact hjl), ← hj]
    simp [cellsOf64, at64, List.getElem?_eq_getElem hjl, List.getD_eq_getElem?_getD]
  have hrun := run_append_grow (P := Tryd.prog) w 32 o.type 36 i0 _ Tryd.underlying32 hi hz ⟨g, 0, none⟩ 0 0 [] (by simp) (by intro j v hj; simp at hj) ⟨b, off, none⟩ n c (cellsOf64 l) (by simp [cellsOf64, hs1, hr.len]) hcells (by omega) (by omega)
    (growslice_fits (by omega) (by rw [hb]; omega))
  simp only [Nat.zero_add] at hrun
  have hge := grownCap_ge w n 0 36
  refine wpList_plain hgd fun K hK' => ?_
  unfold Oper.wp
  simp only [execOp, ho, resolve, invoke, builtin, Sem.run_bind, Sem.run_pure, Result.andThen_ok, List.map_toArray, List.map_cons, List.map_nil, hs, hx, hrun]
  have := h (grownCap w n 0 36 - n) (w.drew.alloc (.cells ([].toArray ++ (cellsOf64 l).toArray ++ Builtin.zeroCells (Value.int .u64 0).cells (grownCap w n 0 36 - n)) 36)) ?_ ?_
  · rw [show n + (grownCap w n 0 36 - n) = grownCap w n 0 36 by omega] at this
    exact hK' _ _ this
  · refine ⟨?_, ?_⟩
    · rw [zeroCells_eq]
      have : ([].toArray ++ (cellsOf64 l).toArray ++ ((List.replicate (grownCap w n 0 36 - n) 0).map fun (x : Nat) => Value.int .u64 (x : Int)).toArray) = ((l ++ List.replicate (grownCap w n 0 36 - n) 0).map fun (x : Nat) => Value.int .u64 (x : Int)).toArray := by
        simp [cellsOf64]
      rw [this]
      exact heap_alloc_new w.drew _
    · intro x hx
      rcases List.mem_append.1 hx with h' | h'
      · exact hr.lt x h'
      · have := List.eq_of_mem_replicate h'; omega
  · exact ((Below.refl _ _).drew).alloc (Nat.le_refl _) _

/-- May words be a modulus? -/
def Rt (l : List Nat) : Prop := 1 ≤ l.length ∧ l.length ≤ 16 ∧ l.getD 0 0 % 2 = 1 ∧ l.getD (l.length - 1) 0 ≠ 0 ∧ (1 < l.length ∨ l.getD 0 0 ≠ 1)
def rtB (l : List Nat) : Bool := decide (1 ≤ l.length ∧ l.length ≤ 16 ∧ l.getD 0 0 % 2 = 1 ∧ l.getD (l.length - 1) 0 ≠ 0 ∧ (1 < l.length ∨ l.getD 0 0 ≠ 1))
theorem rtB_t {l : List Nat} (h : Rt l) : rtB l = true := by unfold rtB; unfold Rt at h; exact decide_eq_true h
theorem rtB_f {l : List Nat} (h : ¬ Rt l) : rtB l = false := by unfold rtB; unfold Rt at h; exact decide_eq_false h
theorem rtB_of {l : List Nat} (h : rtB l = true) : Rt l := by unfold rtB at h; unfold Rt; exact of_decide_eq_true h

end Go.Proofs.YtpjjobophplleaaDoor
/-
  bits.Div64 (by a divisor whose highest bit is set), limb.guess: what each call does.
-/
namespace Go.Proofs.YtpjjobophplleaaDoor
open Go.RowKit
set_option linter.unusedVariables false

/-- A guessed digit of a quotient, and what is left. -/
def DI (n v1 v0 u q r : Nat) : Prop := q * v1 + r = n ∧ (n * 4294967296 + u) / (v1 * 4294967296 + v0) ≤ q ∧ q ≤ 4294967297
theorem di_more {n v1 v0 u q r : Nat} (h : DI n v1 v0 u q r) (hv : 0 < v1) (hv0 : v0 < 4294967296) (hn : n < v1 * 4294967296 + v0) (hu : u < 4294967296) (ht : 4294967296 ≤ q ∨ 4294967296 * r + u < q * v0) : (n * 4294967296 + u) / (v1 * 4294967296 + v0) < q := by
  rw [Nat.div_lt_iff_lt_mul (by omega)]
  obtain ⟨h1, _, _⟩ := h
  rcases ht with ht | ht
  · have h2 : 4294967296 * (v1 * 4294967296 + v0) ≤ q * (v1 * 4294967296 + v0) := Nat.mul_le_mul_right _ ht
    omega
  · have e : q * (v1 * 4294967296 + v0) = q * v1 * 4294967296 + q * v0 := by rw [Nat.mul_add, Nat.mul_assoc]
    rw [e]; omega
theorem di_done {n v1 v0 u q r : Nat} (h : DI n v1 v0 u q r) (hv : 0 < v1) (ht : q * v0 ≤ 4294967296 * r + u) : q = (n * 4294967296 + u) / (v1 * 4294967296 + v0) := by
  obtain ⟨h1, h2, _⟩ := h
  refine Nat.le_antisymm ?_ h2
  rw [Nat.le_div_iff_mul_le (by omega)]
  have e : q * (v1 * 4294967296 + v0) = q * v1 * 4294967296 + q * v0 := by rw [Nat.mul_add, Nat.mul_assoc]
  rw [e]; omega
theorem di_step {n v1 v0 u q r : Nat} (h : DI n v1 v0 u q r) (hm : (n * 4294967296 + u) / (v1 * 4294967296 + v0) < q) : DI n v1 v0 u (q - 1) (r + v1) := by
  obtain ⟨h1, h2, h3⟩ := h
  have hq0 : 0 < q := Nat.lt_of_le_of_lt (Nat.zero_le _) hm
  obtain ⟨p, rfl⟩ : ∃ p, q = p + 1 := ⟨q - 1, by omega⟩
  refine ⟨?_, by omega, by omega⟩
  rw [Nat.add_mul] at h1
  show p * v1 + (r + v1) = n
  omega
theorem di_out {n v1 v0 u q r : Nat} (h : DI n v1 v0 u q r) (hv : 0 < v1) (hv0 : v0 < 4294967296) (hq : q ≤ 4294967296) (hr : 4294967296 ≤ r) : q = (n * 4294967296 + u) / (v1 * 4294967296 + v0) := by
  refine di_done h hv ?_
  have : q * v0 ≤ 4294967296 * 4294967295 := Nat.mul_le_mul hq (by omega)
  omega
theorem di_start (n v1 v0 u : Nat) (hv : 2147483648 ≤ v1) (hv0 : v0 < 4294967296) (hn : n < v1 * 4294967296 + v0) (hu : u < 4294967296) : DI n v1 v0 u (n / v1) (n % v1) := by
  refine ⟨by rw [Nat.mul_comm]; exact Nat.div_add_mod _ _, ?_, ?_⟩
  · apply Nat.le_of_lt_succ
    rw [Nat.div_lt_iff_lt_mul (by omega)]
    have h1 := Nat.div_add_mod n v1
    have h2 := Nat.mod_lt n (show 0 < v1 by omega)
    have e : (n / v1).succ * (v1 * 4294967296 + v0) = (v1 * (n / v1) + v1) * 4294967296 + (n / v1).succ * v0 := by
      rw [Nat.succ_mul, Nat.succ_mul, Nat.mul_add]; grind
    rw [e]
    have h3 : n + 1 ≤ v1 * (n / v1) + v1 := by omega
    have h4 : (n + 1) * 4294967296 ≤ (v1 * (n / v1) + v1) * 4294967296 := Nat.mul_le_mul_right _ h3
    omega
  · apply Nat.le_of_lt_succ
    rw [Nat.div_lt_iff_lt_mul (by omega)]
    omega

theorem or_zero (a : Nat) (h : a < 18446744073709551616) (lo : Nat) (hl : lo < 18446744073709551616) : bits .or .u64 (a : Int) ((lo : Int) / 18446744073709551616) = (a : Int) := by
  have e : (lo : Int) / 18446744073709551616 = ((0 : Nat) : Int) := by omega
  have := bits_or_u64_nat a 0 h (by omega)
  rw [e, this]; simp
theorem d_quot (n v : Nat) (hn : n < 18446744073709551616) : IntKind.u64.wrap ((n : Int).tdiv (v : Int)) = ((n / v : Nat) : Int) := by
  have h1 : n / v ≤ n := Nat.div_le_self _ _
  rw [Int.tdiv_eq_ediv_of_nonneg (by omega), ← Int.natCast_ediv, IntKind.wrap_u64]
  generalize n / v = z at h1 ⊢
  omega
theorem d_rest (n v : Nat) (hn : n < 18446744073709551616) : IntKind.u64.wrap ((n : Int) - IntKind.u64.wrap (((n / v : Nat) : Int) * (v : Int))) = ((n % v : Nat) : Int) := by
  have h1 := Nat.div_add_mod n v
  have h2 : n / v * v ≤ n := Nat.div_mul_le_self n v
  rw [Nat.mul_comm] at h1
  rw [← Int.natCast_mul, IntKind.wrap_u64, IntKind.wrap_u64]
  generalize n / v * v = z at h1 h2 ⊢
  omega

theorem d_un (n u q y R : Nat) (h : q * y + R = n * 4294967296 + u) (hR : R < 18446744073709551616) :
    IntKind.u64.wrap (IntKind.u64.wrap (IntKind.u64.wrap ((n : Int) * 4294967296) + u) - IntKind.u64.wrap ((q : Int) * y)) = (R : Int) := by
  rw [← Int.natCast_mul]
  simp only [IntKind.wrap_u64]
  generalize q * y = z at h ⊢
  omega
theorem d_last (n u y d q1 R1 q2 : Nat) (hy : y = d) (h1 : q1 = (n * 4294967296 + u / 4294967296) / d) (h2 : q1 * y + R1 = n * 4294967296 + u / 4294967296) (h3 : q2 = (R1 * 4294967296 + u % 4294967296) / d) (hd : 0 < d) :
    q1 * 4294967296 + q2 = (n * 18446744073709551616 + u) / y := by
  subst hy
  have e : n * 18446744073709551616 + u = q1 * 4294967296 * y + (R1 * 4294967296 + u % 4294967296) := by
    have e1 : q1 * 4294967296 * y = q1 * y * 4294967296 := by rw [Nat.mul_right_comm]
    rw [e1]
    generalize q1 * y = z at h2
    omega
  rw [e, Nat.add_comm (q1 * 4294967296 * y), Nat.add_mul_div_right _ _ hd, h3, Nat.add_comm]

/-- The guessed word of a quotient. -/
def guessN (hi lo y : Nat) : Nat := if y ≤ hi then 18446744073709551615 else (hi * 18446744073709551616 + lo) / y
theorem guessN_lt (hi lo y : Nat) (hlo : lo < 18446744073709551616) : guessN hi lo y < 18446744073709551616 := by
  unfold guessN
  split
  · omega
  · rw [Nat.div_lt_iff_lt_mul (by omega)]
    have : (hi + 1) * 18446744073709551616 ≤ y * 18446744073709551616 := Nat.mul_le_mul_right _ (by omega)
    rw [Nat.mul_comm 18446744073709551616 y]
    omega

end Go.Proofs.YtpjjobophplleaaDoor
