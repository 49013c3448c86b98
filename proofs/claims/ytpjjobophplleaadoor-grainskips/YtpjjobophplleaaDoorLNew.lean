import Derived.Test.YtpjjobophplleaaDoorLSub
import Derived.Lib.BitFns
import Derived.Lib.Walk
import Derived.Test.YtpjjobophplleaaDoorLShift
import Derived.Test.YtpjjobophplleaaDoorOwn
import Derived.Lib.SliceRun
/-
  bits.Len64, bits.LeadingZeros64, limb.Bits: what each call does.
-/
namespace Go.Proofs.YtpjjobophplleaaDoor
open Go.RowKit
set_option linter.unusedVariables false

theorem len8_at (i : Int) (h : i.toNat < Lib.len8tab.size) (h0 : 0 ≤ i) (h1 : i ≤ 255) : ((Lib.len8tab[i.toNat]'h).toNat : Int) = (Lib.bitLen i.toNat : Int) := by
  have e := Lib.len8_of i h0 h1
  unfold Lib.len8 at e
  rw [← e, ByteArray.getElem?_lt' _ _ h, Option.getD_some]
theorem wrap_small (x : Int) (h0 : 0 ≤ x) (h1 : x ≤ 1000) : wrap64 x = x := by
  unfold wrap64; omega
theorem len_fin (k : Nat) (x i : Int) (h : i.toNat < Lib.len8tab.size) (h0 : 0 ≤ i) (h1 : i ≤ 255) (hk : k ≤ 64) (hx : x < 18446744073709551616) (hi : i.toNat = x.toNat / 2 ^ k) (hp : 2 ^ k ≤ x.toNat) :
    wrap64 (k + wrap64 ((Lib.len8tab[i.toNat]'h).toNat : Int)) = (Lib.bitLen x.toNat : Int) := by
  have b := Lib.bitLen_le8' i h0 h1
  rw [len8_at i h h0 h1, wrap_small (Lib.bitLen i.toNat : Int) (by omega) (by omega), wrap_small _ (by omega) (by omega), hi, Lib.bitLen_shift k x.toNat hp (by omega)]
  rfl
theorem len_fin0 (x : Int) (h : x.toNat < Lib.len8tab.size) (h0 : 0 ≤ x) (h1 : x ≤ 255) :
    wrap64 (wrap64 ((Lib.len8tab[x.toNat]'h).toNat : Int)) = (Lib.bitLen x.toNat : Int) := by
  have b := Lib.bitLen_le8' x h0 h1
  rw [len8_at x h h0 h1, wrap_small (Lib.bitLen x.toNat : Int) (by omega) (by omega), wrap_small _ (by omega) (by omega)]
end Go.Proofs.YtpjjobophplleaaDoor
/-
  slices.Clone, limb.isModulus, avouchref01.Right, limb.New: what each call does.
-/
namespace Go.Proofs.YtpjjobophplleaaDoor
open Go.RowKit
set_option linter.unusedVariables false

theorem zeroCells_eq (n : Nat) : Builtin.zeroCells (Value.int .u64 0).cells n = ((List.replicate n 0).map fun (x : Nat) => Value.int .u64 (x : Int)).toArray := by
  unfold Builtin.zeroCells
  apply Array.ext
  · simp [Value.cells]
  · intro i h1 h2
    simp [Value.cells, Nat.mod_one]

set_option maxRecDepth 20000 in
/-- append of the words of a slice onto an empty slice without room. -/
theorem append_clone {ops : Array Oper} {rest : List Oper} {o : Oper} {a : Act} {Q : Exit → Act → World → Prop} {w : World} (hgd : o.guard = none) (s x : Operand)
    (ho : o.op = .call { callee := .builtin .append, args := #[s, x], argTypes := #[32, 32] })
    (g : Nat) (hs : a.eval s = .slice (some ⟨g, 0, none⟩) 0 0) (b off n c B : Nat) (l : List Nat) (hx : a.eval x = .slice (some ⟨b, off, none⟩) n c) (hr : Rd w B (some ⟨b, off, none⟩) n l) (h0 : 1 ≤ n) (hn : n ≤ 100000)
    (h : ∀ k w', BlkW w' w.heap.size 36 (l ++ List.replicate k 0) → Below w.heap.size w w' → wpList Tryd.prog ops Q rest (a.put o.dst (.slice (some ⟨w.heap.size, 0, none⟩) n (n + k))) w') : wpList Tryd.prog ops Q (o :: rest) a w := by
  obtain ⟨i0, hi, hz, hs1, hb⟩ := info_parts u64_info
  have hcells : ∀ j v, (cellsOf64 l)[j]? = some v → w.cell? ((⟨b, off, none⟩ : Addr).add j) = some v := by
    intro j v hj
    have hadd : (⟨b, off, none⟩ : Addr).add j = ⟨b, off + j, none⟩ := by unfold Addr.add; split <;> simp_all
    have hjl : j < l.length := by
      have := (List.getElem?_eq_some_iff.1 hj).1
      simpa [cellsOf64] using this
    obtain ⟨b', off', e, _, hc⟩ := hr.cells (by omega)
    injection e with e
    injection e with e1 e2
    subst e1 e2
    rw [hadd, hc j (by rw [← hr.len]; exact hjl), ← hj]
    simp [cellsOf64, at64, List.getElem?_eq_getElem hjl, List.getD_eq_getElem?_getD]
  have hrun := run_append_grow (P := Tryd.prog) w 32 o.type 36 i0 _ Tryd.underlying32 hi hz ⟨g, 0, none⟩ 0 0 [] (by simp) (by intro j v hj; simp at hj) ⟨b, off, none⟩ n c (cellsOf64 l) (by simp [cellsOf64, hs1, hr.len]) hcells (by omega) (by omega)
    (growslice_fits (by omega) (by rw [hb]; omega))
  simp only [Nat.zero_add] at hrun
  have hge := grownCap_ge w n 0 36
  refine wpList_plain hgd fun K hK' => ?_
  unfold Oper.wp
  simp only [execOp, ho, resolve, invoke, builtin, Sem.run_bind, Sem.run_pure, Result.andThen_ok, List.map_toArray, List.map_cons, List.map_nil, hs, hx, hrun]
  have := h (grownCap w n 0 36 - n) (w.drew.alloc (.cells ([].toArray ++ (cellsOf64 l).toArray ++ Builtin.zeroCells (Value.int .u64 0).cells (grownCap w n 0 36 - n)) 36)) ?_ ?_
  · rw [show n + (grownCap w n 0 36 - n) = grownCap w n 0 36 by omega] at this
    exact hK' _ _ this
  · refine ⟨?_, ?_⟩
    · rw [zeroCells_eq]
      have : ([].toArray ++ (cellsOf64 l).toArray ++ ((List.replicate (grownCap w n 0 36 - n) 0).map fun (x : Nat) => Value.int .u64 (x : Int)).toArray) = ((l ++ List.replicate (grownCap w n 0 36 - n) 0).map fun (x : Nat) => Value.int .u64 (x : Int)).toArray := by
        simp [cellsOf64]
      rw [this]
      exact heap_alloc_new w.drew _
    · intro x hx
      rcases List.mem_append.1 hx with h' | h'
      · exact hr.lt x h'
      · have := List.eq_of_mem_replicate h'; omega
  · exact ((Below.refl _ _).drew).alloc (Nat.le_refl _) _

/-- May words be a modulus? -/
def Rt (l : List Nat) : Prop := 1 ≤ l.length ∧ l.length ≤ 16 ∧ l.getD 0 0 % 2 = 1 ∧ l.getD (l.length - 1) 0 ≠ 0 ∧ (1 < l.length ∨ l.getD 0 0 ≠ 1)
def rtB (l : List Nat) : Bool := decide (1 ≤ l.length ∧ l.length ≤ 16 ∧ l.getD 0 0 % 2 = 1 ∧ l.getD (l.length - 1) 0 ≠ 0 ∧ (1 < l.length ∨ l.getD 0 0 ≠ 1))
theorem rtB_t {l : List Nat} (h : Rt l) : rtB l = true := by unfold rtB; unfold Rt at h; exact decide_eq_true h
theorem rtB_f {l : List Nat} (h : ¬ Rt l) : rtB l = false := by unfold rtB; unfold Rt at h; exact decide_eq_false h
theorem rtB_of {l : List Nat} (h : rtB l = true) : Rt l := by unfold rtB at h; unfold Rt; exact of_decide_eq_true h

end Go.Proofs.YtpjjobophplleaaDoor
