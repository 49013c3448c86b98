import Derived.Test.YteogjnendkbjcaaDoorBytesB
import Derived.Test.YteogjnendkbjcaaDoorLSub
import Derived.Lib.BitFns
import Derived.Lib.Walk
import Derived.Test.YteogjnendkbjcaaDoorLShift
import Derived.Test.YteogjnendkbjcaaDoorOwn
import Derived.Lib.SliceRun
/-
  avouchref01.OfBytes: what the call does.
-/
namespace Go.Proofs.YteogjnendkbjcaaDoor
open Go.RowKit
set_option linter.unusedVariables false

/-- Digit j of the digits of b, when the bytes from k on are laid. -/
def ob (b : List Nat) (k j : Nat) : Nat := pv 256 (b.drop (max k (4 * j))) (4 * j + 4 - max k (4 * j))
theorem ob_lt (b : List Nat) (h : allLt8 b) (k j : Nat) : ob b k j < 4294967296 := by
  have h1 := pv_lt 256 (by decide) _ (lt8_drop h (max k (4 * j))) (4 * j + 4 - max k (4 * j))
  have h2 : 256 ^ (4 * j + 4 - max k (4 * j)) ≤ 256 ^ 4 := Nat.pow_le_pow_right (by decide) (by omega)
  unfold ob; omega
theorem ob_small (b : List Nat) (h : allLt8 b) (k q r : Nat) (hk : k = 4 * q + r) (hr : r < 4) : ob b (k + 1) q < 16777216 := by
  have h1 := pv_lt 256 (by decide) _ (lt8_drop h (max (k + 1) (4 * q))) (4 * q + 4 - max (k + 1) (4 * q))
  have h2 : 256 ^ (4 * q + 4 - max (k + 1) (4 * q)) ≤ 256 ^ 3 := Nat.pow_le_pow_right (by decide) (by omega)
  unfold ob; omega
theorem pv_cons (W : Nat) (l : List Nat) (m : Nat) : pv W l (m + 1) = pv W (l.drop 1) m * W + l.getD 0 0 := by
  rw [Nat.add_comm m 1, pv_drop, pv_succ, pv_zero, Nat.pow_one, Nat.pow_zero, Nat.mul_one, Nat.zero_add, Nat.mul_comm, Nat.add_comm]
theorem ob_at (b : List Nat) (k q r : Nat) (hk : k = 4 * q + r) (hr : r < 4) : ob b k q = ob b (k + 1) q * 256 + b.getD k 0 := by
  unfold ob
  rw [show max k (4 * q) = k by omega, show max (k + 1) (4 * q) = k + 1 by omega, show 4 * q + 4 - k = (4 * q + 4 - (k + 1)) + 1 by omega, pv_cons, List.drop_drop, getD_drop, Nat.add_zero k]
theorem ob_ne (b : List Nat) (k q r j : Nat) (hk : k = 4 * q + r) (hr : r < 4) (hj : j ≠ q) : ob b k j = ob b (k + 1) j := by
  unfold ob
  by_cases hc : j < q
  · rw [show 4 * j + 4 - max k (4 * j) = 0 by omega, show 4 * j + 4 - max (k + 1) (4 * j) = 0 by omega]; rfl
  · rw [show max k (4 * j) = max (k + 1) (4 * j) by omega]
theorem ob_start (b : List Nat) (n j : Nat) (h : b.length = n) : ob b n j = 0 := by
  unfold ob
  rw [List.drop_eq_nil_of_le (by omega), pv_empty]

/-- The relation of the loop of OfBytes: the bytes from k on are laid. -/
def ObRel (w : World) (m : Nat) (b : List Nat) (wr : World) (k : Nat) : Prop :=
  ∃ ws : List Nat, ws.length = m ∧ BlkW wr w.heap.size 29 ws ∧ Below w.heap.size w wr ∧ ∀ j, j < m → ws.getD j 0 = ob b k j
theorem ObRel.drew {w wr : World} {m k : Nat} {b : List Nat} (h : ObRel w m b wr k) : ObRel w m b wr.drew k := by
  obtain ⟨ws, hl, hB, hb, hj⟩ := h
  exact ⟨ws, hl, ⟨hB.heap, hB.lt⟩, hb.drew, hj⟩
theorem ObRel.step {w wr : World} {m k q r : Nat} {b : List Nat} (h8 : allLt8 b) (h : ObRel w m b wr (k + 1)) (hk : k = 4 * q + r) (hr : r < 4) (hq : q < m) (v : Int) (hv : v = (ob b k q : Nat)) :
    ObRel w m b (wr.setCell ⟨w.heap.size, q, none⟩ (.int .u64 v)) k := by
  obtain ⟨ws, hl, hB, hb, hj⟩ := h
  refine ⟨ws.set q (ob b k q), by simp [hl], hB.setI _ _ _ (Nat.lt_trans (ob_lt _ h8 _ _) (by decide)) hv, hb.setCell (Nat.le_refl _) _, fun j hjm => ?_⟩
  by_cases hjq : j = q
  · subst hjq
    rw [getD_set_eq _ _ _ (by omega)]
  · rw [getD_set_ne _ _ _ _ (by omega), hj j hjm, ob_ne b k q r j hk hr hjq]
theorem ObRel.end_ {w wr : World} {m n : Nat} {b : List Nat} (h8 : allLt8 b) (h : ObRel w m b wr 0) (hn : b.length = n) (hm : n ≤ 4 * m) :
    ∃ ws, ws.length = m ∧ BlkW wr w.heap.size 29 ws ∧ D32 ws ∧ Below w.heap.size w wr ∧ val 4294967296 ws = val 256 b := by
  obtain ⟨ws, hl, hB, hb, hj⟩ := h
  refine ⟨ws, hl, hB, fun x hx => ?_, hb, ?_⟩
  · obtain ⟨i, hi, rfl⟩ := List.mem_iff_getElem.1 hx
    have := hj i (by omega)
    rw [List.getD_eq_getElem?_getD, List.getElem?_eq_getElem hi] at this
    have e : ws[i] = ob b 0 i := this
    rw [e]; exact ob_lt b h8 0 i
  · have e := pv_chunks 4 ws b m fun j hjm => by
      rw [hj j hjm]; unfold ob
      rw [show max 0 (4 * j) = 4 * j by omega, show 4 * j + 4 - 4 * j = 4 by omega]
    rw [pv_out 256 b _ (by omega)] at e
    rw [← e]
    unfold val
    rw [hl]

end Go.Proofs.YteogjnendkbjcaaDoor
/-
  bits.Len64, bits.LeadingZeros64, limb.Bits: what each call does.
-/
namespace Go.Proofs.YteogjnendkbjcaaDoor
open Go.RowKit
set_option linter.unusedVariables false

theorem len8_at (i : Int) (h : i.toNat < Lib.len8tab.size) (h0 : 0 ≤ i) (h1 : i ≤ 255) : ((Lib.len8tab[i.toNat]'h).toNat : Int) = (Lib.bitLen i.toNat : Int) := by
  have e := Lib.len8_of i h0 h1
  unfold Lib.len8 at e
  rw [← e, ByteArray.getElem?_lt' _ _ h, Option.getD_some]
theorem wrap_small (x : Int) (h0 : 0 ≤ x) (h1 : x ≤ 1000) : wrap64 x = x := by
  unfold wrap64; omega
theorem len_fin (k : Nat) (x i : Int) (h : i.toNat < Lib.len8tab.size) (h0 : 0 ≤ i) (h1 : i ≤ 255) (hk : k ≤ 64) (hx : x < 18446744073709551616) (hi : i.toNat = x.toNat / 2 ^ k) (hp : 2 ^ k ≤ x.toNat) :
    wrap64 (k + wrap64 ((Lib.len8tab[i.toNat]'h).toNat : Int)) = (Lib.bitLen x.toNat : Int) := by
  have b := Lib.bitLen_le8' i h0 h1
  rw [len8_at i h h0 h1, wrap_small (Lib.bitLen i.toNat : Int) (by omega) (by omega), wrap_small _ (by omega) (by omega), hi, Lib.bitLen_shift k x.toNat hp (by omega)]
  rfl
theorem len_fin0 (x : Int) (h : x.toNat < Lib.len8tab.size) (h0 : 0 ≤ x) (h1 : x ≤ 255) :
    wrap64 (wrap64 ((Lib.len8tab[x.toNat]'h).toNat : Int)) = (Lib.bitLen x.toNat : Int) := by
  have b := Lib.bitLen_le8' x h0 h1
  rw [len8_at x h h0 h1, wrap_small (Lib.bitLen x.toNat : Int) (by omega) (by omega), wrap_small _ (by omega) (by omega)]
end Go.Proofs.YteogjnendkbjcaaDoor
/-
  slices.Clone, limb.isModulus, avouchref01.Right, limb.New: what each call does.
-/
namespace Go.Proofs.YteogjnendkbjcaaDoor
open Go.RowKit
set_option linter.unusedVariables false

theorem zeroCells_eq (n : Nat) : Builtin.zeroCells (Value.int .u64 0).cells n = ((List.replicate n 0).map fun (x : Nat) => Value.int .u64 (x : Int)).toArray := by
  unfold Builtin.zeroCells
  apply Array.ext
  · simp [Value.cells]
  · intro i h1 h2
    simp [Value.cells, Nat.mod_one]

set_option maxRecDepth 20000 in
/-- append of the words of a slice onto an empty slice without room. -/
theorem append_clone {ops : Array Oper} {rest : List Oper} {o : Oper} {a : Act} {Q : Exit → Act → World → Prop} {w : World} (hgd : o.guard = none) (s x : Operand)
    (ho : o.op = .call { callee := .builtin .append, args := #[s, x], argTypes := #[54, 54] })
    (g : Nat) (hs : a.eval s = .slice (some ⟨g, 0, none⟩) 0 0) (b off n c B : Nat) (l : List Nat) (hx : a.eval x = .slice (some ⟨b, off, none⟩) n c) (hr : Rd w B (some ⟨b, off, none⟩) n l) (h0 : 1 ≤ n) (hn : n ≤ 100000)
    (h : ∀ k w', BlkW w' w.heap.size 29 (l ++ List.replicate k 0) → Below w.heap.size w w' → wpList Tryd.prog ops Q rest (a.put o.dst (.slice (some ⟨w.heap.size, 0, none⟩) n (n + k))) w') : wpList Tryd.prog ops Q (o :: rest) a w := by
  obtain ⟨i0, hi, hz, hs1, hb⟩ := info_parts u64_info
  have hcells : ∀ j v, (cellsOf64 l)[j]? = some v → w.cell? ((⟨b, off, none⟩ : Addr).add j) = some v := by
    intro j v hj
    have hadd : (⟨b, off, none⟩ : Addr).add j = ⟨b, off + j, none⟩ := by unfold Addr.add; split <;> simp_all
    have hjl : j < l.length := by
      have := (List.getElem?_eq_some_iff.1 hj).1
      simpa [cellsOf64] using this
    obtain ⟨b', off', e, _, hc⟩ := hr.cells (by omega)
    injection e with e
    injection e with e1 e2
    subst e1 e2
    rw [hadd, hc j (by rw [← hr.len]; exact hjl), ← hj]
    simp [cellsOf64, at64, List.getElem?_eq_getElem hjl, List.getD_eq_getElem?_getD]
  have hrun := run_append_grow (P := Tryd.prog) w 54 o.type 29 i0 _ Tryd.underlying54 hi hz ⟨g, 0, none⟩ 0 0 [] (by simp) (by intro j v hj; simp at hj) ⟨b, off, none⟩ n c (cellsOf64 l) (by simp [cellsOf64, hs1, hr.len]) hcells (by omega) (by omega)
    (growslice_fits (by omega) (by rw [hb]; omega))
  simp only [Nat.zero_add] at hrun
  have hge := grownCap_ge w n 0 29
  refine wpList_plain hgd fun K hK' => ?_
  unfold Oper.wp
  simp only [execOp, ho, resolve, invoke, builtin, Sem.run_bind, Sem.run_pure, Result.andThen_ok, List.map_toArray, List.map_cons, List.map_nil, hs, hx, hrun]
  have := h (grownCap w n 0 29 - n) (w.drew.alloc (.cells ([].toArray ++ (cellsOf64 l).toArray ++ Builtin.zeroCells (Value.int .u64 0).cells (grownCap w n 0 29 - n)) 29)) ?_ ?_
  · rw [show n + (grownCap w n 0 29 - n) = grownCap w n 0 29 by omega] at this
    exact hK' _ _ this
  · refine ⟨?_, ?_⟩
    · rw [zeroCells_eq]
      have : ([].toArray ++ (cellsOf64 l).toArray ++ ((List.replicate (grownCap w n 0 29 - n) 0).map fun (x : Nat) => Value.int .u64 (x : Int)).toArray) = ((l ++ List.replicate (grownCap w n 0 29 - n) 0).map fun (x : Nat) => Value.int .u64 (x : Int)).toArray := by
        simp [cellsOf64]
      rw [this]
      exact heap_alloc_new w.drew _
    · intro x hx
      rcases List.mem_append.1 hx with h' | h'
      · exact hr.lt x h'
      · have := List.eq_of_mem_replicate h'; omega
  · exact ((Below.refl _ _).drew).alloc (Nat.le_refl _) _

/-- May words be a modulus? -/
def Rt (l : List Nat) : Prop := 1 ≤ l.length ∧ l.length ≤ 16 ∧ l.getD 0 0 % 2 = 1 ∧ l.getD (l.length - 1) 0 ≠ 0 ∧ (1 < l.length ∨ l.getD 0 0 ≠ 1)
def rtB (l : List Nat) : Bool := decide (1 ≤ l.length ∧ l.length ≤ 16 ∧ l.getD 0 0 % 2 = 1 ∧ l.getD (l.length - 1) 0 ≠ 0 ∧ (1 < l.length ∨ l.getD 0 0 ≠ 1))
theorem rtB_t {l : List Nat} (h : Rt l) : rtB l = true := by unfold rtB; unfold Rt at h; exact decide_eq_true h
theorem rtB_f {l : List Nat} (h : ¬ Rt l) : rtB l = false := by unfold rtB; unfold Rt at h; exact decide_eq_false h
theorem rtB_of {l : List Nat} (h : rtB l = true) : Rt l := by unfold rtB at h; unfold Rt; exact of_decide_eq_true h

end Go.Proofs.YteogjnendkbjcaaDoor
