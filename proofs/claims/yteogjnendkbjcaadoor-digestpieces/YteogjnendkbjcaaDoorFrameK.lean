import Derived.Test.YteogjnendkbjcaaDoorDhG
import Derived.Test.YteogjnendkbjcaaDoorFrame8
import Derived.Deep.Matrix
import Derived.Test.YteogjnendkbjcaaDoorKPc
import Derived.Test.YteogjnendkbjcaaDoorRows
import Derived.LaidMore
import Derived.Lib.LaidTab
import Derived.WideKeyArr2
/-
  A slice of slices of bytes that came in, as the library opens it, is one that is read, part by part (RdP).
-/
namespace Go.Proofs.YteogjnendkbjcaaDoor
open Go.RowKit
set_option linter.unusedVariables false

theorem lists_of {w : World} {b off n : Nat} (h : ∀ r, r < n → ∃ Ar Lr Cr l, w.cell? ⟨b, off + r, none⟩ = some (.slice Ar Lr Cr) ∧ Lr ≤ Cr ∧ Rd8 w w.heap.size Ar Lr l) :
    ∀ k, k ≤ n → ∃ ls : List (List Nat), ls.length = k ∧ ∀ r, r < k → ∃ Ar Lr Cr, w.cell? ⟨b, off + r, none⟩ = some (.slice Ar Lr Cr) ∧ Lr ≤ Cr ∧ Rd8 w w.heap.size Ar Lr (ls.getD r [])
  | 0, _ => ⟨[], rfl, fun r hr => absurd hr (Nat.not_lt_zero _)⟩
  | k + 1, hk => by
    obtain ⟨ls, hl, hr⟩ := lists_of h k (by omega)
    obtain ⟨Ar, Lr, Cr, l, h1, h2, h3⟩ := h k (by omega)
    refine ⟨ls ++ [l], by rw [List.length_append, hl]; rfl, fun r hrk => ?_⟩
    by_cases c : r < k
    · obtain ⟨A', L', C', g1, g2, g3⟩ := hr r c
      refine ⟨A', L', C', g1, g2, ?_⟩
      rw [List.getD_eq_getElem?_getD, List.getElem?_append_left (by omega), ← List.getD_eq_getElem?_getD]
      exact g3
    · obtain rfl : r = k := by omega
      refine ⟨Ar, Lr, Cr, h1, h2, ?_⟩
      rw [List.getD_eq_getElem?_getD, List.getElem?_append_right (by omega), hl, Nat.sub_self]
      exact h3
theorem rdp_of_rows {w : World} {a : Addr} {len cap : Nat} {A : Nat → Option Addr} {L C : Nat → Nat} {Z : Nat → List Int} (hl : len ≤ cap)
    (h : ∀ r, r < cap → w.cell? (a.add r) = some (.slice (A r) (L r) (C r)) ∧ L r ≤ C r ∧ C r ≤ maxLen ∧ (Z r).length = C r ∧ (∀ n ∈ Z r, (Lit.int .u8 n).wf = true) ∧ (A r = none → C r = 0) ∧
        ∀ a', A r = some a' → 0 ≤ a'.block ∧ ∀ c, c < C r → w.cell? (a'.add c) = some (.int .u8 ((Z r).getD c 0))) : ∃ ls, RdP w w.heap.size (some a) len ls := by
  rcases Nat.eq_zero_or_pos len with h0 | hp
  · subst h0
    exact ⟨[], RdP.nil _ _ _⟩
  · obtain ⟨b, off, spot⟩ := a
    have h0 := (h 0 (by omega)).1
    have hspot : spot = none := by simpa [Addr.add] using World.cell?_spot h0
    subst hspot
    rw [addr_add7] at h0
    obtain ⟨ls, hll, hr⟩ := lists_of (w := w) (b := b) (off := off) (n := len) (fun r hr => by
      obtain ⟨hc, hL, hC, hZ, hw, hn, hs⟩ := h r (by omega)
      rw [addr_add7] at hc
      have hrow : (A r = none ∧ L r = 0 ∧ C r = 0 ∧ Z r = []) ∨ ∃ x, A r = some x ∧ L r ≤ C r ∧ C r ≤ maxLen ∧ (Z r).length = C r ∧ (∀ i, i < (Z r).length → w.cell? (x.add i) = some (.int .u8 ((Z r).getD i 0))) ∧ ∀ n ∈ Z r, (Lit.int .u8 n).wf = true := by
        cases hA : A r with
        | none =>
          have c0 := hn hA
          exact Or.inl ⟨rfl, by omega, c0, List.length_eq_zero_iff.1 (by omega)⟩
        | some x => exact Or.inr ⟨x, rfl, hL, hC, hZ, fun i hi => (hs x hA).2 i (by omega), hw⟩
      obtain ⟨l, hl⟩ := rd8_of_row hrow
      exact ⟨A r, L r, C r, l, hc, hL, hl⟩) len (Nat.le_refl _)
    exact ⟨ls, hll, fun _ => ⟨b, off, rfl, World.block_lt_of_cell? w _ h0, hr⟩⟩
end Go.Proofs.YteogjnendkbjcaaDoor
/-
  What the cards' condition gives keccak's walks: the two tables hold what the text lays in them; the door's own heap meets it. States as arguments.
-/
namespace Go.Proofs.YteogjnendkbjcaaDoor
open Go.RowKit
open Go.ChangeShapes Go.WideShapes
set_option linter.unusedVariables false

def laidK : List (String × DataW Unit) := [("avouch/keccak.constants", Rows.laid_avouch_keccak_constants), ("avouch/keccak.offsets", Rows.laid_avouch_keccak_offsets)]
theorem gConst : Tryd.prog.globalNamed "avouch/keccak.constants" = some 1 := by kernel_rfl
theorem gOffs : Tryd.prog.globalNamed "avouch/keccak.offsets" = some 0 := by kernel_rfl
theorem tConst : (Tryd.prog.globals[1]?).map (·.type) = some 74 := by kernel_rfl
theorem tOffs : (Tryd.prog.globals[0]?).map (·.type) = some 70 := by kernel_rfl
theorem cells1K : Tryd.prog.cellsOf 29 = 1 := by kernel_rfl
theorem cellsIK : Tryd.prog.cellsOf 3 = 1 := by kernel_rfl
theorem cells24K : Tryd.prog.cellsOf 74 = 24 := by kernel_rfl
theorem cells25I : Tryd.prog.cellsOf 70 = 25 := by kernel_rfl
theorem cells25K : Tryd.prog.cellsOf 31 = 25 := by kernel_rfl

theorem door_metK (os : Os) (args : Array Value) : laidMetH Tryd.prog laidK ((World.doorLaid Tryd.prog 400 os).forCall (fun _ _ => 0) ⟨#[], args, []⟩).memory :=
  laidMetH_of_parts3 (fuel := 8) (laidMet_of_run' 8 (by kernel_rfl) (by kernel_rfl)) (by kernel_rfl) (by kernel_rfl)

def cellsI64 (l : List Nat) : List Value := l.map fun (x : Nat) => .int .i64 (x : Int)
theorem globK_of_laid {W : World} (h : laidMetH Tryd.prog laidK W) : GlobK W := by
  rw [MakeChecks.laidMetH_plain _ _ _ (by kernel_rfl)] at h
  obtain ⟨ps, ⟨g0, t0, cs0, f0, p0, q0, hg0, ht0, hv0, hd0, ⟨g1, t1, cs1, f1, p1, q1, hg1, ht1, hv1, hd1, _, _⟩, _⟩, _, _⟩ := h
  obtain rfl := Option.some.inj (gConst.symm.trans hg0)
  obtain rfl := Option.some.inj (gOffs.symm.trans hg1)
  obtain rfl := Option.some.inj (tConst.symm.trans ht0)
  obtain rfl := Option.some.inj (tOffs.symm.trans ht1)
  have e0 := Lib.cells_of_tab (zs := kconst.map fun (x : Nat) => (x : Int)) Tryd.underlying74 Tryd.underlying29 cells1K cells24K hd0
  have e1 := Lib.cells_of_tab (zs := koff.map fun (x : Nat) => (x : Int)) Tryd.underlying70 Tryd.underlying3 cellsIK cells25I hd1
  obtain ⟨l0⟩ := cs0
  obtain ⟨l1⟩ := cs1
  simp only at e0 e1
  have e2 : l0 = cellsOf64 kconst := e0
  have e3 : l1 = cellsI64 koff := e1
  subst e2 e3
  have c0 : W.cell? ⟨1, 0, none⟩ = some (.int .u64 1) := by rw [World.var?_cell hg0 hv0 0]; rfl
  have c1 : W.cell? ⟨0, 0, none⟩ = some (.int .i64 0) := by rw [World.var?_cell hg1 hv1 0]; rfl
  refine ⟨⟨World.block_lt_of_cell? W _ c0, World.block_lt_of_cell? W _ c1⟩, fun i hi => ?_, fun i hi => ?_⟩
  · rw [World.var?_cell hg0 hv0 i]
    have key : ∀ i : Fin 24, (cellsOf64 kconst)[i.val]? = some (.int .u64 ((kconst.getD i.val 0 : Nat) : Int)) := by
      intro i
      have hl : i.val < kconst.length := i.isLt
      simp [cellsOf64, List.getD_eq_getElem?_getD, List.getElem?_eq_getElem hl]
    simpa using key ⟨i, hi⟩
  · rw [World.var?_cell hg1 hv1 i]
    have key : ∀ i : Fin 25, (cellsI64 koff)[i.val]? = some (.int .i64 ((koff.getD i.val 0 : Nat) : Int)) := by
      intro i
      have hl : i.val < koff.length := i.isLt
      simp [cellsI64, List.getD_eq_getElem?_getD, List.getElem?_eq_getElem hl]
    simpa using key ⟨i, hi⟩

theorem u64_word {a : Int} (h : (Lit.int .u64 a).wf = true) : ∃ v : Nat, a = (v : Int) ∧ v < 18446744073709551616 := by
  have e1 : IntKind.u64.min = 0 := by decide
  have e2 : IntKind.u64.max = 18446744073709551615 := by decide
  simp [Lit.wf, e1, e2] at h
  exact ⟨a.toNat, by omega, by omega⟩
theorem mapM_eachK {α β : Type} {f : α → Option β} : ∀ {L : List α} {xs : List β}, L.mapM f = some xs → ∀ i ∈ L, ∃ y, f i = some y
  | [], _, _, i, hi => by simp at hi
  | j :: L, xs, h, i, hi => by
    rw [List.mapM_cons] at h
    simp only [bind, Option.bind_eq_some_iff, pure, Option.some.injEq] at h
    obtain ⟨y, hy, ys, hys, rfl⟩ := h
    rcases List.mem_cons.1 hi with rfl | hi
    · exact ⟨y, hy⟩
    · exact mapM_eachK hys i hi
/-- Words of cells. -/
def wordsK (cs : List Value) : List Nat := cs.map fun v => match v with | .int _ a => a.toNat | _ => 0
set_option maxRecDepth 20000 in
/-- A number that comes in. -/
theorem open_st {H : Type} {enc : TypeId × Value → H} {W : World} {base : Nat} {sp : Nat → Bool} {held : Bool} {r : Reach} {b0 : Nat} {v : Value} {d : DataW H} {ps : List MemPlace}
    (hval : Value.okWide Tryd.prog W r b0 31 v) (hd : DataW.Trod enc Tryd.prog W base sp held 31 v d ps) : ∃ l, Lanes l ∧ v = st l := by
  have A : WideMaps.ArrKey Tryd.prog 31 29 25 := ⟨Tryd.underlying31, by kernel_rfl, cells1K, cells25K⟩
  obtain ⟨⟨cs⟩, rfl, hn⟩ := WideMaps.okWide_arr A hval
  simp only [List.size_toArray] at hn
  obtain ⟨fuel, hf⟩ := hd
  have key : ∀ i, i < 25 → ∃ a : Int, (cs.drop (i * 1)).take 1 = [.int .u64 a] ∧ (Lit.int .u64 a).wf = true := by
    cases fuel with
    | zero => simp [DataW.trod] at hf
    | succ m =>
      rw [DataW.trod_step] at hf
      unfold DataW.trodStep at hf
      simp only [A.hu, Value.cells] at hf
      rw [if_pos (by rw [A.size]; simpa using hn)] at hf
      simp only [Option.map_eq_some_iff, A.one] at hf
      obtain ⟨ys, hy, e1⟩ := hf
      intro i hi
      obtain ⟨y, h1⟩ := mapM_eachK hy i (by simpa using hi)
      obtain ⟨a, ea, _, wa⟩ := DataW.trod_int Tryd.underlying29 h1
      exact ⟨a, ea, wa⟩
  have hcell : ∀ i (h : i < cs.length), ∃ n : Nat, cs[i] = .int .u64 (n : Int) ∧ n < 18446744073709551616 := by
    intro i h
    obtain ⟨a, ea, wa⟩ := key i (by omega)
    obtain ⟨n, rfl, hn⟩ := u64_word wa
    refine ⟨n, ?_, hn⟩
    have e2 : ((cs.drop (i * 1)).take 1)[0]? = cs[i]? := by simp
    rw [ea, List.getElem?_eq_getElem h] at e2
    simpa using e2.symm
  have hl : (wordsK cs).length = 25 := by simp [wordsK, hn]
  have hlt : allLt (wordsK cs) := by
    intro x hx
    obtain ⟨i, hi, rfl⟩ := List.getElem_of_mem hx
    obtain ⟨n, e, hn⟩ := hcell i (by simpa [wordsK] using hi)
    simp only [wordsK, List.getElem_map, e]
    simpa using hn
  refine ⟨wordsK cs, ⟨hl, hlt⟩, ?_⟩
  unfold st
  congr 2
  apply List.ext_getElem (by simp [cellsOf64, wordsK])
  intro i h1 h2
  obtain ⟨n, e, hn⟩ := hcell i h1
  simp [cellsOf64, wordsK, e]
end Go.Proofs.YteogjnendkbjcaaDoor
