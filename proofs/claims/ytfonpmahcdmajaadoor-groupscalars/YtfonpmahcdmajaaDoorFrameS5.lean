import Derived.Test.YtfonpmahcdmajaaDoorWidC
import Derived.Test.YtfonpmahcdmajaaDoorRows
import Derived.LaidMore
import Derived.Lib.LaidTab
import Derived.WideKeyArr2
import Derived.Test.YtfonpmahcdmajaaDoorFrameG
/-
  What the cards' condition gives wide's walks: the table holds P; the door's own heap meets it. Numbers as arguments.
-/
namespace Go.Proofs.YtfonpmahcdmajaaDoor
open Go.RowKit
open Go.ChangeShapes Go.WideShapes
set_option linter.unusedVariables false

def laidW : List (String × DataW Unit) := [("avouch/wide.prime", Rows.laid_avouch_wide_prime)]
theorem gWide : Tryd.prog.globalNamed "avouch/wide.prime" = some 1 := by kernel_rfl
theorem tWide : (Tryd.prog.globals[1]?).map (·.type) = some 24 := by kernel_rfl
theorem cells1W : Tryd.prog.cellsOf 22 = 1 := by kernel_rfl
theorem cells12W : Tryd.prog.cellsOf 24 = 12 := by kernel_rfl

theorem door_metW (os : Os) (args : Array Value) : laidMetH Tryd.prog laidW ((World.doorLaid Tryd.prog 400 os).forCall (fun _ _ => 0) ⟨#[], args, []⟩).memory :=
  laidMetH_of_parts3 (fuel := 8) (laidMet_of_run' 8 (by kernel_rfl) (by kernel_rfl)) (by kernel_rfl) (by kernel_rfl)

theorem globW_of_laid {W : World} (h : laidMetH Tryd.prog laidW W) : GlobW W := by
  rw [MakeChecks.laidMetH_plain _ _ _ (by kernel_rfl)] at h
  obtain ⟨ps, ⟨g0, t0, cs0, f0, p0, q0, hg0, ht0, hv0, hd0, _, _⟩, _, _⟩ := h
  obtain rfl := Option.some.inj (gWide.symm.trans hg0)
  obtain rfl := Option.some.inj (tWide.symm.trans ht0)
  have e0 := Lib.cells_of_tab (zs := (ds bigP).map fun (x : Nat) => (x : Int)) Tryd.underlying24 Tryd.underlying22 cells1W cells12W hd0
  obtain ⟨l0⟩ := cs0
  simp only at e0
  have e1 : l0 = cellsOf64 (ds bigP) := e0
  subst e1
  have c0 : W.cell? ⟨1, 0, none⟩ = some (.int .u64 18446744073709551615) := by rw [World.var?_cell hg0 hv0 0]; rfl
  refine ⟨World.block_lt_of_cell? W _ c0, fun j v hv => ?_⟩
  rw [Nat.zero_add, World.var?_cell hg0 hv0 j]
  simpa using hv

theorem u64_word {a : Int} (h : (Lit.int .u64 a).wf = true) : ∃ v : Nat, a = (v : Int) ∧ v < 18446744073709551616 := by
  have e1 : IntKind.u64.min = 0 := by decide
  have e2 : IntKind.u64.max = 18446744073709551615 := by decide
  simp [Lit.wf, e1, e2] at h
  exact ⟨a.toNat, by omega, by omega⟩
theorem u32_word {a : Int} (h : (Lit.int .u32 a).wf = true) : ∃ v : Nat, a = (v : Int) ∧ v < 4294967296 := by
  have e1 : IntKind.u32.min = 0 := by decide
  have e2 : IntKind.u32.max = 4294967295 := by decide
  simp [Lit.wf, e1, e2] at h
  exact ⟨a.toNat, by omega, by omega⟩
theorem mapM_each {α β : Type} {f : α → Option β} : ∀ {L : List α} {xs : List β}, L.mapM f = some xs → ∀ i ∈ L, ∃ y, f i = some y
  | [], _, _, i, hi => by simp at hi
  | j :: L, xs, h, i, hi => by
    rw [List.mapM_cons] at h
    simp only [bind, Option.bind_eq_some_iff, pure, Option.some.injEq] at h
    obtain ⟨y, hy, ys, hys, rfl⟩ := h
    rcases List.mem_cons.1 hi with rfl | hi
    · exact ⟨y, hy⟩
    · exact mapM_each hys i hi
/-- Words of cells. -/
def wordsOf (cs : List Value) : List Nat := cs.map fun v => match v with | .int _ a => a.toNat | _ => 0
set_option maxRecDepth 20000 in
/-- A number that comes in. -/
theorem open_num {H : Type} {enc : TypeId × Value → H} {W : World} {base : Nat} {sp : Nat → Bool} {held : Bool} {r : Reach} {b0 : Nat} {v : Value} {d : DataW H} {ps : List MemPlace}
    (hval : Value.okWide Tryd.prog W r b0 24 v) (hd : DataW.Trod enc Tryd.prog W base sp held 24 v d ps) : ∃ X, X < W12 ∧ v = num X := by
  have A : WideMaps.ArrKey Tryd.prog 24 22 12 := ⟨Tryd.underlying24, by kernel_rfl, cells1W, cells12W⟩
  obtain ⟨⟨cs⟩, rfl, hn⟩ := WideMaps.okWide_arr A hval
  simp only [List.size_toArray] at hn
  obtain ⟨fuel, hf⟩ := hd
  have key : ∀ i, i < 12 → ∃ a : Int, (cs.drop (i * 1)).take 1 = [.int .u64 a] ∧ (Lit.int .u64 a).wf = true := by
    cases fuel with
    | zero => simp [DataW.trod] at hf
    | succ m =>
      rw [DataW.trod_step] at hf
      unfold DataW.trodStep at hf
      simp only [A.hu, Value.cells] at hf
      rw [if_pos (by rw [A.size]; simpa using hn)] at hf
      simp only [Option.map_eq_some_iff, A.one] at hf
      obtain ⟨ys, hy, e1⟩ := hf
      intro i hi
      obtain ⟨y, h1⟩ := mapM_each hy i (by simpa using hi)
      obtain ⟨a, ea, _, wa⟩ := DataW.trod_int Tryd.underlying22 h1
      exact ⟨a, ea, wa⟩
  have hcell : ∀ i (h : i < cs.length), ∃ n : Nat, cs[i] = .int .u64 (n : Int) ∧ n < 18446744073709551616 := by
    intro i h
    obtain ⟨a, ea, wa⟩ := key i (by omega)
    obtain ⟨n, rfl, hn⟩ := u64_word wa
    refine ⟨n, ?_, hn⟩
    have e2 : ((cs.drop (i * 1)).take 1)[0]? = cs[i]? := by simp
    rw [ea, List.getElem?_eq_getElem h] at e2
    simpa using e2.symm
  have hl : (wordsOf cs).length = 12 := by simp [wordsOf, hn]
  have hlt : allLt (wordsOf cs) := by
    intro x hx
    obtain ⟨i, hi, rfl⟩ := List.getElem_of_mem hx
    obtain ⟨n, e, hn⟩ := hcell i (by simpa [wordsOf] using hi)
    simp only [wordsOf, List.getElem_map, e]
    simpa using hn
  refine ⟨val 18446744073709551616 (wordsOf cs), val12 (by omega) hlt, ?_⟩
  unfold num
  rw [ds_of hl hlt]
  congr 2
  apply List.ext_getElem (by simp [cellsOf64, wordsOf])
  intro i h1 h2
  obtain ⟨n, e, hn⟩ := hcell i h1
  simp [cellsOf64, wordsOf, e]
end Go.Proofs.YtfonpmahcdmajaaDoor
/-
  What the card's condition gives GroupScalars' walk: the three tables hold what the text lays in them; the door's own heap meets it.
-/
namespace Go.Proofs.YtfonpmahcdmajaaDoor
open Go.RowKit
set_option linter.unusedVariables false

/-- The tables of the field and of the group. -/
structure GlobS (w : World) : Prop where
  f : Glob w
  g : GlobW w
def laidS : List (String × DataW Unit) := [("avouch/field.prime", Rows.laid_avouch_field_prime), ("avouch/field.raise", Rows.laid_avouch_field_raise), ("avouch/wide.prime", Rows.laid_avouch_wide_prime)]
theorem door_metS (os : Os) (args : Array Value) : laidMetH Tryd.prog laidS ((World.doorLaid Tryd.prog 400 os).forCall (fun _ _ => 0) ⟨#[], args, []⟩).memory :=
  laidMetH_of_parts3 (fuel := 8) (laidMet_of_run' 8 (by kernel_rfl) (by kernel_rfl)) (by kernel_rfl) (by kernel_rfl)

theorem globS_of_laid {W : World} (h : laidMetH Tryd.prog laidS W) : GlobS W := by
  rw [MakeChecks.laidMetH_plain _ _ _ (by kernel_rfl)] at h
  obtain ⟨ps, ⟨g0, t0, cs0, f0, p0, q0, hg0, ht0, hv0, hd0, ⟨g1, t1, cs1, f1, p1, q1, hg1, ht1, hv1, hd1, ⟨g2, t2, cs2, f2, p2, q2, hg2, ht2, hv2, hd2, _, _⟩, _⟩, _⟩, _, _⟩ := h
  obtain rfl := Option.some.inj (gPrime.symm.trans hg0)
  obtain rfl := Option.some.inj (gRaise.symm.trans hg1)
  obtain rfl := Option.some.inj (gWide.symm.trans hg2)
  obtain rfl := Option.some.inj (tPrime.symm.trans ht0)
  obtain rfl := Option.some.inj (tRaise.symm.trans ht1)
  obtain rfl := Option.some.inj (tWide.symm.trans ht2)
  have e0 := Lib.cells_of_tab (zs := [4891460686036598785, 2896914383306846353, 13281191951274694749, 3486998266802970665]) Tryd.underlying64 Tryd.underlying22 cellsW cells4W hd0
  have e1 := Lib.cells_of_tab (zs := [1997599621687373223, 6052339484930628067, 10108755138030829701, 150537098327114917]) Tryd.underlying64 Tryd.underlying22 cellsW cells4W hd1
  have e2 := Lib.cells_of_tab (zs := (ds bigP).map fun (x : Nat) => (x : Int)) Tryd.underlying24 Tryd.underlying22 cells1W cells12W hd2
  obtain ⟨l0⟩ := cs0
  obtain ⟨l1⟩ := cs1
  obtain ⟨l2⟩ := cs2
  simp only at e0 e1 e2
  have e3 : l2 = cellsOf64 (ds bigP) := e2
  subst e0 e1 e3
  have a0 := World.var?_cell hg0 hv0 0
  have a1 := World.var?_cell hg0 hv0 1
  have a2 := World.var?_cell hg0 hv0 2
  have a3 := World.var?_cell hg0 hv0 3
  have b0 := World.var?_cell hg1 hv1 0
  have b1 := World.var?_cell hg1 hv1 1
  have b2 := World.var?_cell hg1 hv1 2
  have b3 := World.var?_cell hg1 hv1 3
  simp at a0 a1 a2 a3 b0 b1 b2 b3
  have c0 : W.cell? ⟨1, 0, none⟩ = some (.int .u64 18446744073709551615) := by rw [World.var?_cell hg2 hv2 0]; rfl
  refine ⟨⟨World.block_lt_of_cell? W _ a0, World.block_lt_of_cell? W _ b0, a0, a1, a2, a3, b0, b1, b2, b3⟩, World.block_lt_of_cell? W _ c0, fun j v hv => ?_⟩
  rw [Nat.zero_add, World.var?_cell hg2 hv2 j]
  simpa using hv
end Go.Proofs.YtfonpmahcdmajaaDoor
