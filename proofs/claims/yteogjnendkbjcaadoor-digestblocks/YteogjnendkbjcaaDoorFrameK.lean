import Derived.Test.YteogjnendkbjcaaDoorKPb
import Derived.Deep.QuietTactic
import Derived.BigQuiet
import Derived.Deep.RegionWith
import Derived.Deep.CutBlock
import Derived.Test.YteogjnendkbjcaaDoorRows
import Derived.LaidMore
import Derived.Lib.LaidTab
import Derived.WideKeyArr2
/-
  How a state in memory is turned word by word (PRel), how it begins and ends.
-/
namespace Go.Proofs.YteogjnendkbjcaaDoor
open Go.RowKit
set_option linter.unusedVariables false

def zS (t : TypeId) : Obj := .cells #[.int .u64 0, .int .u64 0, .int .u64 0, .int .u64 0, .int .u64 0, .int .u64 0, .int .u64 0, .int .u64 0, .int .u64 0, .int .u64 0, .int .u64 0, .int .u64 0, .int .u64 0, .int .u64 0, .int .u64 0, .int .u64 0, .int .u64 0, .int .u64 0, .int .u64 0, .int .u64 0, .int .u64 0, .int .u64 0, .int .u64 0, .int .u64 0, .int .u64 0] t
def l0 : List Nat := List.replicate 25 0
theorem l0_lanes : Lanes l0 := ⟨rfl, zeros_all 25⟩
theorem zS_new (w : World) (t : TypeId) : BlkW (w.alloc (zS t)) w.heap.size t l0 := BlkW.new64 w t l0 (zeros_all 25)
/-- The words of a block have become those of L, where D says so; those of l else. -/
structure PRel (w : World) (b r c : Nat) (t : TypeId) (src l L : List Nat) (D : Nat → Bool) (wr : World) : Prop where
  ex : ∃ ws : List Nat, ws.length = 25 ∧ BlkW wr b 31 ws ∧ ∀ i, i < 25 → ws.getD i 0 = if D i then L.getD i 0 else l.getD i 0
  z : BlkW wr r 31 l0
  s : BlkW wr c t src
  b : Below w.heap.size w wr
theorem PRel.step {w wr : World} {b r c : Nat} {t : TypeId} {src l L : List Nat} {D D' : Nat → Bool} (hL : Lanes L) (hr : b ≠ r) (hc : b ≠ c) (hb : w.heap.size ≤ b) (h : PRel w b r c t src l L D wr) (j : Nat) (hj : j < 25) (v : Int) (hv : v = ((L.getD j 0 : Nat) : Int))
    (hD : ∀ i, i < 25 → D' i = (D i || i == j)) : PRel w b r c t src l L D' (wr.setCell ⟨b, j, none⟩ (.int .u64 v)) := by
  obtain ⟨⟨ws, h1, hB, hi⟩, hz, hs, hw⟩ := h
  subst hv
  refine ⟨⟨ws.set j (L.getD j 0), by simp [h1], hB.set _ _ (hL.at_ _), fun i hi' => ?_⟩, hz.otherC (by omega), hs.otherC (by omega), hw.setCell hb _⟩
  rw [hD i hi']
  by_cases hij : i = j
  · subst hij
    rw [getD_set_eq _ _ _ (by omega), if_pos (by simp)]
  · rw [getD_set_ne _ _ _ _ (by omega), hi i hi', show (i == j) = false by simp [hij], Bool.or_false]
theorem PRel.turn {w wr : World} {b r c : Nat} {t : TypeId} {src l L : List Nat} {D D' : Nat → Bool} (h : PRel w b r c t src l L D wr) (hD : ∀ i, i < 25 → D' i = D i) : PRel w b r c t src l L D' wr := by
  obtain ⟨⟨ws, h1, hB, hi⟩, hz, hs, hw⟩ := h
  exact ⟨⟨ws, h1, hB, fun i hi' => by rw [hD i hi']; exact hi i hi'⟩, hz, hs, hw⟩
theorem PRel.drewN {w wr : World} {b r c : Nat} {t : TypeId} {src l L : List Nat} {D : Nat → Bool} (h : PRel w b r c t src l L D wr) (n : Nat) : PRel w b r c t src l L D (wr.drewN n) := by
  obtain ⟨⟨ws, h1, hB, hi⟩, hz, hs, hw⟩ := h
  exact ⟨⟨ws, h1, ⟨hB.heap, hB.lt⟩, hi⟩, ⟨hz.heap, hz.lt⟩, ⟨hs.heap, hs.lt⟩, below_drewN hw n⟩
theorem PRel.drew {w wr : World} {b r c : Nat} {t : TypeId} {src l L : List Nat} {D : Nat → Bool} (h : PRel w b r c t src l L D wr) : PRel w b r c t src l L D wr.drew := h.drewN 1
theorem PRel.end_ {w wr : World} {b r c : Nat} {t : TypeId} {src l L : List Nat} {D : Nat → Bool} (hL : L.length = 25) (h : PRel w b r c t src l L D wr) (hD : ∀ i, i < 25 → D i = true) : BlkW wr b 31 L ∧ BlkW wr r 31 l0 ∧ Below w.heap.size w wr := by
  obtain ⟨⟨ws, h1, hB, hi⟩, hz, hs, hw⟩ := h
  have e : ws = L := same_getD (by rw [h1, hL]) fun i hi' => by rw [hi i (by omega), hD i (by omega), if_pos rfl]
  rw [← e]
  exact ⟨hB, hz, hw⟩
/-- A word of it. -/
theorem PRel.at_ {w wr : World} {b r c : Nat} {t : TypeId} {src l L : List Nat} {D : Nat → Bool} (h : PRel w b r c t src l L D wr) {j : Nat} (hj : j < 25) (hD : D j = false) : wr.cell? ⟨b, j, none⟩ = some (.int .u64 (at64 l j)) := by
  obtain ⟨⟨ws, h1, hB, hi⟩, hz, hs, hw⟩ := h
  rw [hB.cell (by omega)]
  unfold at64
  rw [hi j hj, hD, if_neg (by simp)]
theorem PRel.there {w wr : World} {b r c : Nat} {t : TypeId} {src l L : List Nat} {D : Nat → Bool} (h : PRel w b r c t src l L D wr) {j : Nat} (hj : j < 25) : ∃ v, wr.cell? ⟨b, j, none⟩ = some (.int .u64 v) := by
  obtain ⟨⟨ws, h1, hB, hi⟩, hz, hs, hw⟩ := h
  exact ⟨_, hB.cell (by omega)⟩
theorem PRel.frozen {w wr : World} {b r c : Nat} {t : TypeId} {src l L : List Nat} {D : Nat → Bool} (h : PRel w b r c t src l L D wr) (j : Nat) : wr.frozen? ⟨b, j, none⟩ = false := by
  obtain ⟨⟨ws, h1, hB, hi⟩, hz, hs, hw⟩ := h
  exact hB.frozen j
/-- A state boxed, and room for the result. -/
theorem boot2 (w : World) {l : List Nat} (hl : Lanes l) : BlkW ((w.alloc (oW 31 l)).alloc (zS 31)) w.heap.size 31 l ∧
    BlkW ((w.alloc (oW 31 l)).alloc (zS 31)) (w.heap.size + 1) 31 l0 ∧ Below w.heap.size w ((w.alloc (oW 31 l)).alloc (zS 31)) := by
  have e1 : (w.alloc (oW 31 l)).heap.size = w.heap.size + 1 := by simp
  have h2 := zS_new (w.alloc (oW 31 l)) 31
  rw [e1] at h2
  exact ⟨(oW_new w _ l hl.all).alloc _, h2, ((Below.refl _ _).alloc (Nat.le_refl _) _).alloc (by omega) _⟩
theorem boot3 (w : World) {l : List Nat} (hl : Lanes l) : BlkW (((w.alloc (oW 31 l)).alloc (zS 31)).alloc (zS 31)) w.heap.size 31 l ∧
    BlkW (((w.alloc (oW 31 l)).alloc (zS 31)).alloc (zS 31)) (w.heap.size + 1) 31 l0 ∧
    BlkW (((w.alloc (oW 31 l)).alloc (zS 31)).alloc (zS 31)) (w.heap.size + 1 + 1) 31 l0 ∧ Below w.heap.size w (((w.alloc (oW 31 l)).alloc (zS 31)).alloc (zS 31)) := by
  obtain ⟨h1, h2, h3⟩ := boot2 w hl
  have e2 : ((w.alloc (oW 31 l)).alloc (zS 31)).heap.size = w.heap.size + 1 + 1 := by simp
  have h4 := zS_new ((w.alloc (oW 31 l)).alloc (zS 31)) 31
  rw [e2] at h4
  exact ⟨h1.alloc _, h2.alloc _, h4, h3.alloc (by omega) _⟩
theorem st_len {l : List Nat} (h : Lanes l) : (cellsOf64 l).length = 25 := by rw [c64_len, h.len]
/-- What is stored into a result's place, and read from it. -/
theorem st_stored {w : World} {r : Nat} {L : List Nat} (hL : Lanes L) (h : BlkW w r 31 l0) :
    (storeCells ⟨r, 0, none⟩ (cellsOf64 L)).run Tryd.prog w = .ok () (w.setCells r 0 (cellsOf64 L)) ∧ Hid ((w.setCells r 0 (cellsOf64 L)).rangeAt r 0 (cellsOf64 L)) := by
  have hth := h.there
  rw [show l0.length = 25 from rfl] at hth
  exact ⟨store64 r L w (by rw [hL.len]; exact hth), World.rangeAt_setCells_same w r 0 (cellsOf64 L) (by rw [st_len hL]; exact hth)⟩
theorem st_size {L : List Nat} (hL : Lanes L) : (Tryd.prog.info? 31).map (·.size) = some (cellsOf64 L).length := sizeSt.trans (congrArg some (st_len hL).symm)
theorem st_result {fn : Func} {p : Tmp} {w : World} {tmps : Array Value} {b : Nat} {L : List Nat} (hL : Lanes L) (h : fn.results = #[.cell p 31]) (hp : tmps.getD p undef = .pointer (some ⟨b, 0, none⟩)) (hr : Hid (w.rangeAt b 0 (cellsOf64 L))) :
    (results fn tmps).run Tryd.prog w = .ok (st L) w :=
  results_cell1 h ⟨b, 0, none⟩ _ hp (run_loadVar_mid _ b 0 31 (cellsOf64 L) _ hr.out Tryd.underlying31 rfl (st_size hL))
end Go.Proofs.YteogjnendkbjcaaDoor
/-
  What the cards' condition gives keccak's walks: the two tables hold what the text lays in them; the door's own heap meets it. States as arguments.
-/
namespace Go.Proofs.YteogjnendkbjcaaDoor
open Go.RowKit
open Go.ChangeShapes Go.WideShapes
set_option linter.unusedVariables false

def laidK : List (String × DataW Unit) := [("avouch/keccak.constants", Rows.laid_avouch_keccak_constants), ("avouch/keccak.offsets", Rows.laid_avouch_keccak_offsets)]
theorem gConst : Tryd.prog.globalNamed "avouch/keccak.constants" = some 1 := by kernel_rfl
theorem gOffs : Tryd.prog.globalNamed "avouch/keccak.offsets" = some 0 := by kernel_rfl
theorem tConst : (Tryd.prog.globals[1]?).map (·.type) = some 74 := by kernel_rfl
theorem tOffs : (Tryd.prog.globals[0]?).map (·.type) = some 70 := by kernel_rfl
theorem cells1K : Tryd.prog.cellsOf 29 = 1 := by kernel_rfl
theorem cellsIK : Tryd.prog.cellsOf 3 = 1 := by kernel_rfl
theorem cells24K : Tryd.prog.cellsOf 74 = 24 := by kernel_rfl
theorem cells25I : Tryd.prog.cellsOf 70 = 25 := by kernel_rfl
theorem cells25K : Tryd.prog.cellsOf 31 = 25 := by kernel_rfl

theorem door_metK (os : Os) (args : Array Value) : laidMetH Tryd.prog laidK ((World.doorLaid Tryd.prog 400 os).forCall (fun _ _ => 0) ⟨#[], args, []⟩).memory :=
  laidMetH_of_parts3 (fuel := 8) (laidMet_of_run' 8 (by kernel_rfl) (by kernel_rfl)) (by kernel_rfl) (by kernel_rfl)

def cellsI64 (l : List Nat) : List Value := l.map fun (x : Nat) => .int .i64 (x : Int)
theorem globK_of_laid {W : World} (h : laidMetH Tryd.prog laidK W) : GlobK W := by
  rw [MakeChecks.laidMetH_plain _ _ _ (by kernel_rfl)] at h
  obtain ⟨ps, ⟨g0, t0, cs0, f0, p0, q0, hg0, ht0, hv0, hd0, ⟨g1, t1, cs1, f1, p1, q1, hg1, ht1, hv1, hd1, _, _⟩, _⟩, _, _⟩ := h
  obtain rfl := Option.some.inj (gConst.symm.trans hg0)
  obtain rfl := Option.some.inj (gOffs.symm.trans hg1)
  obtain rfl := Option.some.inj (tConst.symm.trans ht0)
  obtain rfl := Option.some.inj (tOffs.symm.trans ht1)
  have e0 := Lib.cells_of_tab (zs := kconst.map fun (x : Nat) => (x : Int)) Tryd.underlying74 Tryd.underlying29 cells1K cells24K hd0
  have e1 := Lib.cells_of_tab (zs := koff.map fun (x : Nat) => (x : Int)) Tryd.underlying70 Tryd.underlying3 cellsIK cells25I hd1
  obtain ⟨l0⟩ := cs0
  obtain ⟨l1⟩ := cs1
  simp only at e0 e1
  have e2 : l0 = cellsOf64 kconst := e0
  have e3 : l1 = cellsI64 koff := e1
  subst e2 e3
  have c0 : W.cell? ⟨1, 0, none⟩ = some (.int .u64 1) := by rw [World.var?_cell hg0 hv0 0]; rfl
  have c1 : W.cell? ⟨0, 0, none⟩ = some (.int .i64 0) := by rw [World.var?_cell hg1 hv1 0]; rfl
  refine ⟨⟨World.block_lt_of_cell? W _ c0, World.block_lt_of_cell? W _ c1⟩, fun i hi => ?_, fun i hi => ?_⟩
  · rw [World.var?_cell hg0 hv0 i]
    have key : ∀ i : Fin 24, (cellsOf64 kconst)[i.val]? = some (.int .u64 ((kconst.getD i.val 0 : Nat) : Int)) := by
      intro i
      have hl : i.val < kconst.length := i.isLt
      simp [cellsOf64, List.getD_eq_getElem?_getD, List.getElem?_eq_getElem hl]
    simpa using key ⟨i, hi⟩
  · rw [World.var?_cell hg1 hv1 i]
    have key : ∀ i : Fin 25, (cellsI64 koff)[i.val]? = some (.int .i64 ((koff.getD i.val 0 : Nat) : Int)) := by
      intro i
      have hl : i.val < koff.length := i.isLt
      simp [cellsI64, List.getD_eq_getElem?_getD, List.getElem?_eq_getElem hl]
    simpa using key ⟨i, hi⟩

theorem u64_word {a : Int} (h : (Lit.int .u64 a).wf = true) : ∃ v : Nat, a = (v : Int) ∧ v < 18446744073709551616 := by
  have e1 : IntKind.u64.min = 0 := by decide
  have e2 : IntKind.u64.max = 18446744073709551615 := by decide
  simp [Lit.wf, e1, e2] at h
  exact ⟨a.toNat, by omega, by omega⟩
theorem mapM_eachK {α β : Type} {f : α → Option β} : ∀ {L : List α} {xs : List β}, L.mapM f = some xs → ∀ i ∈ L, ∃ y, f i = some y
  | [], _, _, i, hi => by simp at hi
  | j :: L, xs, h, i, hi => by
    rw [List.mapM_cons] at h
    simp only [bind, Option.bind_eq_some_iff, pure, Option.some.injEq] at h
    obtain ⟨y, hy, ys, hys, rfl⟩ := h
    rcases List.mem_cons.1 hi with rfl | hi
    · exact ⟨y, hy⟩
    · exact mapM_eachK hys i hi
/-- Words of cells. -/
def wordsK (cs : List Value) : List Nat := cs.map fun v => match v with | .int _ a => a.toNat | _ => 0
set_option maxRecDepth 20000 in
/-- A number that comes in. -/
theorem open_st {H : Type} {enc : TypeId × Value → H} {W : World} {base : Nat} {sp : Nat → Bool} {held : Bool} {r : Reach} {b0 : Nat} {v : Value} {d : DataW H} {ps : List MemPlace}
    (hval : Value.okWide Tryd.prog W r b0 31 v) (hd : DataW.Trod enc Tryd.prog W base sp held 31 v d ps) : ∃ l, Lanes l ∧ v = st l := by
  have A : WideMaps.ArrKey Tryd.prog 31 29 25 := ⟨Tryd.underlying31, by kernel_rfl, cells1K, cells25K⟩
  obtain ⟨⟨cs⟩, rfl, hn⟩ := WideMaps.okWide_arr A hval
  simp only [List.size_toArray] at hn
  obtain ⟨fuel, hf⟩ := hd
  have key : ∀ i, i < 25 → ∃ a : Int, (cs.drop (i * 1)).take 1 = [.int .u64 a] ∧ (Lit.int .u64 a).wf = true := by
    cases fuel with
    | zero => simp [DataW.trod] at hf
    | succ m =>
      rw [DataW.trod_step] at hf
      unfold DataW.trodStep at hf
      simp only [A.hu, Value.cells] at hf
      rw [if_pos (by rw [A.size]; simpa using hn)] at hf
      simp only [Option.map_eq_some_iff, A.one] at hf
      obtain ⟨ys, hy, e1⟩ := hf
      intro i hi
      obtain ⟨y, h1⟩ := mapM_eachK hy i (by simpa using hi)
      obtain ⟨a, ea, _, wa⟩ := DataW.trod_int Tryd.underlying29 h1
      exact ⟨a, ea, wa⟩
  have hcell : ∀ i (h : i < cs.length), ∃ n : Nat, cs[i] = .int .u64 (n : Int) ∧ n < 18446744073709551616 := by
    intro i h
    obtain ⟨a, ea, wa⟩ := key i (by omega)
    obtain ⟨n, rfl, hn⟩ := u64_word wa
    refine ⟨n, ?_, hn⟩
    have e2 : ((cs.drop (i * 1)).take 1)[0]? = cs[i]? := by simp
    rw [ea, List.getElem?_eq_getElem h] at e2
    simpa using e2.symm
  have hl : (wordsK cs).length = 25 := by simp [wordsK, hn]
  have hlt : allLt (wordsK cs) := by
    intro x hx
    obtain ⟨i, hi, rfl⟩ := List.getElem_of_mem hx
    obtain ⟨n, e, hn⟩ := hcell i (by simpa [wordsK] using hi)
    simp only [wordsK, List.getElem_map, e]
    simpa using hn
  refine ⟨wordsK cs, ⟨hl, hlt⟩, ?_⟩
  unfold st
  congr 2
  apply List.ext_getElem (by simp [cellsOf64, wordsK])
  intro i h1 h2
  obtain ⟨n, e, hn⟩ := hcell i h1
  simp [cellsOf64, wordsK, e]
end Go.Proofs.YteogjnendkbjcaaDoor
