/-
  How a state in memory is turned word by word (PRel), how it begins and ends.
-/
import Derived.Test.YteogjnendkbjcaaDoorKPb
import Derived.Deep.QuietTactic
import Derived.BigQuiet
import Derived.Deep.RegionWith
import Derived.Deep.CutBlock
namespace Go.Proofs.YteogjnendkbjcaaDoor
open Go.RowKit
set_option linter.unusedVariables false

def zS (t : TypeId) : Obj := .cells #[.int .u64 0, .int .u64 0, .int .u64 0, .int .u64 0, .int .u64 0, .int .u64 0, .int .u64 0, .int .u64 0, .int .u64 0, .int .u64 0, .int .u64 0, .int .u64 0, .int .u64 0, .int .u64 0, .int .u64 0, .int .u64 0, .int .u64 0, .int .u64 0, .int .u64 0, .int .u64 0, .int .u64 0, .int .u64 0, .int .u64 0, .int .u64 0, .int .u64 0] t
def l0 : List Nat := List.replicate 25 0
theorem l0_lanes : Lanes l0 := ⟨rfl, zeros_all 25⟩
theorem zS_new (w : World) (t : TypeId) : BlkW (w.alloc (zS t)) w.heap.size t l0 := BlkW.new64 w t l0 (zeros_all 25)
/-- The words of a block have become those of L, where D says so; those of l else. -/
structure PRel (w : World) (b r c : Nat) (t : TypeId) (src l L : List Nat) (D : Nat → Bool) (wr : World) : Prop where
  ex : ∃ ws : List Nat, ws.length = 25 ∧ BlkW wr b 31 ws ∧ ∀ i, i < 25 → ws.getD i 0 = if D i then L.getD i 0 else l.getD i 0
  z : BlkW wr r 31 l0
  s : BlkW wr c t src
  b : Below w.heap.size w wr
theorem PRel.step {w wr : World} {b r c : Nat} {t : TypeId} {src l L : List Nat} {D D' : Nat → Bool} (hL : Lanes L) (hr : b ≠ r) (hc : b ≠ c) (hb : w.heap.size ≤ b) (h : PRel w b r c t src l L D wr) (j : Nat) (hj : j < 25) (v : Int) (hv : v = ((L.getD j 0 : Nat) : Int))
    (hD : ∀ i, i < 25 → D' i = (D i || i == j)) : PRel w b r c t src l L D' (wr.setCell ⟨b, j, none⟩ (.int .u64 v)) := by
  obtain ⟨⟨ws, h1, hB, hi⟩, hz, hs, hw⟩ := h
  subst hv
  refine ⟨⟨ws.set j (L.getD j 0), by simp [h1], hB.set _ _ (hL.at_ _), fun i hi' => ?_⟩, hz.otherC (by omega), hs.otherC (by omega), hw.setCell hb _⟩
  rw [hD i hi']
  by_cases hij : i = j
  · subst hij
    rw [getD_set_eq _ _ _ (by omega), if_pos (by simp)]
  · rw [getD_set_ne _ _ _ _ (by omega), hi i hi', show (i == j) = false by simp [hij], Bool.or_false]
theorem PRel.turn {w wr : World} {b r c : Nat} {t : TypeId} {src l L : List Nat} {D D' : Nat → Bool} (h : PRel w b r c t src l L D wr) (hD : ∀ i, i < 25 → D' i = D i) : PRel w b r c t src l L D' wr := by
  obtain ⟨⟨ws, h1, hB, hi⟩, hz, hs, hw⟩ := h
  exact ⟨⟨ws, h1, hB, fun i hi' => by rw [hD i hi']; exact hi i hi'⟩, hz, hs, hw⟩
theorem PRel.drewN {w wr : World} {b r c : Nat} {t : TypeId} {src l L : List Nat} {D : Nat → Bool} (h : PRel w b r c t src l L D wr) (n : Nat) : PRel w b r c t src l L D (wr.drewN n) := by
  obtain ⟨⟨ws, h1, hB, hi⟩, hz, hs, hw⟩ := h
  exact ⟨⟨ws, h1, ⟨hB.heap, hB.lt⟩, hi⟩, ⟨hz.heap, hz.lt⟩, ⟨hs.heap, hs.lt⟩, below_drewN hw n⟩
theorem PRel.drew {w wr : World} {b r c : Nat} {t : TypeId} {src l L : List Nat} {D : Nat → Bool} (h : PRel w b r c t src l L D wr) : PRel w b r c t src l L D wr.drew := h.drewN 1
theorem PRel.end_ {w wr : World} {b r c : Nat} {t : TypeId} {src l L : List Nat} {D : Nat → Bool} (hL : L.length = 25) (h : PRel w b r c t src l L D wr) (hD : ∀ i, i < 25 → D i = true) : BlkW wr b 31 L ∧ BlkW wr r 31 l0 ∧ Below w.heap.size w wr := by
  obtain ⟨⟨ws, h1, hB, hi⟩, hz, hs, hw⟩ := h
  have e : ws = L := same_getD (by rw [h1, hL]) fun i hi' => by rw [hi i (by omega), hD i (by omega), if_pos rfl]
  rw [← e]
  exact ⟨hB, hz, hw⟩
/-- A word of it. -/
theorem PRel.at_ {w wr : World} {b r c : Nat} {t : TypeId} {src l L : List Nat} {D : Nat → Bool} (h : PRel w b r c t src l L D wr) {j : Nat} (hj : j < 25) (hD : D j = false) : wr.cell? ⟨b, j, none⟩ = some (.int .u64 (at64 l j)) := by
  obtain ⟨⟨ws, h1, hB, hi⟩, hz, hs, hw⟩ := h
  rw [hB.cell (by omega)]
  unfold at64
  rw [hi j hj, hD, if_neg (by simp)]
theorem PRel.there {w wr : World} {b r c : Nat} {t : TypeId} {src l L : List Nat} {D : Nat → Bool} (h : PRel w b r c t src l L D wr) {j : Nat} (hj : j < 25) : ∃ v, wr.cell? ⟨b, j, none⟩ = some (.int .u64 v) := by
  obtain ⟨⟨ws, h1, hB, hi⟩, hz, hs, hw⟩ := h
  exact ⟨_, hB.cell (by omega)⟩
theorem PRel.frozen {w wr : World} {b r c : Nat} {t : TypeId} {src l L : List Nat} {D : Nat → Bool} (h : PRel w b r c t src l L D wr) (j : Nat) : wr.frozen? ⟨b, j, none⟩ = false := by
  obtain ⟨⟨ws, h1, hB, hi⟩, hz, hs, hw⟩ := h
  exact hB.frozen j
/-- A state boxed, and room for the result. -/
theorem boot2 (w : World) {l : List Nat} (hl : Lanes l) : BlkW ((w.alloc (oW 31 l)).alloc (zS 31)) w.heap.size 31 l ∧
    BlkW ((w.alloc (oW 31 l)).alloc (zS 31)) (w.heap.size + 1) 31 l0 ∧ Below w.heap.size w ((w.alloc (oW 31 l)).alloc (zS 31)) := by
  have e1 : (w.alloc (oW 31 l)).heap.size = w.heap.size + 1 := by simp
  have h2 := zS_new (w.alloc (oW 31 l)) 31
  rw [e1] at h2
  exact ⟨(oW_new w _ l hl.all).alloc _, h2, ((Below.refl _ _).alloc (Nat.le_refl _) _).alloc (by omega) _⟩
theorem boot3 (w : World) {l : List Nat} (hl : Lanes l) : BlkW (((w.alloc (oW 31 l)).alloc (zS 31)).alloc (zS 31)) w.heap.size 31 l ∧
    BlkW (((w.alloc (oW 31 l)).alloc (zS 31)).alloc (zS 31)) (w.heap.size + 1) 31 l0 ∧
    BlkW (((w.alloc (oW 31 l)).alloc (zS 31)).alloc (zS 31)) (w.heap.size + 1 + 1) 31 l0 ∧ Below w.heap.size w (((w.alloc (oW 31 l)).alloc (zS 31)).alloc (zS 31)) := by
  obtain ⟨h1, h2, h3⟩ := boot2 w hl
  have e2 : ((w.alloc (oW 31 l)).alloc (zS 31)).heap.size = w.heap.size + 1 + 1 := by simp
  have h4 := zS_new ((w.alloc (oW 31 l)).alloc (zS 31)) 31
  rw [e2] at h4
  exact ⟨h1.alloc _, h2.alloc _, h4, h3.alloc (by omega) _⟩
theorem st_len {l : List Nat} (h : Lanes l) : (cellsOf64 l).length = 25 := by rw [c64_len, h.len]
/-- What is stored into a result's place, and read from it. -/
theorem st_stored {w : World} {r : Nat} {L : List Nat} (hL : Lanes L) (h : BlkW w r 31 l0) :
    (storeCells ⟨r, 0, none⟩ (cellsOf64 L)).run Tryd.prog w = .ok () (w.setCells r 0 (cellsOf64 L)) ∧ Hid ((w.setCells r 0 (cellsOf64 L)).rangeAt r 0 (cellsOf64 L)) := by
  have hth := h.there
  rw [show l0.length = 25 from rfl] at hth
  exact ⟨store64 r L w (by rw [hL.len]; exact hth), World.rangeAt_setCells_same w r 0 (cellsOf64 L) (by rw [st_len hL]; exact hth)⟩
theorem st_size {L : List Nat} (hL : Lanes L) : (Tryd.prog.info? 31).map (·.size) = some (cellsOf64 L).length := sizeSt.trans (congrArg some (st_len hL).symm)
theorem st_result {fn : Func} {p : Tmp} {w : World} {tmps : Array Value} {b : Nat} {L : List Nat} (hL : Lanes L) (h : fn.results = #[.cell p 31]) (hp : tmps.getD p undef = .pointer (some ⟨b, 0, none⟩)) (hr : Hid (w.rangeAt b 0 (cellsOf64 L))) :
    (results fn tmps).run Tryd.prog w = .ok (st L) w :=
  results_cell1 h ⟨b, 0, none⟩ _ hp (run_loadVar_mid _ b 0 31 (cellsOf64 L) _ hr.out Tryd.underlying31 rfl (st_size hL))
end Go.Proofs.YteogjnendkbjcaaDoor
