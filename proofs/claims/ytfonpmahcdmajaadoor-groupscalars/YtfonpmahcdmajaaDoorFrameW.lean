import Derived.Test.YtfonpmahcdmajaaDoorWidB
import Derived.Test.YtfonpmahcdmajaaDoorRows
import Derived.LaidMore
import Derived.Lib.LaidTab
import Derived.WideKeyArr2
/-
  wide.ringOf, Group, Exponents, (*Ring).Size, avouchlaw04.ring: what each call does.
-/
namespace Go.Proofs.YtfonpmahcdmajaaDoor
open Go.RowKit
set_option linter.unusedVariables false

/-- At block b lies a ring of the number X. -/
structure RingP (w : World) (b X : Nat) : Prop where
  ex : ∃ p, w.cell? ⟨b, 0, none⟩ = some (.pointer (some ⟨p, 0, none⟩)) ∧ b < w.heap.size ∧ ModP w p (ds X)
theorem RingP.up {w w' : World} {b X : Nat} (h : RingP w b X) (hb : Below w.heap.size w w') : RingP w' b X := by
  obtain ⟨p, h1, h2, h3⟩ := h
  exact ⟨p, (hb.cell (p := ⟨b, 0, none⟩) h2).trans h1, Nat.lt_of_lt_of_le h2 hb.size, h3.keep hb h3.lt⟩
/-- What the program's table holds. -/
structure GlobW (w : World) : Prop where
  size : 1 < w.heap.size
  range : w.rangeAt 1 0 (cellsOf64 (ds bigP))
theorem GlobW.up {w w' : World} (h : GlobW w) (hb : Below w.heap.size w w') : GlobW w' :=
  ⟨Nat.lt_of_lt_of_le h.size hb.size, fun j v hv => (hb.cell (p := ⟨1, 0 + j, none⟩) h.size).trans (h.range j v hv)⟩
theorem rtP : Rt (ds bigP) := by unfold Rt; decide
theorem rtQ : Rt (ds bigQ) := by unfold Rt; decide
theorem half_P : bigP / 2 = bigQ := by decide

set_option maxRecDepth 20000 in
set_option maxHeartbeats 1000000 in
theorem ringOf_c (X : Nat) (w : World) (hr : Hid (Rt (ds X))) :
    Calls Tryd.prog 82 #[num X] w fun e w' => ∃ b, e = .returned (.pointer (some ⟨b, 0, none⟩)) ∧ RingP w' b X ∧ Below w.heap.size w w' := by
  have hlen0 := dsc_len X
  have hA0 := o12_new w 24 X
  have hl0 := (Below.refl w.heap.size w).alloc (Nat.le_refl _) (o12 24 X)
  have ra := hA0.rd0 hA0.size (ds_len X)
  have HL := hid hl0
  clear hA0 hl0
  unfold num
  go_enter Tryd.func82, Tryd.ntmps82
  go_wp2_with fail
  refine (new_some _ 12 12 (ds X) _ ra hr.out).mono ?_
  rintro e w1 ⟨p, rfl, hp, hM, hb1⟩
  have hl1 := HL.out.trans (Below.mono (B' := w.heap.size) hb1 HL.out.size)
  have R : Hid (RingP (w1.alloc (.cells #[.pointer (some ⟨p, 0, none⟩)] 78)) w1.heap.size X) := by
    refine ⟨p, ?_, by simp, hM.keep ((Below.refl _ _).alloc (Nat.le_refl _) _) hM.lt⟩
    rw [cell_of_row _ w1.heap.size 0 _ _ (0, 0) (heap_alloc_new w1 _)]
    rfl
  clear ra hb1 hM HL hlen0
  go_wp2
  go_ret
  exact ⟨_, rfl, R.out, hl1.alloc hl1.size _⟩

theorem load_prime {w : World} (hG : GlobW w) : Hid (w.rangeAt 1 0 (cellsOf64 (ds bigP))) := hid hG.range
set_option maxRecDepth 20000 in
set_option maxHeartbeats 1000000 in
theorem group_c (w : World) (hG : GlobW w) :
    Calls Tryd.prog 47 #[] w fun e w' => ∃ b, e = .returned (.pointer (some ⟨b, 0, none⟩)) ∧ RingP w' b bigP ∧ Below w.heap.size w w' := by
  have HR := hid hG.range
  have HE := hid (dsc_len bigP)
  obtain ⟨X, hX⟩ : ∃ X, X = bigP := ⟨_, rfl⟩
  rw [← hX] at HR HE ⊢
  have HRT : Hid (Rt (ds X)) := by rw [hX]; exact rtP
  clear hX hG
  go_enter Tryd.func47, Tryd.ntmps47
  go_wp2_with (with_reducible refine wpList_load_mid rfl 24 (.global 1) rfl 1 0 rfl (cellsOf64 (ds X)) _ HR.out Tryd.underlying24 rfl (sizeNb.trans (congrArg some HE.out.symm)) ?_)
  refine (ringOf_c X w HRT).mono ?_
  rintro e w1 ⟨b, rfl, hR, hb⟩
  have R := hid hR
  clear hR HR HE HRT
  go_wp2
  go_ret
  exact ⟨_, rfl, R.out, hb⟩
set_option maxRecDepth 20000 in
set_option maxHeartbeats 1000000 in
theorem exponents_c (w : World) (hG : GlobW w) :
    Calls Tryd.prog 50 #[] w fun e w' => ∃ b, e = .returned (.pointer (some ⟨b, 0, none⟩)) ∧ RingP w' b bigQ ∧ Below w.heap.size w w' := by
  have HR := hid hG.range
  have HE := hid (dsc_len bigP)
  have HH := hid half_P
  have HLT := hid bigP_lt
  obtain ⟨X, hX⟩ : ∃ X, X = bigP := ⟨_, rfl⟩
  rw [← hX] at HR HE HH HLT
  obtain ⟨Y, hY⟩ : ∃ Y, Y = bigQ := ⟨_, rfl⟩
  rw [← hY] at HH ⊢
  have HRT : Hid (Rt (ds Y)) := by rw [hY]; exact rtQ
  clear hX hG hY
  go_enter Tryd.func50, Tryd.ntmps50
  go_wp2_with (with_reducible refine wpList_load_mid rfl 24 (.global 1) rfl 1 0 rfl (cellsOf64 (ds X)) _ HR.out Tryd.underlying24 rfl (sizeNb.trans (congrArg some HE.out.symm)) ?_)
  refine (half_c X w HLT).mono ?_
  rintro e w1 ⟨rfl, hb1⟩
  rw [HH.out]
  go_wp2_with fail
  refine (ringOf_c Y w1 HRT).mono ?_
  rintro e w2 ⟨b, rfl, hR, hb2⟩
  have R := hid hR
  clear hR HR HE HRT
  go_wp2
  go_ret
  exact ⟨_, rfl, R.out, bchain hb1 hb2⟩

/-- P or q. -/
def mOf (g : Bool) : Nat := if g then bigP else bigQ
theorem mOf_lt (g : Bool) : mOf g < W12 := by cases g <;> decide
theorem mOf_pos (g : Bool) : 0 < mOf g := by cases g <;> decide
theorem ring_c (g : Bool) (w : World) (hG : GlobW w) :
    Calls Tryd.prog 10 #[.bool g] w fun e w' => ∃ b, e = .returned (.pointer (some ⟨b, 0, none⟩)) ∧ RingP w' b (mOf g) ∧ Below w.heap.size w w' := by
  cases g
  · go_enter Tryd.func10, Tryd.ntmps10
    go_wp2_with fail
    refine (exponents_c w hG).mono ?_
    rintro e w1 ⟨b, rfl, hR, hb⟩
    have R := hid hR
    clear hR
    go_wp2
    go_ret
    exact ⟨_, rfl, R.out, hb⟩
  · go_enter Tryd.func10, Tryd.ntmps10
    go_wp2_with fail
    refine (group_c w hG).mono ?_
    rintro e w1 ⟨b, rfl, hR, hb⟩
    have R := hid hR
    clear hR
    go_wp2
    go_ret
    exact ⟨_, rfl, R.out, hb⟩

/-- What is stored into a result's place, and read from it. -/
theorem num_stored {w : World} {b X : Nat} (h : BlkW w b 24 (List.replicate 12 0)) :
    (storeCells ⟨b, 0, none⟩ (cellsOf64 (ds X))).run Tryd.prog w = .ok () (w.setCells b 0 (cellsOf64 (ds X))) ∧ Hid ((w.setCells b 0 (cellsOf64 (ds X))).rangeAt b 0 (cellsOf64 (ds X))) := by
  have hlen := dsc_len X
  exact ⟨store64 b (ds X) w (by rw [ds_len]; exact h.there), World.rangeAt_setCells_same w b 0 (cellsOf64 (ds X)) (by rw [hlen]; exact h.there)⟩
theorem num_result {fn : Func} {p : Tmp} {w : World} {tmps : Array Value} {b X : Nat} (h : fn.results = #[.cell p 24]) (hp : tmps.getD p undef = .pointer (some ⟨b, 0, none⟩)) (hr : Hid (w.rangeAt b 0 (cellsOf64 (ds X)))) :
    (results fn tmps).run Tryd.prog w = .ok (num X) w :=
  results_cell1 h ⟨b, 0, none⟩ _ hp (run_loadVar_mid _ b 0 24 (cellsOf64 (ds X)) _ hr.out Tryd.underlying24 rfl (sizeNb.trans (congrArg some (dsc_len X).symm)))

set_option maxRecDepth 20000 in
set_option maxHeartbeats 1000000 in
theorem size_c (b X : Nat) (w : World) (hR : RingP w b X) (hX : Hid (X < W12)) :
    Calls Tryd.prog 11 #[.pointer (some ⟨b, 0, none⟩)] w fun e w' => e = .returned (num X) ∧ Below w.heap.size w w' := by
  have hl0 := (Below.refl w.heap.size w).alloc (Nat.le_refl _) (z12 24)
  obtain ⟨p, h1, h2, h3⟩ := hR.up hl0
  have hZ0 := z12_new w 24
  have HL := hid hl0
  have HZ := hid hZ0
  unfold z12 at h1
  have HB := hid hR
  clear hl0 hZ0 hR
  go_enter Tryd.func11, Tryd.ntmps11
  go_wp2_with fail
  refine (mwords_c p (ds X) _ h3).mono ?_
  rintro e w1 ⟨A, c, l, rfl, hc, rl, vl, hb1⟩
  rw [ds_len] at rl hc ⊢
  rw [ds_val X hX.out] at vl
  have HV := hid vl
  clear vl
  go_wp2_with fail
  refine (numberOf_c A 12 c l w1 rl (by decide)).mono ?_
  rintro e w2 ⟨rfl, hb2⟩
  rw [HV.out]
  have hl1 := HL.out.trans (Below.mono (B' := w.heap.size) hb1 HL.out.size)
  have hl2 := hl1.trans (hb2.mono hl1.size)
  have hZ2 := (HZ.out.below hb1 HZ.out.size).below hb2 (Nat.lt_of_lt_of_le HZ.out.size hb1.size)
  obtain ⟨hst, HR⟩ := num_stored (X := X) hZ2
  have hlen := dsc_len X
  clear hb1 hb2 rl h1 h2 h3 hZ2 HZ HL hl1
  unfold num
  go_wp2
  refine bodyPost_ret (num_result Tryd.results11 rfl HR) rfl ?_
  exact ⟨rfl, below_cells (Nat.le_refl _) _ _ _ hl2⟩
end Go.Proofs.YtfonpmahcdmajaaDoor
/-
  What the cards' condition gives wide's walks: the table holds P; the door's own heap meets it. Numbers as arguments.
-/
namespace Go.Proofs.YtfonpmahcdmajaaDoor
open Go.RowKit
open Go.ChangeShapes Go.WideShapes
set_option linter.unusedVariables false

def laidW : List (String × DataW Unit) := [("avouch/wide.prime", Rows.laid_avouch_wide_prime)]
theorem gWide : Tryd.prog.globalNamed "avouch/wide.prime" = some 1 := by kernel_rfl
theorem tWide : (Tryd.prog.globals[1]?).map (·.type) = some 24 := by kernel_rfl
theorem cells1W : Tryd.prog.cellsOf 22 = 1 := by kernel_rfl
theorem cells12W : Tryd.prog.cellsOf 24 = 12 := by kernel_rfl

theorem door_metW (os : Os) (args : Array Value) : laidMetH Tryd.prog laidW ((World.doorLaid Tryd.prog 400 os).forCall (fun _ _ => 0) ⟨#[], args, []⟩).memory :=
  laidMetH_of_parts3 (fuel := 8) (laidMet_of_run' 8 (by kernel_rfl) (by kernel_rfl)) (by kernel_rfl) (by kernel_rfl)

theorem globW_of_laid {W : World} (h : laidMetH Tryd.prog laidW W) : GlobW W := by
  rw [MakeChecks.laidMetH_plain _ _ _ (by kernel_rfl)] at h
  obtain ⟨ps, ⟨g0, t0, cs0, f0, p0, q0, hg0, ht0, hv0, hd0, _, _⟩, _, _⟩ := h
  obtain rfl := Option.some.inj (gWide.symm.trans hg0)
  obtain rfl := Option.some.inj (tWide.symm.trans ht0)
  have e0 := Lib.cells_of_tab (zs := (ds bigP).map fun (x : Nat) => (x : Int)) Tryd.underlying24 Tryd.underlying22 cells1W cells12W hd0
  obtain ⟨l0⟩ := cs0
  simp only at e0
  have e1 : l0 = cellsOf64 (ds bigP) := e0
  subst e1
  have c0 : W.cell? ⟨1, 0, none⟩ = some (.int .u64 18446744073709551615) := by rw [World.var?_cell hg0 hv0 0]; rfl
  refine ⟨World.block_lt_of_cell? W _ c0, fun j v hv => ?_⟩
  rw [Nat.zero_add, World.var?_cell hg0 hv0 j]
  simpa using hv

theorem u64_word {a : Int} (h : (Lit.int .u64 a).wf = true) : ∃ v : Nat, a = (v : Int) ∧ v < 18446744073709551616 := by
  have e1 : IntKind.u64.min = 0 := by decide
  have e2 : IntKind.u64.max = 18446744073709551615 := by decide
  simp [Lit.wf, e1, e2] at h
  exact ⟨a.toNat, by omega, by omega⟩
theorem u32_word {a : Int} (h : (Lit.int .u32 a).wf = true) : ∃ v : Nat, a = (v : Int) ∧ v < 4294967296 := by
  have e1 : IntKind.u32.min = 0 := by decide
  have e2 : IntKind.u32.max = 4294967295 := by decide
  simp [Lit.wf, e1, e2] at h
  exact ⟨a.toNat, by omega, by omega⟩
theorem mapM_each {α β : Type} {f : α → Option β} : ∀ {L : List α} {xs : List β}, L.mapM f = some xs → ∀ i ∈ L, ∃ y, f i = some y
  | [], _, _, i, hi => by simp at hi
  | j :: L, xs, h, i, hi => by
    rw [List.mapM_cons] at h
    simp only [bind, Option.bind_eq_some_iff, pure, Option.some.injEq] at h
    obtain ⟨y, hy, ys, hys, rfl⟩ := h
    rcases List.mem_cons.1 hi with rfl | hi
    · exact ⟨y, hy⟩
    · exact mapM_each hys i hi
/-- Words of cells. -/
def wordsOf (cs : List Value) : List Nat := cs.map fun v => match v with | .int _ a => a.toNat | _ => 0
set_option maxRecDepth 20000 in
/-- A number that comes in. -/
theorem open_num {H : Type} {enc : TypeId × Value → H} {W : World} {base : Nat} {sp : Nat → Bool} {held : Bool} {r : Reach} {b0 : Nat} {v : Value} {d : DataW H} {ps : List MemPlace}
    (hval : Value.okWide Tryd.prog W r b0 24 v) (hd : DataW.Trod enc Tryd.prog W base sp held 24 v d ps) : ∃ X, X < W12 ∧ v = num X := by
  have A : WideMaps.ArrKey Tryd.prog 24 22 12 := ⟨Tryd.underlying24, by kernel_rfl, cells1W, cells12W⟩
  obtain ⟨⟨cs⟩, rfl, hn⟩ := WideMaps.okWide_arr A hval
  simp only [List.size_toArray] at hn
  obtain ⟨fuel, hf⟩ := hd
  have key : ∀ i, i < 12 → ∃ a : Int, (cs.drop (i * 1)).take 1 = [.int .u64 a] ∧ (Lit.int .u64 a).wf = true := by
    cases fuel with
    | zero => simp [DataW.trod] at hf
    | succ m =>
      rw [DataW.trod_step] at hf
      unfold DataW.trodStep at hf
      simp only [A.hu, Value.cells] at hf
      rw [if_pos (by rw [A.size]; simpa using hn)] at hf
      simp only [Option.map_eq_some_iff, A.one] at hf
      obtain ⟨ys, hy, e1⟩ := hf
      intro i hi
      obtain ⟨y, h1⟩ := mapM_each hy i (by simpa using hi)
      obtain ⟨a, ea, _, wa⟩ := DataW.trod_int Tryd.underlying22 h1
      exact ⟨a, ea, wa⟩
  have hcell : ∀ i (h : i < cs.length), ∃ n : Nat, cs[i] = .int .u64 (n : Int) ∧ n < 18446744073709551616 := by
    intro i h
    obtain ⟨a, ea, wa⟩ := key i (by omega)
    obtain ⟨n, rfl, hn⟩ := u64_word wa
    refine ⟨n, ?_, hn⟩
    have e2 : ((cs.drop (i * 1)).take 1)[0]? = cs[i]? := by simp
    rw [ea, List.getElem?_eq_getElem h] at e2
    simpa using e2.symm
  have hl : (wordsOf cs).length = 12 := by simp [wordsOf, hn]
  have hlt : allLt (wordsOf cs) := by
    intro x hx
    obtain ⟨i, hi, rfl⟩ := List.getElem_of_mem hx
    obtain ⟨n, e, hn⟩ := hcell i (by simpa [wordsOf] using hi)
    simp only [wordsOf, List.getElem_map, e]
    simpa using hn
  refine ⟨val 18446744073709551616 (wordsOf cs), val12 (by omega) hlt, ?_⟩
  unfold num
  rw [ds_of hl hlt]
  congr 2
  apply List.ext_getElem (by simp [cellsOf64, wordsOf])
  intro i h1 h2
  obtain ⟨n, e, hn⟩ := hcell i h1
  simp [cellsOf64, wordsOf, e]
end Go.Proofs.YtfonpmahcdmajaaDoor
