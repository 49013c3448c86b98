import Derived.Test.YtdepkfdceidikaaDoorGnE
import Derived.Test.YtdepkfdceidikaaDoorMxI
import Derived.Test.YtdepkfdceidikaaDoorPsD
/-
  grain.Source.Element: what the call does.
-/
namespace Go.Proofs.YtdepkfdceidikaaDoor
open Go.RowKit
set_option linter.unusedVariables false

theorem Only.globF {b : Nat} {w w' : World} (h : Only b w w') (hG : Glob w) (hlo : 0 < b ∧ 1 < b) : Glob w' := by
  have key : ∀ g : Nat, g < w.heap.size → g < b → ∀ i, w'.cell? ⟨g, i, none⟩ = w.cell? ⟨g, i, none⟩ := fun g h1 h2 i =>
    (h.below (B := g + 1) (by omega) (by omega)).cell (p := ⟨g, i, none⟩) (Nat.lt_succ_self g)
  have p := key _ hG.sizeP hlo.1
  have r := key _ hG.sizeR hlo.2
  exact ⟨Nat.lt_of_lt_of_le hG.sizeP h.size, Nat.lt_of_lt_of_le hG.sizeR h.size, (p 0).trans hG.p0, (p 1).trans hG.p1, (p 2).trans hG.p2, (p 3).trans hG.p3, (r 0).trans hG.r0, (r 1).trans hG.r1, (r 2).trans hG.r2, (r 3).trans hG.r3⟩
/-- The register on the way: its next element is the one that is looked for. -/
structure ElR (w : World) (b : Nat) (t : TypeId) (z y x : Nat) (wr : World) : Prop where
  gs : GS x
  g : G8 wr b t x
  r : B4 wr w.heap.size 0 0 0 0
  o : Only b w wr
  gl : Glob wr
  hv : gelv x = z
  hr : gelr x = y
theorem Only.b4 {b c : Nat} {w w' : World} {a0 a1 a2 a3 : Int} (h : Only b w w') (hB : B4 w c a0 a1 a2 a3) (hne : c ≠ b) : B4 w' c a0 a1 a2 a3 := by
  have hs := hB.size
  obtain ⟨t, e⟩ := hB.heap
  exact ⟨t, (h.block c hs hne).trans e⟩
/-- Four words stored into a variable that is new. -/
theorem four_put {w v : World} {b q y : Nat} {t : TypeId} (hg : G8 v b t y) (ho : Only b w v) (hb : b < w.heap.size) (hq : w.heap.size ≤ q) (x0 x1 x2 x3 : Int) :
    G8 ((((v.setCell ⟨q, 0, none⟩ (.int .u64 x0)).setCell ⟨q, 1, none⟩ (.int .u64 x1)).setCell ⟨q, 2, none⟩ (.int .u64 x2)).setCell ⟨q, 3, none⟩ (.int .u64 x3)) b t y ∧
    Only b w ((((v.setCell ⟨q, 0, none⟩ (.int .u64 x0)).setCell ⟨q, 1, none⟩ (.int .u64 x1)).setCell ⟨q, 2, none⟩ (.int .u64 x2)).setCell ⟨q, 3, none⟩ (.int .u64 x3)) :=
  have hne : b ≠ q := by omega
  ⟨(((BlkV.other hg hne).other hne).other hne).other hne, (((ho.setUp hq _ _).setUp hq _ _).setUp hq _ _).setUp hq _ _⟩
theorem B4.range {w : World} {b : Nat} {a0 a1 a2 a3 : Int} (h : B4 w b a0 a1 a2 a3) : w.rangeAt b 0 [.int .u64 a0, .int .u64 a1, .int .u64 a2, .int .u64 a3] := by
  obtain ⟨t, e⟩ := h.heap
  exact BlkV.range (t := t) ⟨e⟩
theorem sizeE4 : (Tryd.prog.info? 27).map (·.size) = some 4 := by kernel_rfl
theorem B4.result {fn : Func} {p : Tmp} {w : World} {tmps : Array Value} {b : Nat} {a0 a1 a2 a3 : Int} (hr : Hid (B4 w b a0 a1 a2 a3)) (h : fn.results = #[.cell p 27]) (hp : tmps.getD p undef = .pointer (some ⟨b, 0, none⟩)) :
    (results fn tmps).run Tryd.prog w = .ok (.agg #[.int .u64 a0, .int .u64 a1, .int .u64 a2, .int .u64 a3]) w :=
  results_cell1 h ⟨b, 0, none⟩ _ hp (run_loadVar_mid _ b 0 27 [.int .u64 a0, .int .u64 a1, .int .u64 a2, .int .u64 a3] _ hr.out.range Tryd.underlying27 rfl sizeE4)
theorem rd8_blk {w : World} {b : Nat} {t : TypeId} {l : List Nat} (h : BlkV w b t (cells8 l)) (hl : allLt8 l) : Rd8 w w.heap.size (some ⟨b, 0, none⟩) l.length l :=
  ⟨rfl, hl, fun _ => ⟨b, 0, rfl, h.size, fun i hi => by rw [Nat.zero_add]; exact BlkV.cell8 h hi⟩⟩
set_option maxRecDepth 20000 in
set_option maxHeartbeats 2000000 in
theorem gelem_c (s b : Nat) (t : TypeId) (w : World) (hs : GS s) (hB : G8 w b t s) (hG : Glob w) (hlo : 0 < b ∧ 1 < b) :
    Calls Tryd.prog 85 #[.pointer (some ⟨b, 0, none⟩)] w fun e w' => ∃ r, e = .returned r ∧ El r (gelv s) ∧ G8 w' b t (gelr s) ∧ Only b w w' := by
  have hb := hB.size
  have R0 : Hid (ElR w b t (gelv s) (gelr s) s (w.alloc (.cells #[.int .u64 0, .int .u64 0, .int .u64 0, .int .u64 0] 27))) :=
    ⟨hs, BlkV.alloc hB _, B4.new w 27 0 0 0 0, (Only.refl b w).alloc _, hG.up ((Below.refl _ _).alloc (Nat.le_refl _) _), rfl, rfl⟩
  generalize gelv s = z at *
  generalize gelr s = y at *
  clear hs hB hG
  go_enter Tryd.func85, Tryd.ntmps85
  go_wp2_with fail
  generalize w.alloc _ = w0 at *
  go_loopw [6] (fun _ wr => ∃ x, ElR w b t z y x wr) (fun _ w' => gel (regAt w' b t))
  case atStart => exact ⟨s, R0.out⟩
  case round =>
    clear R0
    obtain ⟨x, hrel⟩ := hrel
    have HR := hid hrel
    clear hrel
    go_wp2_with fail
    refine (gbytes_c x b t wr HR.out.gs HR.out.g).mono ?_
    rintro e w1 ⟨rfl, g1, o1⟩
    have hlen : (cells8 (gby x)).length = 32 := by unfold cells8; rw [List.length_map, gby_len]
    have hone : ∀ v ∈ cells8 (gby x), v.oneCell' = true := by intro v hv; unfold cells8 at hv; obtain ⟨x, _, rfl⟩ := List.mem_map.1 hv; rfl
    have n1 := BlkV.new w1 132 (cells8 z32)
    have hst : (storeCells ⟨w1.heap.size, 0, none⟩ (cells8 (gby x))).run Tryd.prog (w1.alloc (.cells (cells8 z32).toArray 132)) = .ok () ((w1.alloc (.cells (cells8 z32).toArray 132)).setCells w1.heap.size 0 (cells8 (gby x))) :=
      storeV _ 0 n1 (by rw [hlen]; decide) hone
    have k1 := BlkV.whole (cells8 (gby x)) n1 (by rw [hlen]; rfl)
    have hrd := rd8_blk k1 (gbl_lt 31 x)
    rw [gby_len] at hrd
    have hlz : (cells8 z32).length = 32 := rfl
    have hz := zero32v
    have b1 := below_cells (Nat.le_refl w1.heap.size) (cells8 (gby x)) 0 _ ((Below.refl w1.heap.size w1).alloc (Nat.le_refl _) (.cells (cells8 z32).toArray 132))
    have HG2 := hid (BlkV.up g1 b1)
    have nr : w.heap.size ≠ b := by omega
    have HR2 := hid ((o1.b4 HR.out.r nr).below b1 (o1.b4 HR.out.r nr).size)
    have HO2 := hid ((HR.out.o.trans o1).trans (Only.of b1))
    have HGL := hid ((o1.globF HR.out.gl hlo).up b1)
    have HV := hid (gby_val x)
    have HRD := hid hrd
    obtain ⟨cs, hcs⟩ : ∃ cs, cs = cells8 (gby x) := ⟨_, rfl⟩
    rw [← hcs] at hlen hst HG2 HR2 HO2 HGL HRD ⊢
    clear hone n1 k1 hrd b1 g1 o1 hcs
    go_wp2_with fail
    generalize ((w1.alloc _).setCells _ _ _) = w2 at *
    generalize w1.heap.size = q3 at *
    clear hst hlen hlz hz
    by_cases hp : gval 254 x < pN
    · refine (fromBytes_ok _ _ (gby x) w2 HRD.out HGL.out (by show _ < _; rw [HV.out]; exact hp)).mono ?_
      rintro e w3 ⟨r, rfl, hr, b3⟩
      rw [HV.out] at hr
      have HE := hid hr
      obtain ⟨r0, r1, r2, r3, rfl, -, -, -⟩ := hr
      have HH := hid (gel_here HR.out.gs hp)
      have hr3 := (HR2.out.below b3 HR2.out.size).alloc (o4 27 r0 r1 r2 r3)
      have c0 := hr3.c0
      have c1 := hr3.c1
      have c2 := hr3.c2
      have c3 := hr3.c3
      have f0 := hr3.frozen 0
      have f1 := hr3.frozen 1
      have f2 := hr3.frozen 2
      have f3 := hr3.frozen 3
      have HRES := hid (hr3.all r0 r1 r2 r3)
      have FIN := hid (four_put (BlkV.alloc (BlkV.up HG2.out b3) (o4 27 r0 r1 r2 r3)) ((HO2.out.trans (Only.of b3)).alloc (o4 27 r0 r1 r2 r3)) hb (Nat.le_refl _) r0 r1 r2 r3)
      have HE2 : Hid (El (w4 r0 r1 r2 r3) z) := by
        show El _ _
        rw [← HR.out.hv, HH.out.1]
        exact HE.out
      have HR2' : Hid (gns 254 x = y) := by
        show _ = _
        rw [← HR.out.hr, HH.out.2]
      rw [HR2'.out] at FIN
      clear hr3 b3 HRD hp HV HGL HO2 HG2 HR2 HR HE HH HR2'
      unfold w4 o4 at *
      go_wp2_with fail
      refine bodyPost_ret (B4.result HRES Tryd.results85 rfl) rfl ?_
      exact ⟨_, rfl, HE2.out, FIN.out.1, FIN.out.2⟩
    · refine (fromBytes_canon _ _ (gby x) w2 HRD.out HGL.out (by show _ ≤ _; rw [HV.out]; exact Nat.le_of_not_lt hp)).mono ?_
      rintro e w3 ⟨r, rfl, hr, b3⟩
      obtain ⟨r0, r1, r2, r3, rfl, -, -, -⟩ := hr
      have HL := hid (gel_later HR.out.gs hp)
      have bu := b3.trans ((Below.refl w2.heap.size w3).alloc b3.size (o4 27 r0 r1 r2 r3))
      have HN : Hid (ElR w b t z y (gns 254 x) (w3.alloc (o4 27 r0 r1 r2 r3))) :=
        ⟨GS.ns 254 HR.out.gs, BlkV.up HG2.out bu, HR2.out.below bu HR2.out.size, HO2.out.trans (Only.of bu), HGL.out.up bu, HL.out.1.trans HR.out.hv, HL.out.2.1.trans HR.out.hr⟩
      have HM : Hid (gel (regAt (w3.alloc (o4 27 r0 r1 r2 r3)) b t) < gel (regAt wr b t)) := by
        show _ < _
        rw [regAt_eq HN.out.g HN.out.gs.lt, regAt_eq HR.out.g HR.out.gs.lt]
        exact HL.out.2.2
      clear bu b3 HRD hp HV HGL HO2 HG2 HR2 HR HL
      unfold w4 o4 at *
      go_wp2_with fail
      go_roundw
      case rel => exact ⟨_, HN.out⟩
      case measure => exact HM.out
end Go.Proofs.YtdepkfdceidikaaDoor
/-
  A permutation as it lies in a block: the Once (three cells), the constants and the matrix (816 words that a function tells).
-/
namespace Go.Proofs.YtdepkfdceidikaaDoor
open Go.RowKit
set_option linter.unusedVariables false

/-- d: done; m: the lock; f: the words. -/
noncomputable def pclB (d m : Int) (f : Nat → Int) : List Value := [.int .u32 d, .int .i32 m, .int .u32 0] ++ wds 816 f
noncomputable def pcl (d m : Int) (f : Nat → Int) : List Value := Classical.choose (p := fun l : List Value => l = pclB d m f) ⟨_, rfl⟩
theorem pcl_eq (d m : Int) (f : Nat → Int) : pcl d m f = [.int .u32 d, .int .i32 m, .int .u32 0] ++ wds 816 f := Classical.choose_spec (p := fun l : List Value => l = pclB d m f) ⟨_, rfl⟩
theorem pcl_len (d m : Int) (f : Nat → Int) : (pcl d m f).length = 819 := by rw [pcl_eq, List.length_append, wds_len]; rfl
theorem pcl_0 (d m : Int) (f : Nat → Int) : (pcl d m f)[0]? = some (.int .u32 d) := by rw [pcl_eq]; rfl
theorem pcl_1 (d m : Int) (f : Nat → Int) : (pcl d m f)[1]? = some (.int .i32 m) := by rw [pcl_eq]; rfl
theorem pcl_set0 (d m x : Int) (f : Nat → Int) : (pcl d m f).set 0 (.int .u32 x) = pcl x m f := by rw [pcl_eq, pcl_eq]; rfl
theorem pcl_set1 (d m x : Int) (f : Nat → Int) : (pcl d m f).set 1 (.int .i32 x) = pcl d x f := by rw [pcl_eq, pcl_eq]; rfl
theorem pcl_sub (d m : Int) (f : Nat → Int) (o n : Nat) (h : o + n ≤ 816) : ((pcl d m f).drop (3 + o)).take n = wds n fun k => f (o + k) := by
  rw [pcl_eq, ← List.drop_drop]
  exact wds_sub 816 o n f h
theorem pcl_over (d m : Int) (f g : Nat → Int) (o n : Nat) (h : o + n ≤ 816) : (pcl d m f).take (3 + o) ++ wds n g ++ (pcl d m f).drop (3 + o + n) = pcl d m (fput f o n g) := by
  have e1 : (pcl d m f).take (3 + o) = [.int .u32 d, .int .i32 m, .int .u32 0] ++ (wds 816 f).take o := by
    rw [pcl_eq, List.take_append, List.take_of_length_le (by simp)]
    simp
  have e2 : (pcl d m f).drop (3 + o + n) = (wds 816 f).drop (o + n) := by
    rw [pcl_eq, Nat.add_assoc, ← List.drop_drop]
    rfl
  rw [e1, e2, pcl_eq, List.append_assoc, List.append_assoc, ← List.append_assoc _ (wds n g), wds_over 816 o n f g h]
/-- Block b is a permutation. -/
abbrev PB (w : World) (b : Nat) (d m : Int) (f : Nat → Int) : Prop := BlkV w b 80 (pcl d m f)
theorem PB.done {w : World} {b : Nat} {d m : Int} {f : Nat → Int} (h : PB w b d m f) : w.cell? ⟨b, 0, none⟩ = some (.int .u32 d) := by
  have := BlkV.cell h (i := 0) (by rw [pcl_len]; decide)
  rw [this, ← List.getElem?_eq_getElem (by rw [pcl_len]; decide), pcl_0]
theorem PB.lock {w : World} {b : Nat} {d m : Int} {f : Nat → Int} (h : PB w b d m f) : w.cell? ⟨b, 1, none⟩ = some (.int .i32 m) := by
  have := BlkV.cell h (i := 1) (by rw [pcl_len]; decide)
  rw [this, ← List.getElem?_eq_getElem (by rw [pcl_len]; decide), pcl_1]
theorem PB.set0 {w : World} {b : Nat} {d m : Int} {f : Nat → Int} (h : PB w b d m f) (x : Int) : PB (w.setCell ⟨b, 0, none⟩ (.int .u32 x)) b x m f := by
  have := BlkV.set h 0 (.int .u32 x)
  rw [pcl_set0] at this
  exact this
theorem PB.set1 {w : World} {b : Nat} {d m : Int} {f : Nat → Int} (h : PB w b d m f) (x : Int) : PB (w.setCell ⟨b, 1, none⟩ (.int .i32 x)) b d x f := by
  have := BlkV.set h 1 (.int .i32 x)
  rw [pcl_set1] at this
  exact this
theorem PB.sub {w : World} {b : Nat} {d m : Int} {f : Nat → Int} (h : PB w b d m f) (o n : Nat) (hn : o + n ≤ 816) : w.rangeAt b (3 + o) (wds n fun k => f (o + k)) := by
  have := BlkV.rangeAt h (3 + o) n (by rw [pcl_len]; omega)
  rw [pcl_sub d m f o n hn] at this
  exact this
theorem PB.there {w : World} {b : Nat} {d m : Int} {f : Nat → Int} (h : PB w b d m f) (o n : Nat) (g : Nat → Int) (hn : o + n ≤ 816) : w.there b (3 + o) (wds n g).toArray.size := by
  rw [List.size_toArray, wds_len]
  exact BlkV.there h (3 + o) n (by rw [pcl_len]; omega)
theorem PB.lay {w : World} {b : Nat} {d m : Int} {f : Nat → Int} (h : PB w b d m f) (o n : Nat) (g : Nat → Int) (hn : o + n ≤ 816) : PB (w.setCells b (3 + o) (wds n g)) b d m (fput f o n g) := by
  have := BlkV.over (wds n g) (3 + o) w _ h (by rw [wds_len, pcl_len]; omega)
  rw [wds_len, pcl_over d m f g o n hn] at this
  exact this
theorem PB.new (w : World) : PB (w.alloc (.cells (pcl 0 0 z0).toArray 80)) w.heap.size 0 0 z0 := BlkV.new w _ _
theorem zeroP (v : World) : (zeroValue 80).run Tryd.prog v = .ok (.agg (pcl 0 0 z0).toArray) v := by
  rw [pcl_eq, wds_eq]
  kernel_rfl
/-- The constants of a source; the first k of them stand. -/
noncomputable def pgs : Nat := gS 254 3 8 57
def CP (k : Nat) (f : Nat → Int) : Prop := ∀ j, j < k → Ef f (j * 4) ((gelK j (gS 254 3 8 57) : Nat) : Int)
theorem CP.zero (f : Nat → Int) : CP 0 f := fun j hj => absurd hj (Nat.not_lt_zero j)
theorem CP.put {k : Nat} {f g : Nat → Int} (h : CP k f) (hg : Ez (.agg (wds 4 g).toArray) ((gelK k (gS 254 3 8 57) : Nat) : Int)) : CP (k + 1) (fput f (k * 4) 4 g) := by
  intro j hj
  rcases Nat.lt_or_ge j k with h1 | h1
  · exact (h j h1).putO (Or.inl (by omega))
  · obtain rfl : j = k := by omega
    exact Ef.put _ hg
theorem CP.putM {f g : Nat → Int} {k : Nat} (h : CP k f) (hk : k ≤ 195) : CP k (fput f 780 36 g) := fun j hj => (h j hj).putO (Or.inl (by omega))
theorem CP.at_ {f : Nat → Int} (h : CP 195 f) {r : Nat} (hr : r < 65) : VecZ (fun k => f (r * 12 + k)) (pcZ r) := by
  refine ⟨fun i hi => ?_⟩
  have h1 := h (3 * r + i) (by omega)
  have h2 : Ef f (r * 12 + i * 4) (pcZ r i) := by
    unfold pcZ
    rw [if_pos hr]
    exact h1.eq (by omega) rfl
  exact h2.shift
theorem MatZ.laid {f g : Nat → Int} {M : MZ} (h : MatZ g M) : MatZ (fun k => fput f 780 36 g (780 + k)) M := by
  refine ⟨fun i j hi hj => ?_⟩
  refine ⟨?_⟩
  rw [wds_ext (g := fun k => g (i * 12 + j * 4 + k)) fun k hk => by
    show fput f 780 36 g (780 + (i * 12 + j * 4 + k)) = _
    exact fput_in (by omega)]
  exact (h.at_ i j hi hj).out
theorem MatZ.kept {f g : Nat → Int} {M : MZ} {o n : Nat} (h : MatZ (fun k => f (780 + k)) M) (ho : o + n ≤ 780) : MatZ (fun k => fput f o n g (780 + k)) M := by
  refine ⟨fun i j hi hj => ⟨?_⟩⟩
  rw [wds_ext (g := fun k => f (780 + (i * 12 + j * 4 + k))) fun k hk => by
    show fput f o n g (780 + (i * 12 + j * 4 + k)) = _
    exact fput_out (by omega)]
  exact (h.at_ i j hi hj).out
/-- A permutation that may be used: not yet found, or all found. -/
def PI (w : World) (b : Nat) : Prop := ∃ (d : Int) (f : Nat → Int), PB w b d 0 f ∧ (d = 0 ∨ d = 1 ∧ CP 195 f ∧ MatZ (fun k => f (780 + k)) mzCauchy)
theorem PI.size {w : World} {b : Nat} (h : PI w b) : b < w.heap.size := by
  obtain ⟨d, f, hb, _⟩ := h
  exact BlkV.size hb
theorem PI.up {w w' : World} {b : Nat} (h : PI w b) (hb : Below w.heap.size w w') : PI w' b := by
  obtain ⟨d, f, h1, h2⟩ := h
  exact ⟨d, f, BlkV.up h1 hb, h2⟩
theorem PI.new (w : World) : PI (w.alloc (.cells (pcl 0 0 z0).toArray 80)) w.heap.size := ⟨0, z0, PB.new w, Or.inl rfl⟩
end Go.Proofs.YtdepkfdceidikaaDoor
