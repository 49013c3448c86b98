/-
  grain.Source.Element: what the call does.
-/
import Derived.Test.YtpjjobophplleaaDoorGnE
namespace Go.Proofs.YtpjjobophplleaaDoor
open Go.RowKit
set_option linter.unusedVariables false

theorem Only.globF {b : Nat} {w w' : World} (h : Only b w w') (hG : Glob w) (hlo : 0 < b ∧ 1 < b) : Glob w' := by
  have key : ∀ g : Nat, g < w.heap.size → g < b → ∀ i, w'.cell? ⟨g, i, none⟩ = w.cell? ⟨g, i, none⟩ := fun g h1 h2 i =>
    (h.below (B := g + 1) (by omega) (by omega)).cell (p := ⟨g, i, none⟩) (Nat.lt_succ_self g)
  have p := key _ hG.sizeP hlo.1
  have r := key _ hG.sizeR hlo.2
  exact ⟨Nat.lt_of_lt_of_le hG.sizeP h.size, Nat.lt_of_lt_of_le hG.sizeR h.size, (p 0).trans hG.p0, (p 1).trans hG.p1, (p 2).trans hG.p2, (p 3).trans hG.p3, (r 0).trans hG.r0, (r 1).trans hG.r1, (r 2).trans hG.r2, (r 3).trans hG.r3⟩
/-- The register on the way: its next element is the one that is looked for. -/
structure ElR (w : World) (b : Nat) (t : TypeId) (z y x : Nat) (wr : World) : Prop where
  gs : GS x
  g : G8 wr b t x
  r : B4 wr w.heap.size 0 0 0 0
  o : Only b w wr
  gl : Glob wr
  hv : gelv x = z
  hr : gelr x = y
theorem Only.b4 {b c : Nat} {w w' : World} {a0 a1 a2 a3 : Int} (h : Only b w w') (hB : B4 w c a0 a1 a2 a3) (hne : c ≠ b) : B4 w' c a0 a1 a2 a3 := by
  have hs := hB.size
  obtain ⟨t, e⟩ := hB.heap
  exact ⟨t, (h.block c hs hne).trans e⟩
/-- Four words stored into a variable that is new. -/
theorem four_put {w v : World} {b q y : Nat} {t : TypeId} (hg : G8 v b t y) (ho : Only b w v) (hb : b < w.heap.size) (hq : w.heap.size ≤ q) (x0 x1 x2 x3 : Int) :
    G8 ((((v.setCell ⟨q, 0, none⟩ (.int .u64 x0)).setCell ⟨q, 1, none⟩ (.int .u64 x1)).setCell ⟨q, 2, none⟩ (.int .u64 x2)).setCell ⟨q, 3, none⟩ (.int .u64 x3)) b t y ∧
    Only b w ((((v.setCell ⟨q, 0, none⟩ (.int .u64 x0)).setCell ⟨q, 1, none⟩ (.int .u64 x1)).setCell ⟨q, 2, none⟩ (.int .u64 x2)).setCell ⟨q, 3, none⟩ (.int .u64 x3)) :=
  have hne : b ≠ q := by omega
  ⟨(((BlkV.other hg hne).other hne).other hne).other hne, (((ho.setUp hq _ _).setUp hq _ _).setUp hq _ _).setUp hq _ _⟩
theorem B4.range {w : World} {b : Nat} {a0 a1 a2 a3 : Int} (h : B4 w b a0 a1 a2 a3) : w.rangeAt b 0 [.int .u64 a0, .int .u64 a1, .int .u64 a2, .int .u64 a3] := by
  obtain ⟨t, e⟩ := h.heap
  exact BlkV.range (t := t) ⟨e⟩
theorem sizeE4 : (Tryd.prog.info? 39).map (·.size) = some 4 := by kernel_rfl
theorem B4.result {fn : Func} {p : Tmp} {w : World} {tmps : Array Value} {b : Nat} {a0 a1 a2 a3 : Int} (hr : Hid (B4 w b a0 a1 a2 a3)) (h : fn.results = #[.cell p 39]) (hp : tmps.getD p undef = .pointer (some ⟨b, 0, none⟩)) :
    (results fn tmps).run Tryd.prog w = .ok (.agg #[.int .u64 a0, .int .u64 a1, .int .u64 a2, .int .u64 a3]) w :=
  results_cell1 h ⟨b, 0, none⟩ _ hp (run_loadVar_mid _ b 0 39 [.int .u64 a0, .int .u64 a1, .int .u64 a2, .int .u64 a3] _ hr.out.range Tryd.underlying39 rfl sizeE4)
theorem rd8_blk {w : World} {b : Nat} {t : TypeId} {l : List Nat} (h : BlkV w b t (cells8 l)) (hl : allLt8 l) : Rd8 w w.heap.size (some ⟨b, 0, none⟩) l.length l :=
  ⟨rfl, hl, fun _ => ⟨b, 0, rfl, h.size, fun i hi => by rw [Nat.zero_add]; exact BlkV.cell8 h hi⟩⟩
set_option maxRecDepth 20000 in
set_option maxHeartbeats 2000000 in
theorem gelem_c (s b : Nat) (t : TypeId) (w : World) (hs : GS s) (hB : G8 w b t s) (hG : Glob w) (hlo : 0 < b ∧ 1 < b) :
    Calls Tryd.prog 10 #[.pointer (some ⟨b, 0, none⟩)] w fun e w' => ∃ r, e = .returned r ∧ El r (gelv s) ∧ G8 w' b t (gelr s) ∧ Only b w w' := by
  have hb := hB.size
  have R0 : Hid (ElR w b t (gelv s) (gelr s) s (w.alloc (.cells #[.int .u64 0, .int .u64 0, .int .u64 0, .int .u64 0] 39))) :=
    ⟨hs, BlkV.alloc hB _, B4.new w 39 0 0 0 0, (Only.refl b w).alloc _, hG.up ((Below.refl _ _).alloc (Nat.le_refl _) _), rfl, rfl⟩
  generalize gelv s = z at *
  generalize gelr s = y at *
  clear hs hB hG
  go_enter Tryd.func10, Tryd.ntmps10
  go_wp2_with fail
  generalize w.alloc _ = w0 at *
  go_loopw [6] (fun _ wr => ∃ x, ElR w b t z y x wr) (fun _ w' => gel (regAt w' b t))
  case atStart => exact ⟨s, R0.out⟩
  case round =>
    clear R0
    obtain ⟨x, hrel⟩ := hrel
    have HR := hid hrel
    clear hrel
    go_wp2_with fail
    refine (gbytes_c x b t wr HR.out.gs HR.out.g).mono ?_
    rintro e w1 ⟨rfl, g1, o1⟩
    have hlen : (cells8 (gby x)).length = 32 := by unfold cells8; rw [List.length_map, gby_len]
    have hone : ∀ v ∈ cells8 (gby x), v.oneCell' = true := by intro v hv; unfold cells8 at hv; obtain ⟨x, _, rfl⟩ := List.mem_map.1 hv; rfl
    have n1 := BlkV.new w1 60 (cells8 z32)
    have hst : (storeCells ⟨w1.heap.size, 0, none⟩ (cells8 (gby x))).run Tryd.prog (w1.alloc (.cells (cells8 z32).toArray 60)) = .ok () ((w1.alloc (.cells (cells8 z32).toArray 60)).setCells w1.heap.size 0 (cells8 (gby x))) :=
      storeV _ 0 n1 (by rw [hlen]; decide) hone
    have k1 := BlkV.whole (cells8 (gby x)) n1 (by rw [hlen]; rfl)
    have hrd := rd8_blk k1 (gbl_lt 31 x)
    rw [gby_len] at hrd
    have hlz : (cells8 z32).length = 32 := rfl
    have hz := zero32v
    have b1 := below_cells (Nat.le_refl w1.heap.size) (cells8 (gby x)) 0 _ ((Below.refl w1.heap.size w1).alloc (Nat.le_refl _) (.cells (cells8 z32).toArray 60))
    have HG2 := hid (BlkV.up g1 b1)
    have nr : w.heap.size ≠ b := by omega
    have HR2 := hid ((o1.b4 HR.out.r nr).below b1 (o1.b4 HR.out.r nr).size)
    have HO2 := hid ((HR.out.o.trans o1).trans (Only.of b1))
    have HGL := hid ((o1.globF HR.out.gl hlo).up b1)
    have HV := hid (gby_val x)
    have HRD := hid hrd
    obtain ⟨cs, hcs⟩ : ∃ cs, cs = cells8 (gby x) := ⟨_, rfl⟩
    rw [← hcs] at hlen hst HG2 HR2 HO2 HGL HRD ⊢
    clear hone n1 k1 hrd b1 g1 o1 hcs
    go_wp2_with fail
    generalize ((w1.alloc _).setCells _ _ _) = w2 at *
    generalize w1.heap.size = q3 at *
    clear hst hlen hlz hz
    by_cases hp : gval 254 x < pN
    · refine (fromBytes_ok _ _ (gby x) w2 HRD.out HGL.out (by show _ < _; rw [HV.out]; exact hp)).mono ?_
      rintro e w3 ⟨r, rfl, hr, b3⟩
      rw [HV.out] at hr
      have HE := hid hr
      obtain ⟨r0, r1, r2, r3, rfl, -, -, -⟩ := hr
      have HH := hid (gel_here HR.out.gs hp)
      have hr3 := (HR2.out.below b3 HR2.out.size).alloc (o4 39 r0 r1 r2 r3)
      have c0 := hr3.c0
      have c1 := hr3.c1
      have c2 := hr3.c2
      have c3 := hr3.c3
      have f0 := hr3.frozen 0
      have f1 := hr3.frozen 1
      have f2 := hr3.frozen 2
      have f3 := hr3.frozen 3
      have HRES := hid (hr3.all r0 r1 r2 r3)
      have FIN := hid (four_put (BlkV.alloc (BlkV.up HG2.out b3) (o4 39 r0 r1 r2 r3)) ((HO2.out.trans (Only.of b3)).alloc (o4 39 r0 r1 r2 r3)) hb (Nat.le_refl _) r0 r1 r2 r3)
      have HE2 : Hid (El (w4 r0 r1 r2 r3) z) := by
        show El _ _
        rw [← HR.out.hv, HH.out.1]
        exact HE.out
      have HR2' : Hid (gns 254 x = y) := by
        show _ = _
        rw [← HR.out.hr, HH.out.2]
      rw [HR2'.out] at FIN
      clear hr3 b3 HRD hp HV HGL HO2 HG2 HR2 HR HE HH HR2'
      unfold w4 o4 at *
      go_wp2_with fail
      refine bodyPost_ret (B4.result HRES Tryd.results10 rfl) rfl ?_
      exact ⟨_, rfl, HE2.out, FIN.out.1, FIN.out.2⟩
    · refine (fromBytes_canon _ _ (gby x) w2 HRD.out HGL.out (by show _ ≤ _; rw [HV.out]; exact Nat.le_of_not_lt hp)).mono ?_
      rintro e w3 ⟨r, rfl, hr, b3⟩
      obtain ⟨r0, r1, r2, r3, rfl, -, -, -⟩ := hr
      have HL := hid (gel_later HR.out.gs hp)
      have bu := b3.trans ((Below.refl w2.heap.size w3).alloc b3.size (o4 39 r0 r1 r2 r3))
      have HN : Hid (ElR w b t z y (gns 254 x) (w3.alloc (o4 39 r0 r1 r2 r3))) :=
        ⟨GS.ns 254 HR.out.gs, BlkV.up HG2.out bu, HR2.out.below bu HR2.out.size, HO2.out.trans (Only.of bu), HGL.out.up bu, HL.out.1.trans HR.out.hv, HL.out.2.1.trans HR.out.hr⟩
      have HM : Hid (gel (regAt (w3.alloc (o4 39 r0 r1 r2 r3)) b t) < gel (regAt wr b t)) := by
        show _ < _
        rw [regAt_eq HN.out.g HN.out.gs.lt, regAt_eq HR.out.g HR.out.gs.lt]
        exact HL.out.2.2
      clear bu b3 HRD hp HV HGL HO2 HG2 HR2 HR HL
      unfold w4 o4 at *
      go_wp2_with fail
      go_roundw
      case rel => exact ⟨_, HN.out⟩
      case measure => exact HM.out
end Go.Proofs.YtpjjobophplleaaDoor
