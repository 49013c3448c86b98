import Derived.Test.YtdepkfdceidikaaGreatDoorMrA
import Derived.Test.YtdepkfdceidikaaGreatDoorPsA
import Derived.Test.YtdepkfdceidikaaGreatDoorMnA
import Derived.Test.YtdepkfdceidikaaGreatDoorHrB
/-
  avouchref01.Trim of digits; avouchref09.Cauchy: what each call does.
-/
namespace Go.Proofs.YtdepkfdceidikaaGreatDoor
open Go.RowKit
set_option linter.unusedVariables false
set_option linter.unusedSimpArgs false


theorem dTrim_c (u : Value) (X : Int) (w : World) (hu : Dz w u X) :
    Calls Tryz.prog 58 #[u] w fun e w' => ∃ r, e = .returned r ∧ Dz w' r X ∧ Below w.heap.size w w' := by
  obtain ⟨x, hx, lx, ex⟩ := hu.ex
  obtain ⟨A, c, l, rfl, h1, h2, h3, h4, h5, h6⟩ := hx.ex
  refine (trim_c A l.length c _ l w h3 (by omega) h1).mono ?_
  rintro e w' ⟨m, hm, rfl, hw, ht, hz⟩
  have hb : Below w.heap.size w w := Below.refl _ _
  have hD := dig_of_trim h3 h4 hb hm h1 rfl hw ht hz
  rw [h6] at hD
  obtain ⟨v, he, hv, hb2⟩ := Dg.of hD (lt_big (Nat.lt_trans lx (by decide)))
  injection he with he
  subst he
  exact ⟨_, rfl, ⟨⟨x, hv, lx, ex⟩⟩, hb2⟩
theorem litDz (w : World) (n : Nat) (h0 : 0 < n) (hn : n < 4294967296) : Dz (w.alloc (.cells #[.int .u64 (n : Int)] 34)) (.slice (some ⟨w.heap.size, 0, none⟩) 1 1) (n : Int) := by
  have r1 := rdw_one w n (Nat.lt_trans hn (by decide))
  have hs : (w.alloc (.cells #[.int .u64 (n : Int)] 34)).heap.size = w.heap.size + 1 := by simp
  rw [← hs] at r1
  have hlt : n < pN := Nat.lt_trans hn (by decide)
  refine ⟨⟨n, ⟨_, 1, [n], rfl, Nat.le_refl 1, (by decide : 1 ≤ 2000), r1, fun x hx => ?_, Or.inr ?_, by simp [val, pv]⟩, hlt, z_nat hlt⟩⟩
  · rw [List.mem_singleton.1 hx]
    exact hn
  · show [n].getD 0 0 ≠ 0
    show n ≠ 0
    omega
set_option maxRecDepth 20000 in
set_option maxHeartbeats 1000000 in
theorem refCauchy_c (w : World) :
    Calls Tryz.prog 28 #[] w fun e w' => ∃ v, e = .returned v ∧ DM w' v 3 mzCauchy ∧ Below w.heap.size w w' := by
  have R0 := hid (RowT.new 28 w w.heap.size (Nat.le_refl _))
  have B0 := hid ((Below.refl w.heap.size w).alloc (Nat.le_refl _) (.cells #[] 28))
  go_enter Tryz.func28, Tryz.ntmps28
  go_wp2_with fail
  generalize (w.alloc _) = w0 at *
  go_loopw [1, 2] (fun v i wr => ∃ k : Nat, ∃ es : List Value, k ≤ 3 ∧ i = .int .i64 k ∧ Hid (es.length = k) ∧ RowT 28 wr w.heap.size v es ∧ AllV wr es 3 mzCauchy ∧ Below w.heap.size w wr) (fun _ i _ => 3 - (intOf i).toNat)
  case atStart => exact ⟨0, [], by omega, rfl, hid rfl, R0.out, AllV.nil _ _ _, B0.out⟩
  case round =>
    clear R0 B0
    obtain ⟨k, es, hk, rfl, HL, hR, hA, hb⟩ := hrel
    by_cases hlt : k < 3
    · have i0 : (0 : Int) ≤ (k : Int) := by omega
      have i2 : (k : Int) < 3 := by omega
      have HR := hid hR
      have HA := hid hA
      have HB := hid hb
      clear hR hA hb
      obtain ⟨w1, rfl⟩ : ∃ x, x = wr := ⟨wr, rfl⟩
      have R1 := hid (RowT.new 50 w1 w1.heap.size (Nat.le_refl _))
      have B1 := hid ((Below.refl w1.heap.size w1).alloc (Nat.le_refl _) (.cells #[] 50))
      go_wp2_with fail
      generalize (w1.alloc _) = w2 at *
      go_loopw [3, 4] (fun v i wr => ∃ m : Nat, ∃ ds : List Value, m ≤ 3 ∧ i = .int .i64 m ∧ Hid (ds.length = m) ∧ RowT 50 wr w1.heap.size v ds ∧ AllZ wr ds (mzCauchy k) ∧ Below w1.heap.size w1 wr) (fun _ i _ => 3 - (intOf i).toNat)
      case atStart => exact ⟨0, [], by omega, rfl, hid rfl, R1.out, AllZ.nil _ _, B1.out⟩
      case round =>
        clear R1 B1
        obtain ⟨m, ds, hm, rfl, HD, hr, ha, hb⟩ := hrel
        by_cases hltm : m < 3
        · have j0 : (0 : Int) ≤ (m : Int) := by omega
          have j2 : (m : Int) < 3 := by omega
          have hr1 := hid hr
          have ha1 := hid ha
          have hb1 := hid hb
          clear hr ha hb
          have hw1 : IntKind.u64.wrap ((k : Int) + (m : Int) + 3) = ((k + m + 3 : Nat) : Int) := by rw [IntKind.wrap_u64]; omega
          have hLD := litDz wr (k + m + 3) (by omega) (by omega)
          obtain ⟨n, hn⟩ : ∃ n, n = k + m + 3 := ⟨_, rfl⟩
          have HX : Hid (mzCauchy k m = invZ ((n : Nat) : Int)) := by rw [hn]; exact rfl
          rw [← hn] at hw1 hLD
          have HLD := hid hLD
          have BL := hid ((Below.refl wr.heap.size wr).alloc (Nat.le_refl _) (.cells #[.int .u64 (n : Int)] 34))
          clear hn hLD
          go_wp2_with fail
          generalize (wr.alloc _) = w3 at *
          refine (dInvZ_c _ _ w3 HLD.out).mono ?_
          rintro e w4' ⟨d, rfl, hd, bd⟩
          have bb := bchain BL.out bd
          have HR2 := hid (hr1.out.below bb)
          have HA2 := hid (ha1.out.up bb)
          have HB2 := hid (hb1.out.trans (bb.mono hb1.out.size))
          have HDD := hid (hd.eq HX.out.symm)
          have hds := hd.sl
          obtain ⟨dA, dn, dc, rfl⟩ := hd.form
          have hl : ds.length ≤ 1000 := by rw [HD.out]; omega
          clear bb bd hd HLD BL hr1 ha1 hb1 hw1
          go_wp2_with (at_builtin; refine app_rowT 50 28 Tryz.underlying28 sl_info rfl (.tmp 15) (.tmp 23) rfl u3 w1.heap.size ds (.slice dA dn dc) rfl rfl HR2.out hl HB2.out.size hds ?_)
          intro v5 w5 hR5 hM5
          have g1 := HA2.out.snoc (by rw [HD.out]; exact HDD.out) HR2.out hM5
          have g2 := HB2.out.trans (HR2.out.moved hM5 HB2.out.size)
          have G0 := hid hR5
          have G1 := hid g1
          have G2 := hid g2
          have GL : Hid ((ds ++ [Value.slice dA dn dc]).length = m + 1) := by show _ = _; rw [List.length_append, HD.out]; rfl
          clear hR5 hM5 g1 g2 HR2 HA2 HB2 HDD hl
          go_wp2_with fail
          go_roundw
          case rel => exact ⟨m + 1, _, by omega, by go_num, GL, G0.out, G1.out, G2.out⟩
          case measure => simp [intOf]; omega
        · obtain rfl : m = 3 := by omega
          have hdv := hr.dv ha
          rw [HD.out] at hdv
          have HDV := hid hdv
          have hds := hdv.sl
          have HR2 := hid (HR.out.below hb)
          have HA2 := hid (HA.out.up hb)
          have HB2 := hid (HB.out.trans (hb.mono HB.out.size))
          obtain ⟨bb, cb, rfl, _, _⟩ := hdv.at_
          have hl : es.length ≤ 1000 := by rw [HL.out]; omega
          clear hr ha hb hdv HR HA HB
          go_wp2_with (at_builtin; refine app_rowT 28 30 Tryz.underlying30 rr_info rfl (.tmp 25) (.tmp 27) rfl u1 w.heap.size es (.slice (some ⟨bb, 0, none⟩) 3 cb) rfl rfl HR2.out hl HB2.out.size hds ?_)
          intro v5 w5 hR5 hM5
          have g1 := HA2.out.snoc (by rw [HL.out]; exact HDV.out) HR2.out hM5
          have g2 := HB2.out.trans (HR2.out.moved hM5 HB2.out.size)
          have G0 := hid hR5
          have G1 := hid g1
          have G2 := hid g2
          have GL : Hid ((es ++ [Value.slice (some ⟨bb, 0, none⟩) 3 cb]).length = k + 1) := by show _ = _; rw [List.length_append, HL.out]; rfl
          clear hR5 hM5 g1 g2 HR2 HA2 HB2 HDV hl
          go_wp2_with fail
          go_roundw
          case rel => exact ⟨k + 1, _, by omega, by go_num, GL, G0.out, G1.out, G2.out⟩
          case measure => simp [intOf]; omega
    · obtain rfl : k = 3 := by omega
      have hdm : DM wr _ es.length mzCauchy := hR.dm (by rw [HL.out]; exact hA)
      rw [HL.out] at hdm
      have HDM := hid hdm
      have HB := hid hb
      clear hR hA hb hdm
      go_wp2
      go_ret
      exact ⟨_, rfl, HDM.out, HB.out⟩
end Go.Proofs.YtdepkfdceidikaaGreatDoor
/-
  Nine slices of bytes (N9); avouchlaw09.few; what avouchlaw09.of keeps (OfR).
-/
namespace Go.Proofs.YtdepkfdceidikaaGreatDoor
open Go.RowKit
set_option linter.unusedVariables false
set_option linter.unusedSimpArgs false


/-- Nine slices, as cells. -/
noncomputable def sls (A : Nat → Option Addr) (n c : Nat → Nat) : List Value := Classical.choose (p := fun l : List Value => l = (List.range 9).map fun i => .slice (A i) (n i) (c i)) ⟨_, rfl⟩
theorem sls_eq (A : Nat → Option Addr) (n c : Nat → Nat) : sls A n c = (List.range 9).map fun i => .slice (A i) (n i) (c i) := Classical.choose_spec (p := fun l : List Value => l = (List.range 9).map fun i => .slice (A i) (n i) (c i)) ⟨_, rfl⟩
theorem sls_len (A : Nat → Option Addr) (n c : Nat → Nat) : (sls A n c).length = 9 := by simp [sls_eq]
theorem sls_get {A : Nat → Option Addr} {n c : Nat → Nat} {i : Nat} (h : i < 9) : (sls A n c)[i]? = some (.slice (A i) (n i) (c i)) := by
  rw [sls_eq, List.getElem?_map, List.getElem?_range h]
  rfl
structure N9 (w : World) (B : Nat) (A : Nat → Option Addr) (n : Nat → Nat) (l : Nat → List Nat) : Prop where
  at_ : ∀ i, i < 9 → Rd8 w B (A i) (n i) (l i)
theorem N9.below {w w' : World} {B B' : Nat} {A : Nat → Option Addr} {n : Nat → Nat} {l : Nat → List Nat} (h : N9 w B A n l) (hb : Below B' w w') (hB : B ≤ B') : N9 w' B A n l := ⟨fun i hi => (h.at_ i hi).below hb hB⟩
theorem N9.more {w : World} {B B' : Nat} {A : Nat → Option Addr} {n : Nat → Nat} {l : Nat → List Nat} (h : N9 w B A n l) (hB : B ≤ B') : N9 w B' A n l := ⟨fun i hi => (h.at_ i hi).more hB⟩
theorem szRunS (w : World) : (sizeOf 22).run Tryz.prog w = .ok 1 w := by kernel_rfl
/-- None of the nine is longer than 40 bytes. -/
def Few (n : Nat → Nat) : Prop := ∀ i, i < 9 → n i ≤ 40
noncomputable def few9 (n : Nat → Nat) : Bool := @decide (Few n) (Classical.propDecidable _)
theorem few9_t {n : Nat → Nat} (h : Few n) : few9 n = true := @decide_eq_true _ (Classical.propDecidable _) h
theorem few9_f {n : Nat → Nat} (h : ¬ Few n) : few9 n = false := @decide_eq_false _ (Classical.propDecidable _) h
end Go.Proofs.YtdepkfdceidikaaGreatDoor
/-
  avouchlaw09.of: what the call does.
-/
namespace Go.Proofs.YtdepkfdceidikaaGreatDoor
open Go.RowKit
set_option linter.unusedVariables false
set_option linter.unusedSimpArgs false

theorem RowT.only {te : TypeId} {w w' : World} {base bm : Nat} {v : Value} {ds : List Value} (h : RowT te w base v ds) (ho : Only bm w w') (hb : bm < base) : RowT te w' base v ds := by
  obtain ⟨g, cap, cur, e, h1, h2, h3⟩ := h.ex
  exact ⟨g, cap, cur, e, h1, (ho.block g (Array.getElem?_eq_some_iff.1 h2).1 (by omega)).trans h2, h3⟩
theorem RowT.ne {te te' : TypeId} (hte : te ≠ te') {w : World} {b b' : Nat} {v v' : Value} {ds ds' : List Value} (h : RowT te w b v ds) (h' : RowT te' w b' v' ds') : v.ownBlock ≠ v'.ownBlock := by
  obtain ⟨g, cap, cur, rfl, h1, h2, _⟩ := h.ex
  obtain ⟨g', cap', cur', rfl, h1', h2', _⟩ := h'.ex
  intro e
  simp only [Value.ownBlock, Option.some.injEq] at e
  subst e
  rw [h2] at h2'
  simp only [Option.some.injEq, Obj.cells.injEq] at h2'
  exact hte h2'.2.1
theorem te_ne : (28 : TypeId) ≠ 50 := by decide
theorem DzF.mono {B B' : Nat} {w : World} {v : Value} {X : Int} (h : DzF B' w v X) (hb : B ≤ B') : DzF B w v X := ⟨h.dz, fun A n c e a ha => Nat.le_trans hb (h.fr A n c e a ha)⟩
theorem DzF.only {B bm : Nat} {w w' : World} {v : Value} {X : Int} (h : DzF B w v X) (ho : Only bm w w') (hb : bm < B) : DzF B w' v X := by
  refine ⟨?_, h.fr⟩
  obtain ⟨x, hx, hl, e⟩ := h.dz.ex
  refine ⟨⟨x, ?_, hl, e⟩⟩
  obtain ⟨A, c, l, rfl, h1, h2, h3, h4⟩ := hx.ex
  refine ⟨A, c, l, rfl, h1, h2, ⟨h3.len, h3.lt, fun h0 => ?_⟩, h4⟩
  obtain ⟨b, off, eA, hbl, hc⟩ := h3.cells h0
  have hB := h.fr A _ c rfl ⟨b, off, none⟩ eA
  refine ⟨b, off, eA, Nat.lt_of_lt_of_le hbl ho.size, fun i hi => ?_⟩
  exact (World.cell?_of_block (a := ⟨b, off + i, none⟩) (ho.block b hbl (by have : B ≤ b := hB; omega))).trans (hc i hi)
theorem DzF.kept {te : TypeId} {B : Nat} {w w' : World} {d : Value} {X : Int} {base : Nat} {v : Value} {ds : List Value} (h : DzF B w d X) (hr : RowT te w base v ds) (hg : w.grownBy w' v.ownBlock) : DzF B w' d X := ⟨h.dz.kept hr hg, h.fr⟩
/-- As DV; the row's block lies from B on, below U; the digits from B on. -/
structure DVF (B U : Nat) (w : World) (v : Value) (n : Nat) (Y : Nat → Int) : Prop where
  ex : ∃ b cap cur, v = .slice (some ⟨b, 0, none⟩) n cap ∧ B ≤ b ∧ b < U ∧ w.heap[b]? = some (.cells cur 50 (0, 0)) ∧ ∀ j, j < n → ∃ d, w.cell? ⟨b, j, none⟩ = some d ∧ DzF B w d (Y j)
theorem DVF.dv {B U : Nat} {w : World} {v : Value} {n : Nat} {Y : Nat → Int} (h : DVF B U w v n Y) : DV w v n Y := by
  obtain ⟨b, cap, cur, e, h1, h2, h3, h4⟩ := h.ex
  exact ⟨b, cap, cur, e, h3, fun j hj => by obtain ⟨d, q1, q2⟩ := h4 j hj; exact ⟨d, q1, q2.dz⟩⟩
theorem DVF.mono {B U U' : Nat} {w : World} {v : Value} {n : Nat} {Y : Nat → Int} (h : DVF B U w v n Y) (hU : U ≤ U') : DVF B U' w v n Y := by
  obtain ⟨b, cap, cur, e, h1, h2, h3⟩ := h.ex
  exact ⟨b, cap, cur, e, h1, Nat.lt_of_lt_of_le h2 hU, h3⟩
theorem DVF.up {B U : Nat} {w w' : World} {v : Value} {n : Nat} {Y : Nat → Int} (h : DVF B U w v n Y) (hb : Below w.heap.size w w') : DVF B U w' v n Y := by
  obtain ⟨b, cap, cur, e, h1, h2, h3, h4⟩ := h.ex
  have hlt := (Array.getElem?_eq_some_iff.1 h3).1
  refine ⟨b, cap, cur, e, h1, h2, (hb.block b hlt).trans h3, fun j hj => ?_⟩
  obtain ⟨d, q1, q2⟩ := h4 j hj
  exact ⟨d, (hb.cell (p := ⟨b, j, none⟩) hlt).trans q1, q2.up hb⟩
theorem DVF.only {B U bm : Nat} {w w' : World} {v : Value} {n : Nat} {Y : Nat → Int} (h : DVF B U w v n Y) (ho : Only bm w w') (hb : bm < B) : DVF B U w' v n Y := by
  obtain ⟨b, cap, cur, e, h1, h2, h3, h4⟩ := h.ex
  have hlt := (Array.getElem?_eq_some_iff.1 h3).1
  have hbl := ho.block b hlt (by omega)
  refine ⟨b, cap, cur, e, h1, h2, hbl.trans h3, fun j hj => ?_⟩
  obtain ⟨d, q1, q2⟩ := h4 j hj
  exact ⟨d, (World.cell?_of_block (a := ⟨b, j, none⟩) hbl).trans q1, q2.only ho hb⟩
theorem DVF.keptB {te : TypeId} {B U : Nat} {w w' : World} {d : Value} {n : Nat} {Y : Nat → Int} {base : Nat} {v : Value} {ds : List Value} (h : DVF B U w d n Y) (hr : RowT te w base v ds) (hg : w.grownBy w' v.ownBlock)
    (hne : ∀ b cur, b < U → w.heap[b]? = some (.cells cur 50 (0, 0)) → some b ≠ v.ownBlock) : DVF B U w' d n Y := by
  obtain ⟨b, cap, cur, e, h1, h2, h3, h4⟩ := h.ex
  have hlt := (Array.getElem?_eq_some_iff.1 h3).1
  have hbl := hg.block b hlt (hne b cur h2 h3)
  refine ⟨b, cap, cur, e, h1, h2, hbl.trans h3, fun j hj => ?_⟩
  obtain ⟨x, q1, q2⟩ := h4 j hj
  exact ⟨x, (World.cell?_of_block (a := ⟨b, j, none⟩) hbl).trans q1, q2.kept hr hg⟩
theorem ne_outer {w : World} {base : Nat} {v : Value} {ds : List Value} (hr : RowT 28 w base v ds) (U : Nat) : ∀ b cur, b < U → w.heap[b]? = some (.cells cur 50 (0, 0)) → some b ≠ v.ownBlock := by
  intro b cur _ h1
  obtain ⟨g, c', cur', rfl, g1, g2, _⟩ := hr.ex
  intro e
  simp only [Value.ownBlock, Option.some.injEq] at e
  subst e
  rw [h1] at g2
  simp at g2
theorem ne_inner {w : World} {U : Nat} {v : Value} {ds : List Value} (hr : RowT 50 w U v ds) : ∀ b cur, b < U → w.heap[b]? = some (.cells cur 50 (0, 0)) → some b ≠ v.ownBlock := by
  intro b cur hb h1
  obtain ⟨g, c', cur', rfl, g1, g2, _⟩ := hr.ex
  intro e
  simp only [Value.ownBlock, Option.some.injEq] at e
  omega
def AllZF (B : Nat) (w : World) (ds : List Value) (Y : Nat → Int) : Prop := ∀ i, i < ds.length → DzF B w (ds.getD i undef) (Y i)
def AllVF (B U : Nat) (w : World) (es : List Value) (n : Nat) (Y : MZ) : Prop := ∀ i, i < es.length → DVF B U w (es.getD i undef) n (Y i)
theorem AllZF.snoc {B : Nat} {w w' : World} {ds : List Value} {d v v' : Value} {base : Nat} {Y : Nat → Int} (h : AllZF B w ds Y) (hd : DzF B w d (Y ds.length)) (hr : RowT 50 w base v ds) (hm : Moved w w' v v') : AllZF B w' (ds ++ [d]) Y := fun i hi => by
  rw [snoc_getD]
  by_cases hlt : i < ds.length
  · rw [if_pos hlt]
    exact (h i hlt).kept hr hm.gb
  · simp only [List.length_append, List.length_singleton] at hi
    rw [if_neg hlt, if_pos (by omega), show i = ds.length by omega]
    exact hd.kept hr hm.gb
theorem AllVF.snoc {B U : Nat} {w w' : World} {es : List Value} {d v v' : Value} {base n : Nat} {Y : MZ} (h : AllVF B U w es n Y) (hd : DVF B U w d n (Y es.length)) (hr : RowT 28 w base v es) (hm : Moved w w' v v') : AllVF B U w' (es ++ [d]) n Y := fun i hi => by
  rw [snoc_getD]
  by_cases hlt : i < es.length
  · rw [if_pos hlt]
    exact (h i hlt).keptB hr hm.gb (ne_outer hr U)
  · simp only [List.length_append, List.length_singleton] at hi
    rw [if_neg hlt, if_pos (by omega), show i = es.length by omega]
    exact hd.keptB hr hm.gb (ne_outer hr U)
theorem RowT.dvF {B base : Nat} {w : World} {v : Value} {ds : List Value} {Y : Nat → Int} (h : RowT 50 w base v ds) (hd : AllZF B w ds Y) (hB : B ≤ base) : DVF B w.heap.size w v ds.length Y := by
  obtain ⟨g, cap, cur, e, h1, h2, h3, h4, h5, h6, h7⟩ := id h.ex
  subst e
  exact ⟨g, cap, cur, rfl, Nat.le_trans hB h1, (Array.getElem?_eq_some_iff.1 h2).1, h2, fun j hj => ⟨ds.getD j undef, (h.cell j hj).1, hd j hj⟩⟩
theorem FRel.low {w : World} {b : Nat} {t : TypeId} {n : Nat} {P : (Nat → Int) → Prop} {r : Nat} {tr : TypeId} {nr x : Nat} {tx : TypeId} {cx : List Value} {v v' : World} (h : FRel w b t n P r tr nr x tx cx v) {U : Nat} (hb : Below U v v') (h1 : b < U) (h2 : r < U) (h3 : x < U) (h4 : w.heap.size ≤ U) : FRel w b t n P r tr nr x tx cx v' := by
  obtain ⟨s, q1, q2⟩ := h.o
  exact ⟨⟨s, q1.below hb h1, q2⟩, h.z.below hb h2, h.x.below hb h3, h.b.trans (hb.mono h4)⟩
/-- The nine numbers, by rows. -/
def nums (l : Nat → List Nat) : MZ := fun i j => ((val 256 (l (3 * i + j)) : Nat) : Int)
theorem val40 {l : List Nat} (h : allLt8 l) (hn : l.length ≤ 40) : val 256 l < 4294967296 ^ 30 := by
  refine Nat.lt_of_lt_of_le (val_lt 256 (by decide) l h) ?_
  refine Nat.le_trans (Nat.pow_le_pow_right (by decide) hn) ?_
  exact (by decide : 256 ^ 40 ≤ 4294967296 ^ 30)
end Go.Proofs.YtdepkfdceidikaaGreatDoor
/-
  avouchlaw09.of: the walk.
-/
namespace Go.Proofs.YtdepkfdceidikaaGreatDoor
open Go.RowKit
set_option linter.unusedVariables false
set_option linter.unusedSimpArgs false

end Go.Proofs.YtdepkfdceidikaaGreatDoor
/-
  avouchref09.Mul: what the call does.
-/
namespace Go.Proofs.YtdepkfdceidikaaGreatDoor
open Go.RowKit
set_option linter.unusedVariables false
set_option linter.unusedSimpArgs false

theorem bchain_b {w w' : World} (h : Below w.heap.size w w') : Below w.heap.size w w' := h
end Go.Proofs.YtdepkfdceidikaaGreatDoor
/-
  avouchref09.Apply, Without: what each call does.
-/
namespace Go.Proofs.YtdepkfdceidikaaGreatDoor
open Go.RowKit
set_option linter.unusedVariables false
set_option linter.unusedSimpArgs false

theorem dotZ_apply (X : MZ) (V : Nat → Int) (i : Nat) : dotZ (X i) V 3 = mzApply X V i := by
  show 0 + X i 0 * V 0 + X i 1 * V 1 + X i 2 * V 2 = X i 0 * V 0 + X i 1 * V 1 + X i 2 * V 2
  rw [Int.zero_add]
set_option maxRecDepth 40000 in
set_option maxHeartbeats 1000000 in
theorem r9Apply_c (va vb : Value) (X : MZ) (V : Nat → Int) (w : World) (hX : DM w va 3 X) (hV : DV w vb 3 V) :
    Calls Tryz.prog 40 #[va, vb] w fun e w' => ∃ v, e = .returned v ∧ DV w' v 3 (mzApply X V) ∧ Below w.heap.size w w' := by
  obtain ⟨bx, cx, rfl, _, _⟩ := hX.at_
  obtain ⟨bv, cv, rfl, _, _⟩ := hV.at_
  obtain ⟨w1, rfl⟩ : ∃ x, x = w := ⟨w, rfl⟩
  have HX := hid hX
  have HV := hid hV
  have R1 := hid (RowT.new 50 w1 w1.heap.size (Nat.le_refl _))
  have B1 := hid ((Below.refl w1.heap.size w1).alloc (Nat.le_refl _) (.cells #[] 50))
  clear hX hV
  go_enter Tryz.func40, Tryz.ntmps40
  go_wp2_with fail
  generalize (w1.alloc _) = w2 at *
  go_loopw [5, 6] (fun v i wr => ∃ m : Nat, ∃ ds : List Value, m ≤ 3 ∧ i = .int .i64 m ∧ Hid (ds.length = m) ∧ RowT 50 wr w1.heap.size v ds ∧ AllZ wr ds (mzApply X V) ∧ Below w1.heap.size w1 wr) (fun _ i _ => 3 - (intOf i).toNat)
  case atStart => exact ⟨0, [], by omega, rfl, hid rfl, R1.out, AllZ.nil _ _, B1.out⟩
  case round =>
    clear R1 B1
    obtain ⟨m, ds, hm, rfl, HD, hr, ha, hb⟩ := hrel
    by_cases hltm : m < 3
    · have j0 : (0 : Int) ≤ (m : Int) := by omega
      have j2 : (m : Int) < 3 := by omega
      have hr1 := hid hr
      have ha1 := hid ha
      have hb1 := hid hb
      clear hr ha hb
      have HXM := hid (HX.out.up hb1.out)
      have HVM := hid (HV.out.up hb1.out)
      have S0 : Hid (Dz (wr.alloc (.cells #[] 34)) (.slice (some ⟨wr.heap.size, 0, none⟩) 0 0) (dotZ (X m) V 0)) := Dz.empty _ _ _
      have SB := hid ((Below.refl wr.heap.size wr).alloc (Nat.le_refl _) (.cells #[] 34))
      go_wp2_with fail
      obtain ⟨w3, rfl⟩ : ∃ x, x = wr := ⟨wr, rfl⟩
      generalize (w3.alloc _) = w4' at *
      go_loopw [7, 8] (fun s i wr => ∃ q : Nat, q ≤ 3 ∧ i = .int .i64 q ∧ Dz wr s (dotZ (X m) V q) ∧ Below w3.heap.size w3 wr) (fun _ i _ => 3 - (intOf i).toNat)
      case atStart => exact ⟨0, by omega, rfl, S0.out, SB.out⟩
      case round =>
        clear S0 SB
        obtain ⟨q, hq, rfl, hs, hb0⟩ := hrel
        by_cases hltq : q < 3
        · have l0 : (0 : Int) ≤ (q : Int) := by omega
          have l2 : (q : Int) < 3 := by omega
          obtain ⟨bx', cx', ex, hbx, hcx⟩ := (HXM.out.up hb0).at_
          obtain ⟨bv', cv', ev, hbv, hcv⟩ := (HVM.out.up hb0).at_
          injection ex with ex1 ex2 ex3
          injection ex1 with ex1
          injection ex1 with ex1
          injection ev with ev1 ev2 ev3
          injection ev1 with ev1
          injection ev1 with ev1
          subst ex1 ex3 ev1 ev3
          obtain ⟨d1, hd1, cd1⟩ := hcx m hltm
          obtain ⟨d3, hd3, cd3⟩ := hcv q hltq
          obtain ⟨b1, c1, rfl, hlb1, hcb1⟩ := hd1.at_
          obtain ⟨d2, hd2, cd2⟩ := hcb1 q hltq
          have OA : Hid (∀ v, Below wr.heap.size wr v → v.cell? ⟨bx, m, none⟩ = some (.slice (some ⟨b1, 0, none⟩) 3 c1)) := fun v hv => (hv.cell (p := ⟨bx, m, none⟩) hbx).trans cd1
          have OB : Hid (∀ v, Below wr.heap.size wr v → v.cell? ⟨b1, q, none⟩ = some d2) := fun v hv => (hv.cell (p := ⟨b1, q, none⟩) hlb1).trans cd2
          have OC : Hid (∀ v, Below wr.heap.size wr v → v.cell? ⟨bv, q, none⟩ = some d3) := fun v hv => (hv.cell (p := ⟨bv, q, none⟩) hbv).trans cd3
          have EB := hid hd2
          have ED := hid hd3
          have HS := hid hs
          clear hd1 hd3 hcb1 hcx hcv cd1 cd2 cd3 hd2 hs ex2 ev2 HXM HVM hr1 ha1 hb1
          go_wp2_with fail
          have hb00 : Below wr.heap.size wr wr.drew := (Below.refl _ _).drew
          refine wp_region_held_drew (S := fun v => Below wr.heap.size wr v) (by kernel_rfl) hb00 (fun hHeld => ?_)
          refine wpAnyH_take (i := 0) (v := ?_) rfl (by kernel_rfl) (by kernel_rfl) (by kernel_rfl) (fun _ _ _ h => h) (Or.inl ⟨by rfl, fun v hv => ?_⟩) (by with_reducible assumption) ?_
          rotate_left
          · go_simp
            try with_reducible rfl
          simp only [Act.put, List.setIfInBounds_toArray, List.set_cons_zero, List.set_cons_succ, List.getElem_toArray, List.getElem_cons_zero, List.getElem_cons_succ]
          refine wpAnyH_take (i := 1) (v := ?_) rfl (by kernel_rfl) (by kernel_rfl) (by kernel_rfl) (fun _ _ _ h => h) (Or.inl ⟨by rfl, fun v hv => ?_⟩) (by with_reducible assumption) ?_
          rotate_left
          · go_simp
            try with_reducible rfl
          simp only [Act.put, List.setIfInBounds_toArray, List.set_cons_zero, List.set_cons_succ, List.getElem_toArray, List.getElem_cons_zero, List.getElem_cons_succ]
          refine wpAnyH_take (i := 2) (v := ?_) rfl (by kernel_rfl) (by kernel_rfl) (by kernel_rfl) (fun _ _ _ h => h) (Or.inl ⟨by rfl, fun v hv => ?_⟩) (by with_reducible assumption) ?_
          rotate_left
          · go_simp
            try with_reducible rfl
          simp only [Act.put, List.setIfInBounds_toArray, List.set_cons_zero, List.set_cons_succ, List.getElem_toArray, List.getElem_cons_zero, List.getElem_cons_succ]
          refine wpAnyH_take (i := 3) (v := ?_) rfl (by kernel_rfl) (by kernel_rfl) (by kernel_rfl) (fun _ _ _ h => h) (Or.inl ⟨by rfl, fun v hv => ?_⟩) (by with_reducible assumption) ?_
          rotate_left
          · go_simp
            try with_reducible rfl
          simp only [Act.put, List.setIfInBounds_toArray, List.set_cons_zero, List.set_cons_succ, List.getElem_toArray, List.getElem_cons_zero, List.getElem_cons_succ]
          refine wpAnyH_take (i := 4) (v := ?_) rfl (by kernel_rfl) (by kernel_rfl) (by kernel_rfl) (fun _ _ _ h => h) (Or.inl ⟨by rfl, fun v hv => ?_⟩) (by with_reducible assumption) ?_
          rotate_left
          · have hcc := OA.out v hv
            go_simp
            try with_reducible rfl
          simp only [Act.put, List.setIfInBounds_toArray, List.set_cons_zero, List.set_cons_succ, List.getElem_toArray, List.getElem_cons_zero, List.getElem_cons_succ]
          refine wpAnyH_take (i := 5) (v := ?_) rfl (by kernel_rfl) (by kernel_rfl) (by kernel_rfl) (fun _ _ _ h => h) (Or.inl ⟨by rfl, fun v hv => ?_⟩) (by with_reducible assumption) ?_
          rotate_left
          · go_simp
            try with_reducible rfl
          simp only [Act.put, List.setIfInBounds_toArray, List.set_cons_zero, List.set_cons_succ, List.getElem_toArray, List.getElem_cons_zero, List.getElem_cons_succ]
          refine wpAnyH_take (i := 6) (v := ?_) rfl (by kernel_rfl) (by kernel_rfl) (by kernel_rfl) (fun _ _ _ h => h) (Or.inl ⟨by rfl, fun v hv => ?_⟩) (by with_reducible assumption) ?_
          rotate_left
          · go_simp
            try with_reducible rfl
          simp only [Act.put, List.setIfInBounds_toArray, List.set_cons_zero, List.set_cons_succ, List.getElem_toArray, List.getElem_cons_zero, List.getElem_cons_succ]
          refine wpAnyH_take (i := 7) (v := ?_) rfl (by kernel_rfl) (by kernel_rfl) (by kernel_rfl) (fun _ _ _ h => h) (Or.inl ⟨by rfl, fun v hv => ?_⟩) (by with_reducible assumption) ?_
          rotate_left
          · have hcc := OB.out v hv
            go_simp
            try with_reducible rfl
          simp only [Act.put, List.setIfInBounds_toArray, List.set_cons_zero, List.set_cons_succ, List.getElem_toArray, List.getElem_cons_zero, List.getElem_cons_succ]
          refine wpAnyH_take (i := 8) (v := ?_) rfl (by kernel_rfl) (by kernel_rfl) (by kernel_rfl) (fun _ _ _ h => h) (Or.inl ⟨by rfl, fun v hv => ?_⟩) (by with_reducible assumption) ?_
          rotate_left
          · go_simp
            try with_reducible rfl
          simp only [Act.put, List.setIfInBounds_toArray, List.set_cons_zero, List.set_cons_succ, List.getElem_toArray, List.getElem_cons_zero, List.getElem_cons_succ]
          refine wpAnyH_take (i := 9) (v := ?_) rfl (by kernel_rfl) (by kernel_rfl) (by kernel_rfl) (fun _ _ _ h => h) (Or.inl ⟨by rfl, fun v hv => ?_⟩) (by with_reducible assumption) ?_
          rotate_left
          · go_simp
            try with_reducible rfl
          simp only [Act.put, List.setIfInBounds_toArray, List.set_cons_zero, List.set_cons_succ, List.getElem_toArray, List.getElem_cons_zero, List.getElem_cons_succ]
          refine wpAnyH_take (i := 10) (v := ?_) rfl (by kernel_rfl) (by kernel_rfl) (by kernel_rfl) (fun _ _ _ h => h) (Or.inl ⟨by rfl, fun v hv => ?_⟩) (by with_reducible assumption) ?_
          rotate_left
          · go_simp
            try with_reducible rfl
          simp only [Act.put, List.setIfInBounds_toArray, List.set_cons_zero, List.set_cons_succ, List.getElem_toArray, List.getElem_cons_zero, List.getElem_cons_succ]
          refine wpAnyH_take (i := 11) (v := ?_) rfl (by kernel_rfl) (by kernel_rfl) (by kernel_rfl) (fun _ _ _ h => h) (Or.inl ⟨by rfl, fun v hv => ?_⟩) (by with_reducible assumption) ?_
          rotate_left
          · have hcc := OC.out v hv
            go_simp
            try with_reducible rfl
          simp only [Act.put, List.setIfInBounds_toArray, List.set_cons_zero, List.set_cons_succ, List.getElem_toArray, List.getElem_cons_zero, List.getElem_cons_succ]
          refine wpAnyH_ready (rs := [12]) (by kernel_rfl) (by simp) ?_
          refine (AllReadyH.cons rfl (fun K hK => ?_) AllReadyH.nil)
          go_simp
          go_at_call 69
          with_reducible refine (dMulZ_c _ _ _ _ wr.drew (EB.out.up (hb00)) (ED.out.up (hb00))).mono ?_
          rintro e wq1 ⟨_, rfl, he1, hbq1⟩
          have b_q1 := bchain hb00 hbq1
          try dsimp only
          refine hK.out _ _ (b_q1) (fun hHeld => ?_)
          clear hK K
          try simp only [Act.put, List.setIfInBounds_toArray, List.set_cons_zero, List.set_cons_succ, List.getElem_toArray, List.getElem_cons_zero, List.getElem_cons_succ]
          refine wpAnyH_ready (rs := [13]) (by kernel_rfl) (by simp) ?_
          refine (AllReadyH.cons rfl (fun K hK => ?_) AllReadyH.nil)
          go_simp
          go_at_call 38
          with_reducible refine (dAddZ_c _ _ _ _ wq1 (HS.out.up (b_q1)) he1).mono ?_
          rintro e wq2 ⟨_, rfl, hsum, hbq2⟩
          have b_q2 := bchain b_q1 hbq2
          try dsimp only
          refine hK.out _ _ (b_q2) (fun hHeld => ?_)
          clear hK K
          try simp only [Act.put, List.setIfInBounds_toArray, List.set_cons_zero, List.set_cons_succ, List.getElem_toArray, List.getElem_cons_zero, List.getElem_cons_succ]
          refine wpAnyH_take (i := 14) (v := ?_) rfl (by kernel_rfl) (by kernel_rfl) (by kernel_rfl) (fun _ _ _ h => h) (Or.inl ⟨by rfl, fun v hv => ?_⟩) (by with_reducible assumption) ?_
          rotate_left
          · go_simp
            try with_reducible rfl
          simp only [Act.put, List.setIfInBounds_toArray, List.set_cons_zero, List.set_cons_succ, List.getElem_toArray, List.getElem_cons_zero, List.getElem_cons_succ]
          refine wpAnyH_done (by kernel_rfl) ?_ _
          go_wp2_with fail
          go_roundw
          case rel => exact ⟨q + 1, by omega, by go_num, hsum, hb0.trans ((b_q2).mono hb0.size)⟩
          case measure => simp [intOf]; omega
        · obtain rfl : q = 3 := by omega
          have hd := hs.eq (dotZ_apply X V m)
          have BB := hb0
          clear hs hb0 HXM HVM
          have HR2 := hid (hr1.out.below BB)
          have HA2 := hid (ha1.out.up BB)
          have HB2 := hid (hb1.out.trans (BB.mono hb1.out.size))
          have HDD := hid hd
          have hds := hd.sl
          obtain ⟨dA, dn, dc, rfl⟩ := hd.form
          have hl : ds.length ≤ 1000 := by rw [HD.out]; omega
          clear BB hd hr1 ha1 hb1
          go_wp2_with (at_builtin; refine app_rowT 50 28 Tryz.underlying28 sl_info rfl (.tmp 33) (.tmp 35) rfl u5 w1.heap.size ds (.slice dA dn dc) rfl rfl HR2.out hl HB2.out.size hds ?_)
          intro v5 w5 hR5 hM5
          have g1 := HA2.out.snoc (by rw [HD.out]; exact HDD.out) HR2.out hM5
          have g2 := HB2.out.trans (HR2.out.moved hM5 HB2.out.size)
          have G0 := hid hR5
          have G1 := hid g1
          have G2 := hid g2
          have GL : Hid ((ds ++ [Value.slice dA dn dc]).length = m + 1) := by show _ = _; rw [List.length_append, HD.out]; rfl
          clear hR5 hM5 g1 g2 HR2 HA2 HB2 HDD hl
          go_wp2_with fail
          go_roundw
          case rel => exact ⟨m + 1, _, by omega, by go_num, GL, G0.out, G1.out, G2.out⟩
          case measure => simp [intOf]; omega
    · obtain rfl : m = 3 := by omega
      have hdv := hr.dv ha
      rw [HD.out] at hdv
      have HDV := hid hdv
      have HB := hid hb
      clear hr ha hb hdv
      go_wp2
      go_ret
      exact ⟨_, rfl, HDV.out, HB.out⟩

/-- What is left without a row and a column. -/
def skp (r i : Nat) : Nat := if i < r then i else i + 1
def mzSkip (X : MZ) (r c : Nat) : MZ := fun i j => X (skp r i) (skp c j)
end Go.Proofs.YtdepkfdceidikaaGreatDoor
/-
  avouchref09.Determinant: what the call does.
-/
namespace Go.Proofs.YtdepkfdceidikaaGreatDoor
open Go.RowKit
set_option linter.unusedVariables false
set_option linter.unusedSimpArgs false


/-- The sum of the first j products, by turns of both signs. -/
def dsum (D : MZ → Int) (X : MZ) : Nat → Int
  | 0 => 0
  | j + 1 => if j % 2 = 0 then dsum D X j + X 0 j * D (mzSkip X 0 j) else dsum D X j - X 0 j * D (mzSkip X 0 j)
def det1 (X : MZ) : Int := X 0 0
def det2 (X : MZ) : Int := dsum det1 X 2
def det3 (X : MZ) : Int := dsum det2 X 3
theorem det2_eq (X : MZ) : det2 X = X 0 0 * X 1 1 - X 0 1 * X 1 0 := by
  show 0 + X 0 0 * X 1 1 - X 0 1 * X 1 0 = _
  rw [Int.zero_add]
theorem det2_wo (X : MZ) {i j : Nat} (hi : i < 3) (hj : j < 3) : det2 (mzSkip X i j) = mzWo X i j := by
  rw [det2_eq]
  match i, hi, j, hj with
  | 0, _, 0, _ => rfl
  | 0, _, 1, _ => rfl
  | 0, _, 2, _ => rfl
  | 1, _, 0, _ => rfl
  | 1, _, 1, _ => rfl
  | 1, _, 2, _ => rfl
  | 2, _, 0, _ => rfl
  | 2, _, 1, _ => rfl
  | 2, _, 2, _ => rfl
theorem det3_eq (X : MZ) : det3 X = mzDet X := by
  rw [← mzDet_P]
  show 0 + X 0 0 * det2 (mzSkip X 0 0) - X 0 1 * det2 (mzSkip X 0 1) + X 0 2 * det2 (mzSkip X 0 2) = _
  rw [det2_wo X (by decide) (by decide), det2_wo X (by decide) (by decide), det2_wo X (by decide) (by decide), Int.zero_add]
  rfl
end Go.Proofs.YtdepkfdceidikaaGreatDoor
/-
  avouchref09.Minors: what the call does.
-/
namespace Go.Proofs.YtdepkfdceidikaaGreatDoor
open Go.RowKit
set_option linter.unusedVariables false
set_option linter.unusedSimpArgs false


theorem minors_a (X : MZ) {k m : Nat} (hk : k < 3) (hm : m < 3) : (minorsL X).getD (3 * k + m) 0 = X k m := by
  match k, hk, m, hm with
  | 0, _, 0, _ => rfl
  | 0, _, 1, _ => rfl
  | 0, _, 2, _ => rfl
  | 1, _, 0, _ => rfl
  | 1, _, 1, _ => rfl
  | 1, _, 2, _ => rfl
  | 2, _, 0, _ => rfl
  | 2, _, 1, _ => rfl
  | 2, _, 2, _ => rfl
theorem minors_b (X : MZ) {k m : Nat} (hk : k < 3) (hm : m < 3) : (minorsL X).getD (9 + 3 * k + m) 0 = mzWo X k m := by
  match k, hk, m, hm with
  | 0, _, 0, _ => rfl
  | 0, _, 1, _ => rfl
  | 0, _, 2, _ => rfl
  | 1, _, 0, _ => rfl
  | 1, _, 1, _ => rfl
  | 1, _, 2, _ => rfl
  | 2, _, 0, _ => rfl
  | 2, _, 1, _ => rfl
  | 2, _, 2, _ => rfl
theorem minors_e (X : MZ) : (minorsL X).getD 18 0 = mzDet X := rfl
/-- The nineteen numbers, by place. -/
def minF (X : MZ) (i : Nat) : Int := (minorsL X).getD i 0
end Go.Proofs.YtdepkfdceidikaaGreatDoor
/-
  avouchlaw09.is, few, avouchlaw02.Is: as the laws want them.
-/
namespace Go.Proofs.YtdepkfdceidikaaGreatDoor
open Go.RowKit
set_option linter.unusedVariables false
set_option linter.unusedSimpArgs false


/-- The load of a row among a plain region's operations, where it stands under a guard that lets it. -/
theorem wpList_load_midG {P : Program} {ops : Array Oper} {rest : List Oper} {op : Oper} {a : Act} {w : World} {Q : Exit → Act → World → Prop} (hw : Region.wanted op (yielded ops a.tmps) = true) (ty : TypeId) (x : Operand) (ho : op.op = .load ty x)
    (b o : Nat) (hx : a.eval x = .pointer (some ⟨b, o, none⟩)) (cs : List Value) (d : TypeDesc) (hc : w.rangeAt b o cs)
    (hu : P.underlying ty = some d) (hd : d.isRow = true) (hi : (P.info? ty).map (·.size) = some cs.length)
    (h : wpList P ops Q rest (a.put op.dst (.agg cs.toArray)) w) : wpList P ops Q (op :: rest) a w :=
  wpList_step fun K hK => by
    rw [if_pos hw]
    exact wp_load_mid ty x ho b o hx cs d hc hu hd hi (hK _ _ h)
theorem is_t (u v : Value) (X Y : Int) (w : World) (hu : Ez u X) (hv : Dz w v Y) (hG : Glob w) (h : X % pZ = Y % pZ) : Calls Tryz.prog 18 #[u, v] w fun e w' => e = .returned (.bool true) ∧ Below w.heap.size w w' := by
  have k := isZ_c u v X Y w hu hv hG
  rw [decide_eq_true h] at k
  exact k
end Go.Proofs.YtdepkfdceidikaaGreatDoor
