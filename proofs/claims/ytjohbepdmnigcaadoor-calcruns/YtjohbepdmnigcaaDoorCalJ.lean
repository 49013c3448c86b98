/-
  avouchlaw03.first: what the call does.
-/
import Derived.Test.YtjohbepdmnigcaaDoorCalI
namespace Go.Proofs.YtjohbepdmnigcaaDoor
open Go.RowKit
set_option linter.unusedVariables false

def Sep (ds : List Value) (va : Value) : Prop := ∀ d ∈ ds, ∀ a n c, d = .slice (some a) n c → 0 < n → some a.block ≠ va.ownBlock
structure FirR (w0 wr : World) (va vb : Value) (l : List Nat) (k : Nat) (ds : List Value) : Prop where
  a : Pile wr w0.heap.size va (l.take k)
  b : RowV wr w0.heap.size vb ds
  d : AllD wr ds (l.take k)
  s : Sep ds va
  bl : Below w0.heap.size w0 wr
theorem row_pile {w : World} {b b' : Nat} {va vb : Value} {xs : List Nat} {ds : List Value} (hP : Pile w b va xs) (hR : RowV w b' vb ds) : vb.ownBlock ≠ va.ownBlock := by
  obtain ⟨g, cap, cur, rfl, h1, h2, _⟩ := hR.ex
  obtain ⟨L, o1, _⟩ := hP.ex
  rcases o1.2 with ⟨rfl, _⟩ | ⟨g', cap', cur', rfl, q1, q2, _⟩
  · simp [Value.ownBlock]
  · intro e
    simp only [Value.ownBlock, Option.some.injEq] at e
    subst e
    rw [h2] at q2
    injection q2 with q2
    injection q2 with _ q3
    exact absurd q3 (by decide)
theorem FirR.up {w0 wr w' : World} {va vb : Value} {l : List Nat} {k : Nat} {ds : List Value} (h : FirR w0 wr va vb l k ds) (hb : Below wr.heap.size wr w') : FirR w0 w' va vb l k ds :=
  ⟨h.a.below hb, h.b.below hb, h.d.up hb, h.s, h.bl.trans (hb.mono h.bl.size)⟩
/-- Behind an append onto the elements. -/
structure FirM (w0 wr : World) (va vb : Value) (l : List Nat) (k : Nat) (ds : List Value) : Prop where
  a : Pile wr w0.heap.size va (l.take (k + 1))
  b : RowV wr w0.heap.size vb ds
  d : AllD wr ds (l.take k)
  s : Sep ds va
  bl : Below w0.heap.size w0 wr
theorem FirM.up {w0 wr w' : World} {va vb : Value} {l : List Nat} {k : Nat} {ds : List Value} (h : FirM w0 wr va vb l k ds) (hb : Below wr.heap.size wr w') : FirM w0 w' va vb l k ds :=
  ⟨h.a.below hb, h.b.below hb, h.d.up hb, h.s, h.bl.trans (hb.mono h.bl.size)⟩
theorem FirR.mid {w0 wr w' : World} {va vb v' : Value} {l : List Nat} {k : Nat} {ds : List Value} (h : FirR w0 wr va vb l k ds) (hP : Pile w' w0.heap.size v' (l.take (k + 1))) (hM : Moved wr w' va v') : FirM w0 w' v' vb l k ds := by
  have hds : ∀ i, i < (l.take k).length → ∃ hi : i < ds.length, ds.getD i undef = ds[i] := fun i hi => ⟨by rw [h.d.1]; exact hi, by rw [List.getD_eq_getElem?_getD, List.getElem?_eq_getElem (by rw [h.d.1]; exact hi)]; rfl⟩
  refine ⟨hP, h.b.kept hM.gb (row_pile h.a h.b), ⟨h.d.1, fun i hi => (h.d.2 i hi).kept hM.gb (fun a n c e hn => ?_)⟩, ?_, h.bl.trans (hM.below h.a h.bl.size)⟩
  · obtain ⟨hi2, e2⟩ := hds i hi
    exact h.s _ (List.getElem_mem hi2) a n c (e2.symm.trans e) hn
  · intro d hd a n c e hn
    rcases hM.own with e6 | ⟨q, e6, hq⟩
    · rw [e6]; exact h.s d hd a n c e hn
    · rw [e6]
      intro e7
      injection e7 with e7
      obtain ⟨i, hi, rfl⟩ := List.getElem_of_mem hd
      have hil : i < (l.take k).length := by rw [← h.d.1]; exact hi
      obtain ⟨A, c', ll, e8, q1, q2, q3, _⟩ := (h.d.2 i hil).ex
      obtain ⟨hi2, e2⟩ := hds i hil
      rw [e2, e] at e8
      injection e8 with e9 e10 e11
      subst e9 e10
      obtain ⟨b, off, e12, hb, _⟩ := q3.cells hn
      injection e12 with e12
      subst e12
      simp at e7
      omega
theorem FirM.next {w0 w2 w3 w4 : World} {va vb v' r : Value} {l : List Nat} {k x : Nat} {ds : List Value} (h : FirM w0 w2 va vb l k ds) (hb : Below w2.heap.size w2 w3) (hr : Dg w3 r x) (hf : Fresh w2 (.returned r)) (hR : RowV w4 w0.heap.size v' (ds ++ [r])) (hM : Moved w3 w4 vb v')
    (ht : l.take (k + 1) = l.take k ++ [x]) : FirR w0 w4 va v' l (k + 1) (ds ++ [r]) := by
  have h3 := h.up hb
  refine ⟨h3.a.kept hM.gb (Or.inr (Ne.symm (row_pile h3.a h3.b))), hR, ?_, ?_, h3.bl.trans ((Below.refl _ _).grown hM.gb h3.bl.size (fun q hq => (h3.b.lt q hq).1))⟩
  · rw [ht]
    exact (h3.d.snoc hr).kept h3.b hM.gb
  · intro d hd a n c e hn
    rcases List.mem_append.1 hd with h' | h'
    · exact h.s d h' a n c e hn
    · rw [List.mem_singleton.1 h'] at e
      obtain ⟨A, m, c', e1, hA⟩ := hf
      injection e1 with e1
      rw [e] at e1
      injection e1 with e1 e2 e3
      have := hA a e1.symm
      intro e4
      have := (h.a.lt a.block e4.symm).2
      omega

set_option maxRecDepth 20000 in
set_option maxHeartbeats 2000000 in
theorem first_c (A : Option Addr) (n c : Nat) (l : List Nat) (w : World) (hR : Rd w w.heap.size A n l) (hn : n ≤ 900) (hG : Glob w) :
    Calls Tryd.prog 8 #[.slice A n c] w fun e w' => ∃ va vb, e = .returned (.tuple #[va, vb]) ∧ Pile w' w.heap.size va l ∧ Digs w' vb l ∧ Below w.heap.size w w' := by
  go_enter Tryd.func8, Tryd.ntmps8
  go_wp2
  go_loopw [4, 5, 11] (fun pa pb i wr => ∃ (k : Nat) (ds : List Value), k ≤ n ∧ i = .int .i64 k ∧ FirR w wr pa pb l k ds) (fun _ _ i _ => n - (intOf i).toNat)
  case atStart => exact ⟨0, [], by omega, rfl, ⟨⟨[], World.ownsRow_nil _ _ _ 4, fun q hq => by simp at hq, rfl⟩, RowV.new w _ (Nat.le_refl _), ⟨rfl, fun i hi => by simp at hi⟩, fun d hd => by simp at hd, (Below.refl _ _).alloc (Nat.le_refl _) _⟩⟩
  case round =>
    obtain ⟨k, ds, hk, rfl, hF⟩ := hrel
    by_cases hlt : k < n
    · have ra := hR.below hF.bl (Nat.le_refl _)
      obtain ⟨ba, oa, rfl, hba, hca⟩ := ra.at_ hlt
      have hkl : k < l.length := by rw [hR.len]; exact hlt
      obtain ⟨x, hx⟩ : ∃ x, x = l.getD k 0 := ⟨_, rfl⟩
      have hx64 : x < 18446744073709551616 := by
        have := at64_lt hR.lt k
        unfold at64 at this
        rw [← hx] at this
        omega
      have ht : l.take (k + 1) = l.take k ++ [x] := by
        rw [List.take_add_one, hx, List.getD_eq_getElem?_getD, List.getElem?_eq_getElem hkl]; rfl
      have hca2 : wr.cell? ⟨ba, oa + k, none⟩ = some (.int .u64 ((x : Nat) : Int)) := by rw [hca]; unfold at64; rw [hx]
      have k0 : (0 : Int) ≤ (k : Int) := by omega
      have k1 : (k : Int) < (n : Int) := by omega
      have HT := hid ht
      have hG1 := hG.up (Below.mono hF.bl (Nat.le_refl _))
      clear ra hca hx ht
      go_wp2_with fail
      refine (fromUint64_c x wr hx64 hG1).mono ?_
      rintro e w1 ⟨r, rfl, hr, hb1⟩
      obtain ⟨t0, t1, t2, t3, rfl, -, -, -⟩ := hr.ex
      have HR := hid hr
      have hF1 := hF.up hb1
      have hl1 : (l.take k).length ≤ 1000 := by rw [List.length_take]; omega
      clear hr hG1 hca2
      unfold w4
      go_wp2_with (at_builtin; refine app_pile rfl (.tmp 15) (.tmp 18) 25 Tryd.underlying25 rfl u4 w.heap.size (l.take k) t0 t1 t2 t3 x rfl rfl hF1.a hl1 hF1.bl.size HR.out ?_)
      intro v2 w2 hP2 hM2
      rw [← HT.out] at hP2
      have hF2 := hF1.mid hP2 hM2
      clear hP2 hM2 hF1 hF hb1
      go_wp2_with fail
      refine (ofF_c x w2 hx64).mono ?_
      rintro e w3 ⟨r3, rfl, hd3, hf3, hb3⟩
      obtain ⟨A3, m3, c3, e3⟩ : ∃ A m c, r3 = .slice A m c := by
        obtain ⟨A, m, c, e, -⟩ := hf3
        injection e with e
        exact ⟨A, m, c, e⟩
      subst e3
      have hF3 := hF2.up hb3
      have hld : ds.length ≤ 1000 := by rw [hF3.d.1]; exact hl1
      go_wp2_with (at_builtin; refine app_row rfl (.tmp 20) (.tmp 23) rfl u5 w.heap.size ds (.slice A3 m3 c3) rfl rfl hF3.b hld hF3.bl.size hd3.sl ?_)
      intro v4 w4' hR4 hM4
      have HF := hid (hF2.next hb3 hd3 hf3 hR4 hM4 HT.out)
      clear hR4 hM4 hF3 hd3 hf3 hb3 hF2 HT HR
      go_wp2
      go_roundw
      case rel => exact ⟨k + 1, _, by omega, by go_num, HF.out⟩
      case measure => simp [intOf]; omega
    · have hkn : k = n := by omega
      subst hkn
      have ht : l.take k = l := List.take_of_length_le (by rw [hR.len]; exact Nat.le_refl _)
      have HP : Hid (Pile wr w.heap.size u4 l) := by have := hF.a; rw [ht] at this; exact this
      have HD : Hid (Digs wr u5 l) := by have := hF.b.digs hF.d; rw [ht] at this; exact this
      have HB := hid hF.bl
      clear hF ht hR
      go_wp2
      go_ret2
      exact ⟨_, _, rfl, HP.out, HD.out, HB.out⟩
end Go.Proofs.YtjohbepdmnigcaaDoor
