/-
  avouchref02.Of gives new memory; avouchlaw03.first: what the call does.
-/
import Derived.Test.YtjohbepdmnigcaaDoorCalH
import Derived.Deep.RegionLaw
import Derived.BigRegion
namespace Go.Proofs.YtjohbepdmnigcaaDoor
open Go.RowKit
set_option linter.unusedVariables false

/-- What came back lies in memory that was not there before. -/
def Fresh (w : World) (e : Ending) : Prop := ∃ A m c, e = .returned (.slice A m c) ∧ ∀ a : Addr, A = some a → w.heap.size ≤ a.block

set_option maxHeartbeats 400000 in
theorem digitsF_c (A : Option Addr) (n c : Nat) (l : List Nat) (w : World) (ha : Rd w w.heap.size A n l) (hn : n ≤ 2000) :
    Calls Tryd.prog 24 #[.slice A n c] w fun e w' => Dig w e w' (val 18446744073709551616 l) ∧ Fresh w e := by
  have hmk := make64I 0 (2 * n) (Nat.zero_le _) (by omega) 0 (2 * (n : Int)) rfl (by omega)
  go_enter Tryd.func24, Tryd.ntmps24
  go_wp2
  clear hmk
  go_loopw [3, 4] (fun v i wr => ∃ k : Nat, ∃ d : List Nat, k ≤ n ∧ i = .int .i64 k ∧ Hid (d.length = 2 * k) ∧ OwnW wr w.heap.size v d ∧ Hid (D32 d) ∧ Below w.heap.size w wr ∧ Hid (val 4294967296 d = pv 18446744073709551616 l k)) (fun _ i _ => n - (intOf i).toNat)
  case atStart => exact ⟨0, [], Nat.zero_le _, rfl, rfl, own_made w (2 * n) (by omega), fun x hx => by simp at hx, (Below.refl _ _).alloc (Nat.le_refl _) _, rfl⟩
  case round =>
    obtain ⟨k, d, hk, rfl, HL, hown, HD, hbl, HE⟩ := hrel
    by_cases hlt : k < n
    · have ra := ha.below hbl (Nat.le_refl _)
      obtain ⟨ba, oa, rfl, hba, hca⟩ := ra.at_ hlt
      have h1 := at64_nonneg l k
      have h1' := at64_lt ha.lt k
      have hsz := hbl.size
      have hl' : d.length ≤ 100000 := by rw [HL.out]; omega
      have hi0 : (0 : Int) ≤ (k : Int) := by omega
      have hi1 : (k : Int) < (n : Int) := by omega
      have HX : Hid ((at64 l k).tmod 4294967296 = ((l.getD k 0 % 4294967296 : Nat) : Int)) := by
        show _ = _; rw [Int.tmod_eq_emod_of_nonneg h1]; unfold at64; omega
      have HY : Hid (IntKind.u64.wrap ((at64 l k).tdiv 4294967296) = ((l.getD k 0 / 4294967296 : Nat) : Int)) := by
        show _ = _; rw [Int.tdiv_eq_ediv_of_nonneg h1, IntKind.wrap_u64]; unfold at64 at h1' ⊢; omega
      have HNL : Hid (allLt [l.getD k 0 % 4294967296, l.getD k 0 / 4294967296]) := by
        have : l.getD k 0 < 18446744073709551616 := by unfold at64 at h1'; omega
        intro x hx
        simp only [List.mem_cons, List.not_mem_nil, or_false] at hx; omega
      go_wp2
      go_region_law (refine step_append_words rfl (.tmp 15) (.tmp 26) rfl w.heap.size u3 d (by simp [Act.eval]) (by exact (hown.alloc _).drew) wr.heap.size 2 [l.getD k 0 % 4294967296, l.getD k 0 / 4294967296] HNL.out (by simp [Act.eval]) (two_cells wr _ _ _ _ HX.out HY.out) (by simp; omega) (by simp; omega) ?_; intro v' w' hown' hb')
      all_goals
        have hb2 : Below w.heap.size w w' := (hbl.alloc hsz _).drew.trans hb'
        have HL2 : Hid ((d ++ [l.getD k 0 % 4294967296, l.getD k 0 / 4294967296]).length = 2 * (k + 1)) := by
          show _ = _; rw [List.length_append, HL.out]; simp; omega
        have HD2 : Hid (D32 (d ++ [l.getD k 0 % 4294967296, l.getD k 0 / 4294967296])) := by
          have : l.getD k 0 < 18446744073709551616 := by unfold at64 at h1'; omega
          intro x hx
          rcases List.mem_append.1 hx with h | h
          · exact HD.out x h
          · simp only [List.mem_cons, List.not_mem_nil, or_false] at h; omega
        have HE2 : Hid (val 4294967296 (d ++ [l.getD k 0 % 4294967296, l.getD k 0 / 4294967296]) = pv 18446744073709551616 l (k + 1)) := by
          show _ = _
          rw [show d ++ [l.getD k 0 % 4294967296, l.getD k 0 / 4294967296] = (d ++ [l.getD k 0 % 4294967296]) ++ [l.getD k 0 / 4294967296] by simp]
          rw [val_append, val_append, List.length_append, HL.out, pv_succ, HE.out, pow64, List.length_singleton, Nat.pow_succ]
          exact digits_step _ _ _
        go_wp2
        go_roundw
        case rel => exact ⟨k + 1, _, by omega, by go_num, HL2, hown', HD2, hb2, HE2⟩
        case measure => simp [intOf]; omega
    · have hkn : k = n := by omega
      have HV : Hid (val 4294967296 d = val 18446744073709551616 l) := by
        show _ = _
        rw [HE.out, hkn, pv_out _ _ _ (by rw [ha.len]; omega)]
      have hl' : d.length ≤ 100000 := by rw [HL.out]; omega
      clear hkn
      go_wp2_with fail
      obtain ⟨A0, c0, hv0, hc0, hr0⟩ := hown.rd
      have hfr : ∀ a, A0 = some a → w.heap.size ≤ a.block := fun a ha => (hown.own.lt a.block (by rw [hv0, ha]; rfl)).1
      subst hv0
      refine (trim_c A0 d.length c0 _ d wr hr0 hl' hc0).mono ?_
      rintro e w' ⟨m, hm, rfl, hw, ht, hz⟩
      have hD := dig_of_trim hr0 HD.out hbl hm hc0 rfl hw ht hz
      rw [HV.out] at hD
      have R := hid hD
      have RF := hid hfr
      clear hD hfr hr0 ht hz hw
      go_wp2
      go_ret
      exact ⟨R.out, A0, m, c0, rfl, RF.out⟩

theorem ofF_c (v : Nat) (w : World) (hv : v < 18446744073709551616) :
    Calls Tryd.prog 16 #[.int .u64 (v : Int)] w fun e w' => ∃ r, e = .returned r ∧ Dg w' r v ∧ Fresh w (.returned r) ∧ Below w.heap.size w w' := by
  have r1 := rdw_one w v hv
  have hs : (w.alloc (.cells #[.int .u64 (v : Int)] 37)).heap.size = w.heap.size + 1 := by simp
  rw [← hs] at r1
  have b1 : Below w.heap.size w (w.alloc (.cells #[.int .u64 (v : Int)] 37)) := (Below.refl _ _).alloc (Nat.le_refl _) _
  have hval : val 18446744073709551616 [v] = v := by simp [val, pv]
  have B1 := hid b1
  have HV := hid hval
  clear hs b1 hval
  go_enter Tryd.func16, Tryd.ntmps16
  go_wp2_with fail
  refine (digitsF_c _ 1 1 [v] _ r1 (by decide)).mono ?_
  rintro e w2 ⟨h, hfr⟩
  rw [HV.out] at h
  obtain ⟨r, rfl, hr, b2⟩ := Dg.of h (lt_big (Nat.lt_trans hv (by decide)))
  obtain ⟨A, m, c, e1, hA⟩ := hfr
  injection e1 with e1
  subst e1
  have RF : Hid (Fresh w (.returned (.slice A m c))) := hid ⟨A, m, c, rfl, fun a ha => by have := hA a ha; simp at this; omega⟩
  have R := hid hr
  have b12 := bchain B1.out b2
  clear hr h r1 hA
  go_wp2
  go_ret
  exact ⟨_, rfl, R.out, RF.out, b12⟩

/-- A stack of digits, as it is handed on. -/
structure Digs (w : World) (v : Value) (Xs : List Nat) : Prop where
  ex : ∃ A c, v = .slice A Xs.length c ∧ Xs.length ≤ c ∧ c ≤ maxLen ∧ (0 < Xs.length → ∃ b, A = some ⟨b, 0, none⟩ ∧ b < w.heap.size ∧ ∀ i, i < Xs.length → ∃ d, isSl d = true ∧ w.cell? ⟨b, i, none⟩ = some d ∧ Dg w d (Xs.getD i 0))
theorem Digs.up {w w' : World} {v : Value} {Xs : List Nat} (h : Digs w v Xs) (hb : Below w.heap.size w w') : Digs w' v Xs := by
  obtain ⟨A, c, h1, h2, h3, h4⟩ := h.ex
  refine ⟨A, c, h1, h2, h3, fun h0 => ?_⟩
  obtain ⟨b, e, hbB, hc⟩ := h4 h0
  refine ⟨b, e, Nat.lt_of_lt_of_le hbB hb.size, fun i hi => ?_⟩
  obtain ⟨d, q1, q2, q3⟩ := hc i hi
  exact ⟨d, q1, (hb.cell (p := ⟨b, i, none⟩) hbB).trans q2, q3.up hb⟩
theorem Dg.sl {w : World} {d : Value} {X : Nat} (h : Dg w d X) : isSl d = true := by
  obtain ⟨A, c, l, rfl, _⟩ := h.ex
  rfl
/-- Digits do not change where a block changes that holds none. -/
theorem Dg.kept {w w' : World} {d : Value} {X : Nat} {row : Option Nat} (h : Dg w d X) (hg : w.grownBy w' row) (hs : ∀ a n c, d = .slice (some a) n c → 0 < n → some a.block ≠ row) : Dg w' d X := by
  obtain ⟨A, c, l, rfl, h1, h2, h3, h4⟩ := h.ex
  refine ⟨A, c, l, rfl, h1, h2, ⟨h3.len, h3.lt, fun h0 => ?_⟩, h4⟩
  obtain ⟨b, off, e, hb, hc⟩ := h3.cells h0
  refine ⟨b, off, e, Nat.lt_of_lt_of_le hb hg.size, fun i hi => ?_⟩
  have hne := hs ⟨b, off, none⟩ l.length c (by rw [e]) h0
  exact (World.cell?_of_block (a := ⟨b, off + i, none⟩) (hg.block b hb hne)).trans (hc i hi)
/-- Digits lie in no block of slices. -/
theorem Dg.off {w : World} {d : Value} {X base : Nat} {v : Value} {ds : List Value} (h : Dg w d X) (hr : RowV w base v ds) : ∀ a n c, d = .slice (some a) n c → 0 < n → some a.block ≠ v.ownBlock := by
  intro a n c e hn
  obtain ⟨A, c', l, rfl, h1, h2, h3, h4⟩ := h.ex
  injection e with e1 e2 e3
  subst e1 e2
  obtain ⟨b, off, e, hb, hc⟩ := h3.cells hn
  injection e with e
  subst e
  obtain ⟨g, cap, cur, rfl, g1, g2, g3, g4, g5, g6, g7⟩ := hr.ex
  intro e
  simp only [Value.ownBlock, Option.some.injEq] at e
  subst e
  have := hc 0 hn
  rw [cell_of_row w b (off + 0) cur _ (0, 0) g2] at this
  have hm : (.int .u64 (at64 l 0) : Value) ∈ cur.toList := by
    rw [Array.mem_toList_iff]
    exact Array.mem_of_getElem? this
  have := g7 _ hm
  simp [isSl] at this

/-- All of a row's slices are digits. -/
def AllD (w : World) (ds : List Value) (Xs : List Nat) : Prop := ds.length = Xs.length ∧ ∀ i, i < Xs.length → Dg w (ds.getD i undef) (Xs.getD i 0)
theorem AllD.up {w w' : World} {ds : List Value} {Xs : List Nat} (h : AllD w ds Xs) (hb : Below w.heap.size w w') : AllD w' ds Xs := ⟨h.1, fun i hi => (h.2 i hi).up hb⟩
theorem AllD.snoc {w : World} {ds : List Value} {Xs : List Nat} (h : AllD w ds Xs) {d : Value} {X : Nat} (hd : Dg w d X) : AllD w (ds ++ [d]) (Xs ++ [X]) := by
  refine ⟨by simp [h.1], fun i hi => ?_⟩
  by_cases hlt : i < Xs.length
  · have e1 : (ds ++ [d]).getD i undef = ds.getD i undef := by simp [List.getD_eq_getElem?_getD, List.getElem?_append_left (show i < ds.length by rw [h.1]; exact hlt)]
    have e2 : (Xs ++ [X]).getD i 0 = Xs.getD i 0 := by simp [List.getD_eq_getElem?_getD, List.getElem?_append_left hlt]
    rw [e1, e2]
    exact h.2 i hlt
  · have : i = Xs.length := by simp at hi; omega
    subst this
    have e1 : (ds ++ [d]).getD Xs.length undef = d := by rw [← h.1]; simp [List.getD_eq_getElem?_getD]
    have e2 : (Xs ++ [X]).getD Xs.length 0 = X := getD_top Xs X
    rw [e1, e2]
    exact hd
theorem AllD.take {w : World} {ds : List Value} {Xs : List Nat} (h : AllD w ds Xs) (m : Nat) : AllD w (ds.take m) (Xs.take m) := by
  refine ⟨by rw [List.length_take, List.length_take, h.1], fun i hi => ?_⟩
  rw [List.length_take] at hi
  have hm : i < m := by omega
  have e1 : (ds.take m).getD i undef = ds.getD i undef := by simp [List.getD_eq_getElem?_getD, hm]
  have e2 : (Xs.take m).getD i 0 = Xs.getD i 0 := by simp [List.getD_eq_getElem?_getD, hm]
  rw [e1, e2]
  exact h.2 i (by omega)
theorem AllD.set {w : World} {ds : List Value} {Xs : List Nat} (h : AllD w ds Xs) (k : Nat) {d : Value} {X : Nat} (hd : Dg w d X) : AllD w (ds.set k d) (Xs.set k X) := by
  refine ⟨by rw [List.length_set, List.length_set, h.1], fun i hi => ?_⟩
  rw [List.length_set] at hi
  have hi2 : i < ds.length := by rw [h.1]; exact hi
  by_cases hk : k = i
  · subst hk
    rw [show (ds.set k d).getD k undef = d by simp [List.getD_eq_getElem?_getD, hi2], show (Xs.set k X).getD k 0 = X by simp [List.getD_eq_getElem?_getD, hi]]
    exact hd
  · rw [show (ds.set k d).getD i undef = ds.getD i undef by simp [List.getD_eq_getElem?_getD, List.getElem?_set_ne hk], show (Xs.set k X).getD i 0 = Xs.getD i 0 by simp [List.getD_eq_getElem?_getD, List.getElem?_set_ne hk]]
    exact h.2 i hi
theorem AllD.kept {w w' : World} {base : Nat} {v : Value} {es ds : List Value} {Xs : List Nat} (h : AllD w ds Xs) (hr : RowV w base v es) (hg : w.grownBy w' v.ownBlock) : AllD w' ds Xs :=
  ⟨h.1, fun i hi => (h.2 i hi).kept hg (fun a n c e hn => (h.2 i hi).off hr a n c e hn)⟩
theorem RowV.digs {w : World} {base : Nat} {v : Value} {ds : List Value} {Xs : List Nat} (h : RowV w base v ds) (hd : AllD w ds Xs) : Digs w v Xs := by
  obtain ⟨g, cap, cur, e, h1, h2, h3, h4, h5⟩ := h.ex
  subst e
  refine ⟨some ⟨g, 0, none⟩, cap, by rw [← hd.1], by rw [← hd.1]; exact h3, h4, fun _ => ⟨g, rfl, (Array.getElem?_eq_some_iff.1 h2).1, fun i hi => ⟨ds.getD i undef, ?_, (h.cell i (by rw [hd.1]; exact hi)).1, hd.2 i hi⟩⟩⟩
  exact (hd.2 i hi).sl
theorem Digs.nil (w : World) : Digs w (.slice none 0 0) [] := ⟨none, 0, rfl, Nat.le_refl _, by decide, fun h => absurd h (by decide)⟩

/-- append of one slice that was just laid out. -/
theorem app_row {ops : Array Oper} {rest : List Oper} {o : Oper} {a : Act} {Q : Exit → Act → World → Prop} {w : World} (hgd : o.guard = none) (s x : Operand)
    (ho : o.op = .call { callee := .builtin .append, args := #[s, x], argTypes := #[26, 26] })
    (v : Value) (base : Nat) (ds : List Value) (d : Value) (hs : a.eval s = v) (hx : a.eval x = .slice (some ⟨w.heap.size, 0, none⟩) 1 1) (hR : RowV w base v ds) (hl : ds.length ≤ 1000) (hbase : base ≤ w.heap.size) (hd : isSl d = true)
    (h : ∀ v' w', RowV w' base v' (ds ++ [d]) → Moved w w' v v' → wpList Tryd.prog ops Q rest (a.put o.dst v') w') :
    wpList Tryd.prog ops Q (o :: rest) a (w.alloc (.cells #[d] 23)) := by
  refine wpList_plain hgd fun K hK => ?_
  have hb1 : Below w.heap.size w (w.alloc (.cells #[d] 23)) := (Below.refl _ _).alloc (Nat.le_refl _) _
  obtain ⟨v', w', hr, g2, g3, g4⟩ := run_append_row (w.alloc (.cells #[d] 23)) base o.type v ds [d] (hR.alloc _) (fun m hm => by rw [List.mem_singleton.1 hm]; exact hd) ⟨w.heap.size, 0, none⟩ 1 (by simp)
    (fun j u hj => by
      rw [add_flat, Nat.zero_add, cell_of_row _ _ j _ _ (0, 0) (heap_alloc_new w _), ← hj]
      simp) (by simp; omega) (by simp; omega)
  unfold Oper.wp execOp
  simp only [List.length_cons, List.length_nil, Nat.zero_add] at hr
  simp only [ho, resolve, invoke, builtin, Sem.run_bind, Sem.run_pure, Result.andThen_ok, List.map_toArray, List.map_cons, List.map_nil, hs, hx, hr]
  exact hK _ _ (h v' w' g2 (Moved.pre ⟨g3, g4⟩ hb1))
end Go.Proofs.YtjohbepdmnigcaaDoor
