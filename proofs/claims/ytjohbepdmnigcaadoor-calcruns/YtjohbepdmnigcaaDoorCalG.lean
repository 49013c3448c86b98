/-
  Rows of steps that a call makes, appends to and changes; avouchlaw03.of, first, speaks.
-/
import Derived.Test.YtjohbepdmnigcaaDoorCalF
import Derived.Deep.RegionHeld3
import Derived.Deep.CutBlock
import Derived.Deep.DeepCutAuto
namespace Go.Proofs.YtjohbepdmnigcaaDoor
open Go.RowKit
set_option linter.unusedVariables false

abbrev St := Int × Nat
def sc (s : St) : List Value := [.int .i64 s.1, .int .u64 ((s.2 : Nat) : Int)]
def flatS : List St → List Value
  | [] => []
  | s :: L => sc s ++ flatS L
theorem flatS_append (L M : List St) : flatS (L ++ M) = flatS L ++ flatS M := by
  induction L with
  | nil => rfl
  | cons q L ih => simp [flatS, ih]
theorem flatS_length (L : List St) : (flatS L).length = L.length * 2 := by
  induction L with
  | nil => rfl
  | cons q L ih => simp [flatS, sc, ih]; omega
theorem flatS_one (L : List St) : ∀ u ∈ flatS L, u.oneCell' = true := by
  induction L with
  | nil => intro u hu; simp [flatS] at hu
  | cons q L ih =>
    intro u hu
    simp only [flatS, List.mem_append] at hu
    rcases hu with h | h
    · simp only [sc, List.mem_cons, List.not_mem_nil, or_false] at h
      rcases h with rfl | rfl <;> rfl
    · exact ih u h
theorem flatS_get (L : List St) : ∀ (i : Nat) (q : St), L[i]? = some q → ∀ k, k < 2 → (flatS L)[i * 2 + k]? = (sc q)[k]? := by
  induction L with
  | nil => intro i q h; simp at h
  | cons p L ih =>
    intro i q h k hk
    cases i with
    | zero =>
      simp only [List.getElem?_cons_zero, Option.some.injEq] at h
      subst h
      simp only [flatS, Nat.zero_mul, Nat.zero_add]
      exact List.getElem?_append_left (by simp [sc]; exact hk)
    | succ i =>
      simp only [List.getElem?_cons_succ] at h
      have h1 := ih i q h k hk
      simp only [flatS]
      rw [List.getElem?_append_right (by simp [sc]; omega), ← h1]
      congr 1
      simp [sc]
      omega
theorem flatS_set (L : List St) : ∀ (i : Nat) (q : St), i < L.length → ((flatS L).set (i * 2) (.int .i64 q.1)).set (i * 2 + 1) (.int .u64 ((q.2 : Nat) : Int)) = flatS (L.set i q) := by
  induction L with
  | nil => intro i q h; simp at h
  | cons p L ih =>
    intro i q h
    cases i with
    | zero => simp [flatS, sc, List.set]
    | succ i =>
      have := ih i q (by simpa using h)
      simp only [flatS, List.set_cons_succ]
      rw [← this]
      have e : ∀ (j : Nat) (u : Value) (l : List Value), (sc p ++ l).set ((i + 1) * 2 + j) u = sc p ++ l.set (i * 2 + j) u := by
        intro j u l
        rw [List.set_append_right _ _ (by simp [sc]; omega)]
        congr 2
        simp [sc]; omega
      have e0 := e 0
      simp only [Nat.add_zero] at e0
      rw [e0, e 1]

/-- The slice v owns the steps L, among the blocks from base on. -/
structure OwnS (w : World) (base : Nat) (v : Value) (L : List St) : Prop where
  row : w.ownsRow base 46 2 v L.length (flatS L)
  lt : ∀ s ∈ L, s.2 < 18446744073709551616
theorem OwnS.nil (w : World) (base : Nat) : OwnS w base (.slice none 0 0) [] := ⟨World.ownsRow_nil w _ _ 2, fun s hs => by simp at hs⟩
theorem OwnS.kept {w w' : World} {b : Nat} {v : Value} {L : List St} {row : Option Nat} (h : OwnS w b v L) (hg : w.grownBy w' row) (hne : v.ownBlock = none ∨ v.ownBlock ≠ row) : OwnS w' b v L := ⟨h.row.kept hg hne, h.lt⟩
theorem OwnS.below {w w' : World} {b : Nat} {v : Value} {L : List St} (h : OwnS w b v L) (hb : Below w.heap.size w w') : OwnS w' b v L := h.kept (gb_below hb none) (by cases hv : v.ownBlock <;> simp)
theorem OwnS.alloc {w : World} {b : Nat} {v : Value} {L : List St} (h : OwnS w b v L) (o : Obj) : OwnS (w.alloc o) b v L := h.below ((Below.refl _ _).alloc (Nat.le_refl _) _)
theorem OwnS.rd {w : World} {base : Nat} {v : Value} {L : List St} (h : OwnS w base v L) : ∃ A c, v = .slice A L.length c ∧ L.length ≤ c ∧ c ≤ maxLen ∧ RdS w w.heap.size A L.length L := by
  rcases h.row.2 with ⟨rfl, hn⟩ | ⟨g, cap, cur, rfl, hb, hg, hc, hm, _, ht⟩
  · rw [hn]
    have : L = [] := List.eq_nil_of_length_eq_zero hn
    subst this
    exact ⟨none, 0, rfl, Nat.le_refl _, by decide, RdS.nil _ _ _⟩
  · refine ⟨some ⟨g, 0, none⟩, cap, rfl, hc, hm, rfl, h.lt, fun _ => ⟨g, 0, rfl, (Array.getElem?_eq_some_iff.1 hg).1, fun i hi => ?_⟩⟩
    have hq : L[i]? = some L[i] := List.getElem?_eq_getElem hi
    have hcell : ∀ k, k < 2 → w.cell? ⟨g, 0 + i * 2 + k, none⟩ = (sc L[i])[k]? := by
      intro k hk
      rw [Nat.zero_add, h.row.cellAt (i * 2 + k) (by omega)]
      exact flatS_get L i _ hq k hk
    rw [List.getD_eq_getElem?_getD, hq]
    exact ⟨hcell 0 (by decide), hcell 1 (by decide)⟩
theorem OwnS.lit (w : World) (base : Nat) (L : List St) (cs : Array Value) (hcs : cs.toList = flatS L) (hb : base ≤ w.heap.size) (hl : L.length ≤ 1000) (hlt : ∀ s ∈ L, s.2 < 18446744073709551616) :
    OwnS (w.alloc (.cells cs 46)) base (.slice (some ⟨w.heap.size, 0, none⟩) L.length L.length) L := by
  refine ⟨?_, hlt⟩
  have := World.ownsRow_lit (base := base) (e := 46) (size := 2) w cs L.length hb (by unfold maxLen; omega) (by rw [← Array.length_toList, hcs, flatS_length])
  rw [hcs] at this
  exact this
/-- Parts of a row of steps. -/
theorem RdS.take {w : World} {B n : Nat} {A : Option Addr} {L : List St} (h : RdS w B A n L) (k : Nat) (hk : k ≤ n) : RdS w B A k (L.take k) :=
  ⟨by rw [List.length_take, h.len]; omega, fun s hs => h.lt s (List.mem_of_mem_take hs), fun h0 => by
    obtain ⟨b, off, e, hb, hc⟩ := h.cells (by omega)
    refine ⟨b, off, e, hb, fun i hi => ?_⟩
    rw [show (L.take k).getD i (0, 0) = L.getD i (0, 0) by simp [List.getD_eq_getElem?_getD, hi]]
    exact hc i (by omega)⟩
theorem RdS.rest {w : World} {B n b off : Nat} {L : List St} (h : RdS w B (some ⟨b, off, none⟩) n L) (k : Nat) (hk : k ≤ n) : RdS w B (some ⟨b, off + k * 2, none⟩) (n - k) (L.drop k) :=
  ⟨by rw [List.length_drop, h.len], fun s hs => h.lt s (List.mem_of_mem_drop hs), fun h0 => by
    obtain ⟨b', off', e, hb, hc⟩ := h.cells (by omega)
    injection e with e
    injection e with e1 e2
    subst e1 e2
    refine ⟨b, off + k * 2, rfl, hb, fun i hi => ?_⟩
    rw [show (L.drop k).getD i (0, 0) = L.getD (k + i) (0, 0) by simp [List.getD_eq_getElem?_getD]]
    have := hc (k + i) (by omega)
    rw [show off + (k + i) * 2 = off + k * 2 + i * 2 by omega] at this
    exact this⟩

theorem st_info : (Tryd.prog.info? 46).map (fun i => (i.zero, i.size, i.bytes)) = some (some (.agg #[.int .i64 0, .int .u64 0]), 2, 16) := by kernel_rfl

/-- append of one step that was just laid out. -/
theorem app_step {ops : Array Oper} {rest : List Oper} {o : Oper} {a : Act} {Q : Exit → Act → World → Prop} {w : World} (hgd : o.guard = none) (s x : Operand)
    (ho : o.op = .call { callee := .builtin .append, args := #[s, x], argTypes := #[32, 32] })
    (v : Value) (base : Nat) (L : List St) (op : Int) (N : Nat) (B : Nat) (hB : B = w.heap.size) (hs : a.eval s = v) (hx : a.eval x = .slice (some ⟨B, 0, none⟩) 1 1) (hO : OwnS w base v L) (hl : L.length ≤ 1000) (hbase : base ≤ w.heap.size) (hN : N < 18446744073709551616)
    (h : ∀ v' w', OwnS w' base v' (L ++ [(op, N)]) → w.grownBy w' v.ownBlock → wpList Tryd.prog ops Q rest (a.put o.dst v') w') :
    wpList Tryd.prog ops Q (o :: rest) a (w.alloc (.cells #[.int .i64 op, .int .u64 (N : Int)] 46)) := by
  subst hB
  refine wpList_plain hgd fun K hK => ?_
  obtain ⟨i0, hi, hz, hs1, hb⟩ := info_parts st_info
  have hb1 : Below w.heap.size w (w.alloc (.cells #[.int .i64 op, .int .u64 (N : Int)] 46)) := (Below.refl _ _).alloc (Nat.le_refl _) _
  have hnews : ∀ j u, (flatS [(op, N)])[j]? = some u → (w.alloc (.cells #[.int .i64 op, .int .u64 (N : Int)] 46)).cell? ((⟨w.heap.size, 0, none⟩ : Addr).add j) = some u := by
    intro j u hj
    rw [add_flat, Nat.zero_add, cell_of_row _ _ j _ _ (0, 0) (heap_alloc_new w _), ← hj]
    simp [flatS, sc]
  obtain ⟨v', w', hr, g2, g3, g4⟩ := run_append_own (P := Tryd.prog) (w.alloc (.cells #[.int .i64 op, .int .u64 (N : Int)] 46)) base 32 o.type 46 i0 _ 2 16 Tryd.underlying32 hi hz hs1 hb rfl (by decide)
    v L.length (flatS L) (hO.row.alloc _) ⟨w.heap.size, 0, none⟩ 1 1 (flatS [(op, N)]) rfl hnews (flatS_one _) (by unfold maxLen; omega) (by omega) (by simp; omega)
  have hO' : OwnS w' base v' (L ++ [(op, N)]) := by
    refine ⟨?_, fun s hs => ?_⟩
    · show World.ownsRow _ _ _ _ _ (L ++ [(op, N)]).length _
      rw [flatS_append, List.length_append]
      exact g2
    · rcases List.mem_append.1 hs with h | h
      · exact hO.lt s h
      · rw [List.mem_singleton.1 h]; exact hN
  unfold Oper.wp execOp
  simp only [ho, resolve, invoke, builtin, Sem.run_bind, Sem.run_pure, Result.andThen_ok, List.map_toArray, List.map_cons, List.map_nil, hs, hx, hr]
  exact hK _ _ (h v' w' hO' (gb_trans (gb_below hb1 _) g3))

/-- One element of a row, kept through calls. -/
structure EnvP (w0 : World) (g : Nat) (x0 x1 x2 x3 : Int) (w : World) : Prop where
  gl : Glob w
  sz : g < w.heap.size
  c : w.cell? ⟨g, 0, none⟩ = some (.int .u64 x0) ∧ w.cell? ⟨g, 1, none⟩ = some (.int .u64 x1) ∧ w.cell? ⟨g, 2, none⟩ = some (.int .u64 x2) ∧ w.cell? ⟨g, 3, none⟩ = some (.int .u64 x3)
  b : Below w0.heap.size w0 w
theorem EnvP.up {w0 : World} {g : Nat} {x0 x1 x2 x3 : Int} {w w' : World} (h : EnvP w0 g x0 x1 x2 x3 w) (hb : Below w.heap.size w w') : EnvP w0 g x0 x1 x2 x3 w' := by
  have k : ∀ i, w'.cell? ⟨g, i, none⟩ = w.cell? ⟨g, i, none⟩ := fun i => hb.cell (p := ⟨g, i, none⟩) h.sz
  obtain ⟨c0, c1, c2, c3⟩ := h.c
  exact ⟨h.gl.up hb, Nat.lt_of_lt_of_le h.sz hb.size, ⟨(k _).trans c0, (k _).trans c1, (k _).trans c2, (k _).trans c3⟩, h.b.trans (hb.mono h.b.size)⟩

theorem from15_c (w : World) (hG : Glob w) : Calls Tryd.prog 14 #[.int .u64 15] w fun e w' => ∃ r, e = .returned r ∧ El r 15 ∧ Below w.heap.size w w' := fromUint64_c 15 w (by decide) hG
theorem speaks_runs : runA [(0, 3), (0, 5), (3, 0)] [] = ([15], -1, 0) := by decide

set_option maxRecDepth 20000 in
set_option maxHeartbeats 4000000 in
theorem speaks3_c (w : World) (hG : Gc w.heap.size w) : Calls Tryd.prog 7 #[] w fun e w' => e = .returned (.bool true) ∧ Below w.heap.size w w' := by
  have hl0 : Below w.heap.size w (w.alloc (.cells #[.int .i64 0, .int .u64 3, .int .i64 0, .int .u64 5, .int .i64 3, .int .u64 0] 46)) := (Below.refl _ _).alloc (Nat.le_refl _) _
  have hO := OwnS.lit w w.heap.size [(0, 3), (0, 5), (3, 0)] #[.int .i64 0, .int .u64 3, .int .i64 0, .int .u64 5, .int .i64 3, .int .u64 0] rfl (Nat.le_refl _) (by decide) (by decide)
  obtain ⟨A0, c0, e0, hc0, hm0, hR0⟩ := hO.rd
  injection e0 with e1 e2 e3
  subst e1 e3
  have hG0 := (hG.below hl0).more hl0.size
  clear e2 hO
  go_enter Tryd.func7, Tryd.ntmps7
  go_wp2_with fail
  refine (run_c _ none 3 3 0 0 [(0, 3), (0, 5), (3, 0)] [] _ hR0 (by decide) (RdE.nil _ _ _) (by decide) hG0 [15] (-1) 0 speaks_runs).mono ?_
  rintro e w1 ⟨v, rfl, hP, hb1⟩
  obtain ⟨g, cap, rfl, hc, hm, hbg, hg, hfr, r0, r1, r2, r3, he, q0, q1, q2, q3⟩ := hP.at_ 0 (by decide)
  have hb2 := hl0.trans (hb1.mono hl0.size)
  have E1 : EnvP w g r0 r1 r2 r3 w1 := ⟨(hG0.below hb1).g, hg, ⟨q0, q1, q2, q3⟩, hb2⟩
  have hx : El (.agg #[.int .u64 r0, .int .u64 r1, .int .u64 r2, .int .u64 r3]) 15 := he
  clear hb1 hl0 hb2 hG0 hR0 hP q0 q1 q2 q3 hfr hc hm hc0 hm0 he
  rw [show [15].length = 1 from rfl]
  go_wp2_with fail
  have E2 := E1.up (Below.refl _ _).drew
  go_region_held3 (fun w' => w'.cell? ⟨g, 0, none⟩ = some (.int .u64 r0) ∧ w'.cell? ⟨g, 1, none⟩ = some (.int .u64 r1) ∧ w'.cell? ⟨g, 2, none⟩ = some (.int .u64 r2) ∧ w'.cell? ⟨g, 3, none⟩ = some (.int .u64 r3)) (exact EnvP.c (by with_reducible assumption)) (first
    | (go_at_call 14; with_reducible refine (from15_c _ (EnvP.gl (by with_reducible assumption))).mono ?_; rintro e v ⟨r, rfl, hr, hb⟩; have hE := EnvP.up (by with_reducible assumption) hb; dsimp only)
    | (go_at_call 13; with_reducible refine (eequal_c _ _ _ _ _ (by with_reducible assumption) (by with_reducible assumption)).mono ?_; rintro e v ⟨rfl, hb⟩; rw [decide_eq_true rfl]; have hE := EnvP.up (by with_reducible assumption) hb; dsimp only)
    | (go_at_call 15; with_reducible refine (eisZero_c _ _ _ (by with_reducible assumption)).mono ?_; rintro e v ⟨rfl, hb⟩; have hE := EnvP.up (by with_reducible assumption) hb; dsimp only))
  have HE := hid hE
  clear hE
  go_wp2
  go_ret
  exact ⟨rfl, HE.out.b⟩

set_option maxRecDepth 20000 in
set_option maxHeartbeats 2000000 in
theorem of_c (A : Option Addr) (n c : Nat) (st : List St) (w : World) (hS : RdS w w.heap.size A n st) (hn : n ≤ 900) :
    Calls Tryd.prog 10 #[.slice A n c] w fun e w' => ∃ v, e = .returned v ∧ OwnS w' w.heap.size v st ∧ Below w.heap.size w w' := by
  go_enter Tryd.func10, Tryd.ntmps10
  go_wp2
  go_loopw [3, 8] (fun p i wr => ∃ (k : Nat), k ≤ n ∧ i = .int .i64 k ∧ OwnS wr w.heap.size p (st.take k) ∧ Below w.heap.size w wr) (fun _ i _ => n - (intOf i).toNat)
  case atStart => exact ⟨0, by omega, rfl, OwnS.nil _ _, Below.refl _ _⟩
  case round =>
    obtain ⟨k, hk, rfl, hO, hbl⟩ := hrel
    by_cases hlt : k < n
    · obtain ⟨sb, off, rfl, hsb, hc⟩ := hS.cells (by omega)
      obtain ⟨d0, d1⟩ := hc k hlt
      obtain ⟨⟨op, N⟩, hs⟩ : ∃ s, s = st.getD k (0, 0) := ⟨_, rfl⟩
      have hkl : k < st.length := by rw [hS.len]; exact hlt
      have hN : N < 18446744073709551616 := hS.lt (op, N) (by rw [hs, List.getD_eq_getElem?_getD, List.getElem?_eq_getElem hkl]; exact List.getElem_mem _)
      have htk : st.take (k + 1) = st.take k ++ [(op, N)] := by
        rw [List.take_add_one, hs, List.getD_eq_getElem?_getD, List.getElem?_eq_getElem hkl]; rfl
      rw [← hs] at d0 d1
      have c0 := (hbl.cell (p := ⟨sb, off + k * 2, none⟩) hsb).trans d0
      have c1 := (hbl.cell (p := ⟨sb, off + k * 2 + 1, none⟩) hsb).trans d1
      have HT := hid htk
      have HB := hid hbl
      have hl3 : Below wr.heap.size wr (wr.alloc (.cells #[.int .i64 op, .int .u64 (N : Int)] 59)) := (Below.refl _ _).alloc (Nat.le_refl _) _
      have hO3 := hO.alloc (.cells #[.int .i64 op, .int .u64 (N : Int)] 59)
      have hlen : (st.take k).length ≤ 1000 := by rw [List.length_take]; omega
      have hsz : w.heap.size ≤ (wr.alloc (.cells #[.int .i64 op, .int .u64 (N : Int)] 59)).heap.size := by have := hbl.size; simp; omega
      have k0 : (0 : Int) ≤ (k : Int) := by omega
      have k1 : (k : Int) < (n : Int) := by omega
      clear hc d0 d1 hs htk hS hbl hkl
      go_wp2_with (at_builtin; refine app_step rfl (.tmp 12) (.tmp 18) rfl u3 w.heap.size (st.take k) op N (wr.heap.size + 1) (by simp) rfl rfl hO3 hlen hsz hN ?_)
      intro v' w' hO' hg'
      rw [← HT.out] at hO'
      have HO := hid hO'
      have HB' := hid ((HB.out.trans (hl3.mono HB.out.size)).grown hg' hsz (fun q hq => (hO3.row.lt q hq).1))
      clear hO' hg' hl3 hO3 hO hsz hlen HT
      go_wp2
      go_roundw
      case rel => exact ⟨k + 1, by omega, by go_num, HO.out, HB'.out⟩
      case measure => simp [intOf]; omega
    · have hkn : k = n := by omega
      subst hkn
      have hO' : OwnS wr w.heap.size u3 st := by rw [← List.take_of_length_le (l := st) (i := k) (by rw [hS.len]; exact Nat.le_refl _)]; exact hO
      have HO := hid hO'
      have HB := hid hbl
      clear hS hO hbl hO'
      go_wp2
      go_ret
      exact ⟨_, rfl, HO.out, HB.out⟩
end Go.Proofs.YtjohbepdmnigcaaDoor
