/-
  calc's enough, slices.Clone of elements, and which deed is found: what each does.
-/
import Derived.Test.YtjohbepdmnigcaaDoorCalD
import Derived.Lib.SliceRun
namespace Go.Proofs.YtjohbepdmnigcaaDoor
open Go.RowKit
set_option linter.unusedVariables false

/-- All tables hold what they must, below block B. -/
structure Gc (B : Nat) (w : World) : Prop where
  g : Glob w
  bP : 2 < B
  bR : 1 < B
  bN : 0 < B
  n : ∀ k, k < 11 → w.cell? ⟨0, k, none⟩ = some (.int .i64 (needT k : Nat))
theorem Gc.below {B : Nat} {w w' : World} (h : Gc B w) (hb : Below B w w') : Gc B w' := by
  have k : ∀ g i, g < B → w'.cell? ⟨g, i, none⟩ = w.cell? ⟨g, i, none⟩ := fun g i hg => hb.cell (p := ⟨g, i, none⟩) hg
  exact ⟨⟨Nat.lt_of_lt_of_le h.g.sizeP hb.size, Nat.lt_of_lt_of_le h.g.sizeR hb.size, (k _ _ h.bP).trans h.g.p0, (k _ _ h.bP).trans h.g.p1, (k _ _ h.bP).trans h.g.p2, (k _ _ h.bP).trans h.g.p3,
    (k _ _ h.bR).trans h.g.r0, (k _ _ h.bR).trans h.g.r1, (k _ _ h.bR).trans h.g.r2, (k _ _ h.bR).trans h.g.r3⟩, h.bP, h.bR, h.bN, fun i hi => (k _ _ h.bN).trans (h.n i hi)⟩
theorem Gc.more {B B' : Nat} {w : World} (h : Gc B w) (hB : B ≤ B') : Gc B' w := ⟨h.g, by have := h.bP; omega, by have := h.bR; omega, by have := h.bN; omega, h.n⟩

set_option maxRecDepth 20000 in
theorem enough_c (A : Option Addr) (n c k N : Nat) (w : World) (hk : k < 11) (hn : n ≤ 1000) (hN : N < 18446744073709551616) (hG : Gc w.heap.size w) :
    Calls Tryd.prog 19 #[.slice A n c, .agg #[.int .i64 (k : Int), .int .u64 (N : Int)]] w fun e w' => e = .returned (.bool (decide (needN k N ≤ n))) ∧ Below w.heap.size w w' := by
  by_cases h7 : k = 7
  · subst h7
    have hd : decide (needN 7 N ≤ n) = decide (N < n) := by
      unfold needN
      rw [if_pos rfl]
      exact decide_eq_decide.2 (by omega)
    rw [hd]
    have hw : IntKind.u64.wrap (n : Int) = (n : Int) := by rw [IntKind.wrap_u64]; omega
    clear hd hG
    go_enter Tryd.func19, Tryd.ntmps19
    go_wp2
    go_ret
    exact ⟨rfl, by go_grown⟩
  · have hd : decide (needN k N ≤ n) = decide (needT k ≤ n) := by
      unfold needN
      rw [if_neg h7]
    rw [hd]
    have hl0 : Below w.heap.size w (w.alloc (.cells #[.int .i64 (k : Int), .int .u64 (N : Int)] 46)) := (Below.refl _ _).alloc (Nat.le_refl _) _
    have hc := (hG.below hl0).n k hk
    have h7i : decide ((k : Int) = 7) = false := decide_eq_false (by omega)
    obtain ⟨q, hq⟩ : ∃ q : Nat, q = needT k := ⟨_, rfl⟩
    rw [← hq] at hc ⊢
    clear hd hG hq hl0
    go_enter Tryd.func19, Tryd.ntmps19
    go_wp2
    go_ret
    exact ⟨rfl, by go_grown⟩

theorem add_flat (b off j : Nat) : (⟨b, off, none⟩ : Addr).add j = ⟨b, off + j, none⟩ := by unfold Addr.add; split <;> simp_all
/-- A slice of elements, as a list of their words and numbers. -/
theorem RdE.quads {w : World} {B n : Nat} {A : Option Addr} {xs : List Nat} (h : RdE w B A n xs) (hn : 0 < n) :
    ∃ b off M, A = some ⟨b, off, none⟩ ∧ b < B ∧ M.length = n ∧ (∀ q ∈ M, El (qv q) (qn q)) ∧ M.map qn = xs ∧ ∀ j u, (flat M)[j]? = some u → w.cell? ((⟨b, off, none⟩ : Addr).add j) = some u := by
  obtain ⟨b, off, hA, hb, hc⟩ := h.cells hn
  have hq : ∀ i, ∃ q : Qd, i < n → (El (qv q) (qn q) ∧ qn q = xs.getD i 0 ∧ ∀ k, k < 4 → w.cell? ⟨b, off + i * 4 + k, none⟩ = (qc q)[k]?) := by
    intro i
    by_cases hi : i < n
    · obtain ⟨r0, r1, r2, r3, he, c0, c1, c2, c3⟩ := hc i hi
      refine ⟨(r0, r1, r2, r3, xs.getD i 0), fun _ => ⟨he, rfl, fun k hk => ?_⟩⟩
      match k, hk with
      | 0, _ => exact c0
      | 1, _ => exact c1
      | 2, _ => exact c2
      | 3, _ => exact c3
    · exact ⟨(0, 0, 0, 0, 0), fun h => absurd h hi⟩
  have hsp := fun i => Classical.choose_spec (hq i)
  generalize (fun i => Classical.choose (hq i)) = F at hsp
  refine ⟨b, off, (List.range n).map (fun i => Classical.choose (hq i)), hA, hb, by simp, ?_, ?_, ?_⟩
  · intro q hq'
    obtain ⟨i, hi, rfl⟩ := List.mem_map.1 hq'
    exact (hsp i (List.mem_range.1 hi)).1
  · apply List.ext_getElem
    · simp [h.len]
    · intro i h1 h2
      have hi : i < n := by simpa using h1
      simp only [List.getElem_map, List.getElem_range]
      rw [(hsp i hi).2.1]
      simp [List.getD_eq_getElem?_getD, h2]
  · intro j u hj
    have hlen := flat_length ((List.range n).map (fun i => Classical.choose (hq i)))
    have hjl : j < n * 4 := by
      have := (List.getElem?_eq_some_iff.1 hj).1
      rw [hlen] at this
      simpa using this
    have hi : j / 4 < n := by omega
    have hg := flat_get ((List.range n).map (fun i => Classical.choose (hq i))) (j / 4) (Classical.choose (hq (j / 4))) (by rw [List.getElem?_map, List.getElem?_range hi]; rfl) (j % 4) (by omega)
    rw [show j / 4 * 4 + j % 4 = j by omega, hj] at hg
    have hadd := add_flat b off j
    have := (hsp (j / 4) hi).2.2 (j % 4) (by omega)
    rw [← hg, show off + j / 4 * 4 + j % 4 = off + j by omega] at this
    rw [hadd, this]

/-- append of all elements of a slice onto an empty one. -/
theorem app_clone {ops : Array Oper} {rest : List Oper} {o : Oper} {a : Act} {Q : Exit → Act → World → Prop} {w : World} (hgd : o.guard = none) (s x : Operand)
    (ho : o.op = .call { callee := .builtin .append, args := #[s, x], argTypes := #[25, 25] })
    (n c base : Nat) (A : Option Addr) (xs : List Nat) (hs : a.eval s = .slice (some ⟨w.heap.size, 0, none⟩) 0 0) (hx : a.eval x = .slice A n c) (hR : RdE w w.heap.size A n xs) (hn : 0 < n) (hl : n ≤ 1000) (hb : base ≤ w.heap.size)
    (h : ∀ v' w', Pile w' base v' xs → Below w.heap.size w w' → wpList Tryd.prog ops Q rest (a.put o.dst v') w') :
    wpList Tryd.prog ops Q (o :: rest) a (w.alloc (.cells #[] 40)) := by
  refine wpList_plain hgd fun K hK => ?_
  obtain ⟨b, off, M, rfl, hbB, hM, hel, hmap, hcell⟩ := hR.quads hn
  have hb1 : Below w.heap.size w (w.alloc (.cells #[] 40)) := (Below.refl _ _).alloc (Nat.le_refl _) _
  have hO : OwnE (w.alloc (.cells #[] 40)) w.heap.size (.slice (some ⟨w.heap.size, 0, none⟩) 0 0) [] := World.ownsRow_made w #[] 0 (Nat.le_refl _) (by decide) rfl
  have hadd : ∀ j, (⟨b, off, none⟩ : Addr).add j = ⟨b, off + j, none⟩ := fun j => add_flat b off j
  obtain ⟨v', w', hr, g2, g3, g4⟩ := run_append_elt 25 Tryd.underlying25 (w.alloc (.cells #[] 40)) w.heap.size o.type (.slice (some ⟨w.heap.size, 0, none⟩) 0 0) [] M hO ⟨b, off, none⟩ c (by omega)
    (fun j u hj => by have := hcell j u hj; rw [hadd] at this ⊢; exact (hb1.cell (p := ⟨b, off + j, none⟩) hbB).trans this) (by simp; omega) (by simp)
  have hP : Pile w' base v' xs := ⟨M, OwnE.mono (by rw [List.nil_append] at g2; exact g2) hb, hel, hmap⟩
  unfold Oper.wp execOp
  rw [hM] at hr
  simp only [ho, resolve, invoke, builtin, Sem.run_bind, Sem.run_pure, Result.andThen_ok, List.map_toArray, List.map_cons, List.map_nil, hs, hx, hr]
  exact hK _ _ (h v' w' hP (hb1.grown g3 (by simp) (fun k hk => by injection hk with hk; simp at hk; omega)))
theorem app_clone0 {ops : Array Oper} {rest : List Oper} {o : Oper} {a : Act} {Q : Exit → Act → World → Prop} {w : World} (hgd : o.guard = none) (s x : Operand)
    (ho : o.op = .call { callee := .builtin .append, args := #[s, x], argTypes := #[25, 25] })
    (c : Nat) (A : Addr) (hs : a.eval s = .slice (some ⟨w.heap.size, 0, none⟩) 0 0) (hx : a.eval x = .slice (some A) 0 c)
    (h : wpList Tryd.prog ops Q rest (a.put o.dst (.slice (some ⟨w.heap.size, 0, none⟩) 0 0)) (w.alloc (.cells #[] 40))) :
    wpList Tryd.prog ops Q (o :: rest) a (w.alloc (.cells #[] 40)) := by
  refine wpList_plain hgd fun K hK => ?_
  obtain ⟨i0, hi, hz, hs1, hb⟩ := info_parts el_info
  have hr : (Builtin.append_ #[25, 25] o.type #[.slice (some ⟨w.heap.size, 0, none⟩) 0 0, .slice (some A) 0 c]).run Tryd.prog (w.alloc (.cells #[] 40)) = .ok (.slice (some ⟨w.heap.size, 0, none⟩) 0 0) (w.alloc (.cells #[] 40)) := by
    simp [Builtin.append_, run_underlying Tryd.underlying25, sizeOf, typeInfo, hi, Builtin.lenOf, Builtin.firstCells, storeCells, loadCells, loadCellsFrom]
  unfold Oper.wp execOp
  simp only [ho, resolve, invoke, builtin, Sem.run_bind, Sem.run_pure, Result.andThen_ok, List.map_toArray, List.map_cons, List.map_nil, hs, hx, hr]
  exact hK _ _ h

set_option maxRecDepth 20000 in
theorem cloneE_c (A : Option Addr) (n c : Nat) (xs : List Nat) (w : World) (h : RdE w w.heap.size A n xs) (hn : n ≤ 1000) :
    Calls Tryd.prog 17 #[.slice A n c] w fun e w' => ∃ v, e = .returned v ∧ Pile w' w.heap.size v xs ∧ Below w.heap.size w w' := by
  have hnil : ∀ w, (binOp .eql 25 (.slice A n c) (.slice none 0 0)).run Tryd.prog w = .ok (.bool A.isNone) w := fun w => Lib.run_eql_slice_nil (P := Tryd.prog) w 25 40 A n c 0 0 Tryd.underlying25
  rcases Nat.eq_zero_or_pos n with h0 | h0
  · subst h0
    have hx : xs = [] := List.eq_nil_of_length_eq_zero h.len
    subst hx
    cases A with
    | none =>
      rw [show (none : Option Addr).isNone = true from rfl] at hnil
      clear h
      go_enter Tryd.func17, Tryd.ntmps17
      go_wp2
      go_ret
      exact ⟨_, rfl, ⟨[], World.ownsRow_nil _ _ _ 4, fun q hq => by simp at hq, rfl⟩, Below.refl _ _⟩
    | some A =>
      rw [show (some A : Option Addr).isNone = false from rfl] at hnil
      clear h
      go_enter Tryd.func17, Tryd.ntmps17
      go_wp2_with (at_builtin; refine app_clone0 rfl (.tmp 5) (.tmp 6) rfl c A rfl rfl ?_)
      clear hnil
      go_wp2
      go_ret
      exact ⟨_, rfl, ⟨[], World.ownsRow_made w #[] 0 (Nat.le_refl _) (by decide) rfl, fun q hq => by simp at hq, rfl⟩, by go_grown⟩
  · obtain ⟨b, off, e, hb, hc⟩ := h.cells h0
    rw [show A.isNone = false by rw [e]; rfl] at hnil
    clear hc e
    go_enter Tryd.func17, Tryd.ntmps17
    go_wp2_with (at_builtin; refine app_clone rfl (.tmp 5) (.tmp 6) rfl n c w.heap.size A xs rfl rfl h h0 hn (Nat.le_refl _) ?_)
    intro v' w' hP hB
    have HP := hid hP
    have HB := hid hB
    clear hnil hP hB
    go_wp2
    go_ret
    exact ⟨_, rfl, HP.out, HB.out⟩

/-- What is found for an Op. -/
theorem deed_c (k : Nat) (hk : k < 11) : ∃ F, lk table (k : Int) = some (fv F) ∧ (∀ (args : Array Value) (w : World), (callFunc F args).run Tryd.prog w = .ok (.enter F args) w) ∧
    ∀ (v : Value) (base N : Nat) (xs : List Nat) (w : World), Pile w base v xs → needN k N ≤ xs.length → xs.length ≤ 1000 → base ≤ w.heap.size → N < 18446744073709551616 → Glob w →
      Calls Tryd.prog F #[v, .int .u64 (N : Int)] w fun e w' => ∃ v', e = .returned v' ∧ Pile w' base v' (act k N xs) ∧ Moved w w' v v' := by
  match k, hk with
  | 0, _ => exact ⟨25, rfl, Tryd.call25, fun v base N xs w hP h1 h2 h3 h4 hG => push_c v base N xs w hP h2 h3 hG h4⟩
  | 1, _ =>
    refine ⟨26, rfl, Tryd.call26, fun v base N xs w hP h1 h2 h3 h4 hG => ?_⟩
    obtain ⟨ys, x, y, rfl⟩ := split2 xs h1
    rw [show act 1 N (ys ++ [x, y]) = ys ++ [(x + y) % pN] from joinL_eq (fun x y => (x + y) % pN) ys x y]
    exact padd_c v base x y ys N w hP (by simp at h2; omega) hG
  | 2, _ =>
    refine ⟨27, rfl, Tryd.call27, fun v base N xs w hP h1 h2 h3 h4 hG => ?_⟩
    obtain ⟨ys, x, y, rfl⟩ := split2 xs h1
    rw [show act 2 N (ys ++ [x, y]) = ys ++ [(x + (pN - y)) % pN] from joinL_eq (fun x y => (x + (pN - y)) % pN) ys x y]
    exact psub_c v base x y ys N w hP (by simp at h2; omega) hG
  | 3, _ =>
    refine ⟨28, rfl, Tryd.call28, fun v base N xs w hP h1 h2 h3 h4 hG => ?_⟩
    obtain ⟨ys, x, y, rfl⟩ := split2 xs h1
    rw [show act 3 N (ys ++ [x, y]) = ys ++ [x * y % pN] from joinL_eq (fun x y => x * y % pN) ys x y]
    exact pmul_c v base x y ys N w hP (by simp at h2; omega) hG
  | 4, _ =>
    refine ⟨29, rfl, Tryd.call29, fun v base N xs w hP h1 h2 h3 h4 hG => ?_⟩
    obtain ⟨ys, x, rfl⟩ := split1 xs h1
    rw [show act 4 N (ys ++ [x]) = ys ++ [(pN - x) % pN] from turnL_eq (fun x => (pN - x) % pN) ys x]
    exact pneg_c v base x ys N w hP (by simp at h2; omega) hG
  | 5, _ =>
    refine ⟨30, rfl, Tryd.call30, fun v base N xs w hP h1 h2 h3 h4 hG => ?_⟩
    obtain ⟨ys, x, rfl⟩ := split1 xs h1
    rw [show act 5 N (ys ++ [x]) = ys ++ [x * x % pN] from turnL_eq (fun x => x * x % pN) ys x]
    exact psquare_c v base x ys N w hP (by simp at h2; omega) hG
  | 6, _ =>
    refine ⟨31, rfl, Tryd.call31, fun v base N xs w hP h1 h2 h3 h4 hG => ?_⟩
    obtain ⟨ys, x, rfl⟩ := split1 xs h1
    rw [show act 6 N (ys ++ [x]) = ys ++ [x ^ (pN - 2) % pN] from turnL_eq (fun x => x ^ (pN - 2) % pN) ys x]
    exact pinverse_c v base x ys N w hP (by simp at h2; omega) hG
  | 7, _ =>
    refine ⟨32, rfl, Tryd.call32, fun v base N xs w hP h1 h2 h3 h4 hG => ?_⟩
    exact copy_c v base N xs w hP (by unfold needN at h1; rw [if_pos rfl] at h1; omega) h2 h3
  | 8, _ =>
    refine ⟨33, rfl, Tryd.call33, fun v base N xs w hP h1 h2 h3 h4 hG => ?_⟩
    obtain ⟨ys, x, y, rfl⟩ := split2 xs h1
    rw [show act 8 N (ys ++ [x, y]) = ys ++ [y, x] from swapL_eq ys x y]
    exact swap_c v base x y ys N w hP (by simp at h2; omega)
  | 9, _ =>
    refine ⟨34, rfl, Tryd.call34, fun v base N xs w hP h1 h2 h3 h4 hG => ?_⟩
    obtain ⟨ys, x, rfl⟩ := split1 xs h1
    rw [show act 9 N (ys ++ [x]) = ys from dropL_eq ys x]
    exact drop_c v base x ys N w hP (by simp at h2; omega)
  | 10, _ =>
    refine ⟨35, rfl, Tryd.call35, fun v base N xs w hP h1 h2 h3 h4 hG => ?_⟩
    obtain ⟨ys, x, y, rfl⟩ := split2 xs h1
    rw [show act 10 N (ys ++ [x, y]) = ys ++ [samF x y] from joinL_eq _ ys x y]
    exact psame_c v base x y ys N w hP (by simp at h2; omega) hG
  | k + 11, h => omega
/-- For another number nothing is found. -/
theorem deed_none (op : Int) (h : op < 0 ∨ 10 < op) : lk table op = none := by
  unfold table
  simp only [lk]
  rw [if_neg (by omega), if_neg (by omega), if_neg (by omega), if_neg (by omega), if_neg (by omega), if_neg (by omega), if_neg (by omega), if_neg (by omega), if_neg (by omega), if_neg (by omega), if_neg (by omega)]
end Go.Proofs.YtjohbepdmnigcaaDoor
