import Derived.Test.YtjohbepdmnigcaaDoorFldI
import Derived.Test.YtjohbepdmnigcaaDoorOwn
import Derived.Laws.OwnMore
/-
  field.Sum: what the call does; slices of elements (RdE).
-/
namespace Go.Proofs.YtjohbepdmnigcaaDoor
open Go.RowKit
set_option linter.unusedVariables false

/-- The slice of n elements at A reads as the numbers xs, and lies below block B. -/
structure RdE (w : World) (B : Nat) (A : Option Addr) (n : Nat) (xs : List Nat) : Prop where
  len : xs.length = n
  cells : 0 < n → ∃ b off, A = some ⟨b, off, none⟩ ∧ b < B ∧ ∀ i, i < n → ∃ r0 r1 r2 r3 : Int, El (w4 r0 r1 r2 r3) (xs.getD i 0) ∧
    w.cell? ⟨b, off + i * 4, none⟩ = some (.int .u64 r0) ∧ w.cell? ⟨b, off + i * 4 + 1, none⟩ = some (.int .u64 r1) ∧ w.cell? ⟨b, off + i * 4 + 2, none⟩ = some (.int .u64 r2) ∧ w.cell? ⟨b, off + i * 4 + 3, none⟩ = some (.int .u64 r3)
theorem RdE.below {w w' : World} {B B' n : Nat} {A : Option Addr} {l : List Nat} (h : RdE w B A n l) (hb : Below B' w w') (hB : B ≤ B') : RdE w' B A n l :=
  ⟨h.len, fun hn => by
    obtain ⟨b, off, e, hbB, hc⟩ := h.cells hn
    have k : ∀ i, w'.cell? ⟨b, i, none⟩ = w.cell? ⟨b, i, none⟩ := fun i => hb.cell (p := ⟨b, i, none⟩) (Nat.lt_of_lt_of_le hbB hB)
    refine ⟨b, off, e, hbB, fun i hi => ?_⟩
    obtain ⟨r0, r1, r2, r3, h0, h1, h2, h3, h4⟩ := hc i hi
    exact ⟨r0, r1, r2, r3, h0, (k _).trans h1, (k _).trans h2, (k _).trans h3, (k _).trans h4⟩⟩
theorem RdE.more {w : World} {B B' n : Nat} {A : Option Addr} {l : List Nat} (h : RdE w B A n l) (hB : B ≤ B') : RdE w B' A n l :=
  ⟨h.len, fun hn => by
    obtain ⟨b, off, e, hb, hc⟩ := h.cells hn
    exact ⟨b, off, e, by omega, hc⟩⟩
theorem RdE.nil (w : World) (B : Nat) (A : Option Addr) : RdE w B A 0 [] := ⟨rfl, fun h => absurd h (by omega)⟩

/-- The sum of the first k numbers. -/
def psum (l : List Nat) : Nat → Nat
  | 0 => 0
  | k + 1 => psum l k + l.getD k 0
def SRel (w : World) (l : List Nat) (wr : World) (k : Nat) : Prop :=
  ∃ o0 o1 o2 o3 : Int, B4 wr w.heap.size 0 0 0 0 ∧ B4 wr (w.heap.size + 1) o0 o1 o2 o3 ∧ Below w.heap.size w wr ∧ El (w4 o0 o1 o2 o3) (psum l k % pN)

end Go.Proofs.YtjohbepdmnigcaaDoor
/-
  Rows of field elements that a call makes and appends to.
-/
namespace Go.Proofs.YtjohbepdmnigcaaDoor
open Go.RowKit
set_option linter.unusedVariables false

/-- An element's four words, and its number. -/
abbrev Qd := Int × Int × Int × Int × Nat
def qc (q : Qd) : List Value := [.int .u64 q.1, .int .u64 q.2.1, .int .u64 q.2.2.1, .int .u64 q.2.2.2.1]
def qv (q : Qd) : Value := .agg #[.int .u64 q.1, .int .u64 q.2.1, .int .u64 q.2.2.1, .int .u64 q.2.2.2.1]
def qn (q : Qd) : Nat := q.2.2.2.2
def flat : List Qd → List Value
  | [] => []
  | q :: L => qc q ++ flat L
theorem flat_append (L M : List Qd) : flat (L ++ M) = flat L ++ flat M := by
  induction L with
  | nil => rfl
  | cons q L ih => simp [flat, ih]
theorem flat_length (L : List Qd) : (flat L).length = L.length * 4 := by
  induction L with
  | nil => rfl
  | cons q L ih => simp [flat, qc, ih]; omega
theorem flat_one (L : List Qd) : ∀ u ∈ flat L, u.oneCell' = true := by
  induction L with
  | nil => intro u hu; simp [flat] at hu
  | cons q L ih =>
    intro u hu
    simp only [flat, List.mem_append] at hu
    rcases hu with h | h
    · simp only [qc, List.mem_cons, List.not_mem_nil, or_false] at h
      rcases h with rfl | rfl | rfl | rfl <;> rfl
    · exact ih u h
theorem flat_get (L : List Qd) : ∀ (i : Nat) (q : Qd), L[i]? = some q → ∀ k, k < 4 → (flat L)[i * 4 + k]? = (qc q)[k]? := by
  induction L with
  | nil => intro i q h; simp at h
  | cons p L ih =>
    intro i q h k hk
    cases i with
    | zero =>
      simp only [List.getElem?_cons_zero, Option.some.injEq] at h
      subst h
      simp only [flat, Nat.zero_mul, Nat.zero_add]
      exact List.getElem?_append_left (by simp [qc]; exact hk)
    | succ i =>
      simp only [List.getElem?_cons_succ] at h
      have h1 := ih i q h k hk
      simp only [flat]
      rw [List.getElem?_append_right (by simp [qc]; omega), ← h1]
      congr 1
      simp [qc]
      omega

/-- The slice value v owns the elements L, among the blocks from base on. -/
abbrev OwnE (w : World) (base : Nat) (v : Value) (L : List Qd) : Prop := w.ownsRow base 40 4 v L.length (flat L)

theorem OwnE.rd {w : World} {base : Nat} {v : Value} {L : List Qd} (h : OwnE w base v L) (hel : ∀ q ∈ L, El (qv q) (qn q)) : ∃ A c, v = .slice A L.length c ∧ L.length ≤ c ∧ (c ≤ maxLen) ∧ RdE w w.heap.size A L.length (L.map qn) := by
  rcases h.2 with ⟨rfl, hn⟩ | ⟨g, cap, cur, rfl, hb, hg, hc, hm, _, ht⟩
  · rw [hn]
    have : L = [] := List.eq_nil_of_length_eq_zero hn
    subst this
    exact ⟨none, 0, rfl, Nat.le_refl _, by decide, rfl, fun h => absurd h (by decide)⟩
  · refine ⟨some ⟨g, 0, none⟩, cap, rfl, hc, hm, by simp, fun _ => ⟨g, 0, rfl, (Array.getElem?_eq_some_iff.1 hg).1, fun i hi => ?_⟩⟩
    have hq : L[i]? = some L[i] := List.getElem?_eq_getElem hi
    have hcell : ∀ k, k < 4 → w.cell? ⟨g, 0 + i * 4 + k, none⟩ = (qc L[i])[k]? := by
      intro k hk
      rw [Nat.zero_add, h.cellAt (i * 4 + k) (by omega)]
      exact flat_get L i _ hq k hk
    refine ⟨L[i].1, L[i].2.1, L[i].2.2.1, L[i].2.2.2.1, ?_, hcell 0 (by decide), hcell 1 (by decide), hcell 2 (by decide), hcell 3 (by decide)⟩
    have := hel L[i] (List.getElem_mem hi)
    simp only [List.getD_eq_getElem?_getD, List.getElem?_map, hq, Option.map_some, Option.getD_some]
    exact this

theorem OwnE.mono {w : World} {base base' : Nat} {v : Value} {L : List Qd} (h : OwnE w base v L) (hb : base' ≤ base) : OwnE w base' v L := by
  refine ⟨h.1, ?_⟩
  rcases h.2 with h' | ⟨g, cap, cur, h1, h2, h3⟩
  · exact Or.inl h'
  · exact Or.inr ⟨g, cap, cur, h1, Nat.le_trans hb h2, h3⟩
theorem OwnE.below {w w' : World} {base B : Nat} {v : Value} {L : List Qd} (h : OwnE w base v L) (hb : Below B w w') (hB : w.heap.size ≤ B) : OwnE w' base v L := by
  refine ⟨h.1, ?_⟩
  rcases h.2 with h' | ⟨g, cap, cur, h1, h2, h3, h4⟩
  · exact Or.inl h'
  · exact Or.inr ⟨g, cap, cur, h1, h2, by rw [hb.block g (Nat.lt_of_lt_of_le (Array.getElem?_eq_some_iff.1 h3).1 hB)]; exact h3, h4⟩

theorem el_info : (Tryd.prog.info? 40).map (fun i => (i.zero, i.size, i.bytes)) = some (some (.agg #[.int .u64 0, .int .u64 0, .int .u64 0, .int .u64 0]), 4, 32) := by kernel_rfl

/-- append onto an own row of elements: where the new row lies. -/
theorem run_append_els (w : World) (base : Nat) (ty : TypeId) (v : Value) (L M : List Qd) (hown : OwnE w base v L) (a : Addr) (c : Nat) (hM : 0 < M.length)
    (hnews : ∀ j u, (flat M)[j]? = some u → w.cell? (a.add j) = some u) (hlen : L.length + M.length ≤ 1000000) (hbase : base ≤ w.heap.size) :
    ∃ v' w', (Builtin.append_ #[25, 25] ty #[v, .slice (some a) M.length c]).run Tryd.prog w = .ok v' w' ∧ OwnE w' base v' (L ++ M) ∧ w.grownBy w' v.ownBlock ∧
      (v'.ownBlock = v.ownBlock ∨ ∃ k, v'.ownBlock = some k ∧ w.heap.size ≤ k) := by
  obtain ⟨i0, hi, hz, hs1, hb⟩ := info_parts el_info
  have hML : (flat M).length = M.length * 4 := flat_length M
  rcases hown.2 with ⟨rfl, hn⟩ | ⟨g, cap, cur, rfl, hbg, hg, hnc, hcm, hcs, htake⟩
  · have hL : L = [] := List.eq_nil_of_length_eq_zero hn
    subst hL
    obtain ⟨v', w', h1, h2, h3, h4⟩ := run_append_own (P := Tryd.prog) w w.heap.size 25 ty 40 i0 _ 4 32 Tryd.underlying25 hi hz hs1 hb rfl (by decide) (.slice none 0 0) 0 [] (World.ownsRow_nil w _ _ 4) a M.length c (flat M) hML hnews (flat_one M) (by unfold maxLen; omega) (by omega) (Nat.le_refl _)
    rw [Nat.zero_add, List.nil_append] at h2
    refine ⟨v', w', h1, OwnE.mono (L := M) h2 hbase, h3, Or.inr ?_⟩
    rcases h2.2 with ⟨rfl, h0⟩ | ⟨g, cap, cur, rfl, hbg, _⟩
    · omega
    · exact ⟨g, rfl, hbg⟩
  · obtain ⟨v', w', h1, h2, h3, h4⟩ := run_append_own (P := Tryd.prog) w base 25 ty 40 i0 _ 4 32 Tryd.underlying25 hi hz hs1 hb rfl (by decide) _ L.length (flat L) hown a M.length c (flat M) hML hnews (flat_one M) (by unfold maxLen; omega) (by omega) hbase
    refine ⟨v', w', h1, ?_, h3, ?_⟩
    · show World.ownsRow _ _ _ _ _ (L ++ M).length _
      rw [flat_append, List.length_append]
      exact h2
    · by_cases hroom : L.length + M.length ≤ cap
      · obtain ⟨w'', h5, _, _⟩ := run_append_fits (P := Tryd.prog) w base 25 ty 40 i0 4 Tryd.underlying25 hi hs1 g L.length cap (flat L) hown a M.length c (flat M) hML hnews (flat_one M) hroom
        rw [h1] at h5
        simp only [Result.ok.injEq] at h5
        rw [h5.1]
        exact Or.inl rfl
      · have h6 := run_append_grow (P := Tryd.prog) w 25 ty 40 i0 _ Tryd.underlying25 hi hz ⟨g, 0, none⟩ L.length cap (flat L) (by rw [hs1]; exact flat_length L) (hown.cells rfl) a M.length c (flat M) (by rw [hs1]; exact hML) hnews (by omega) (by omega)
          (by rw [hb]; have := nextslicecap_le (need := L.length + M.length) (old := cap) (by omega); omega)
        rw [h1] at h6
        simp only [Result.ok.injEq] at h6
        rw [h6.1]
        exact Or.inr ⟨_, rfl, Nat.le_refl _⟩
end Go.Proofs.YtjohbepdmnigcaaDoor
