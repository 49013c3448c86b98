import Derived.Test.YtdepkfdceidikaaGreatDoorEvS
import Derived.Test.YtdepkfdceidikaaGreatDoorAgg
/-
  Vectors and matrices as rows of words that a function tells; blocks of them; how they are loaded, indexed and stored.
-/
namespace Go.Proofs.YtdepkfdceidikaaGreatDoor
open Go.RowKit
set_option linter.unusedVariables false

/-- n words that a function tells, as cells. -/
noncomputable def wds (n : Nat) (f : Nat → Int) : List Value := Classical.choose (p := fun l : List Value => l = (List.range n).map fun k => .int .u64 (f k)) ⟨_, rfl⟩
theorem wds_eq (n : Nat) (f : Nat → Int) : wds n f = (List.range n).map fun k => .int .u64 (f k) := Classical.choose_spec (p := fun l : List Value => l = (List.range n).map fun k => .int .u64 (f k)) ⟨_, rfl⟩
theorem wds_len (n : Nat) (f : Nat → Int) : (wds n f).length = n := by simp [wds_eq]
theorem wds_get {n k : Nat} {f : Nat → Int} (h : k < n) : (wds n f)[k]? = some (.int .u64 (f k)) := by
  rw [wds_eq, List.getElem?_map, List.getElem?_range h]
  rfl
theorem wds_out {n k : Nat} {f : Nat → Int} (h : n ≤ k) : (wds n f)[k]? = none := List.getElem?_eq_none (by rw [wds_len]; exact h)
theorem wds_one (n : Nat) (f : Nat → Int) : ∀ v ∈ wds n f, v.oneCell' = true := by
  intro v hv
  rw [wds_eq] at hv
  obtain ⟨k, _, rfl⟩ := List.mem_map.1 hv
  rfl
theorem wds_all (n : Nat) (f : Nat → Int) : (wds n f).toArray.all (·.oneCell') = true := all_oneCell_toArray (wds_one n f)
theorem wds_ext {n : Nat} {f g : Nat → Int} (h : ∀ k, k < n → f k = g k) : wds n f = wds n g := by
  apply List.ext_getElem?
  intro i
  rcases Nat.lt_or_ge i n with hi | hi
  · rw [wds_get hi, wds_get hi, h i hi]
  · rw [wds_out hi, wds_out hi]
theorem wds_sub (n o m : Nat) (f : Nat → Int) (h : o + m ≤ n) : ((wds n f).drop o).take m = wds m fun k => f (o + k) := by
  apply List.ext_getElem?
  intro i
  rcases Nat.lt_or_ge i m with hi | hi
  · rw [List.getElem?_take_of_lt hi, List.getElem?_drop, wds_get (by omega), wds_get hi]
  · rw [wds_out hi, List.getElem?_eq_none (by rw [List.length_take]; omega)]
/-- m words laid from place o on. -/
def fput (f : Nat → Int) (o m : Nat) (g : Nat → Int) : Nat → Int := fun k => if o ≤ k ∧ k < o + m then g (k - o) else f k
theorem wds_over (n o m : Nat) (f g : Nat → Int) (h : o + m ≤ n) : (wds n f).take o ++ wds m g ++ (wds n f).drop (o + m) = wds n (fput f o m g) := by
  apply List.ext_getElem?
  intro i
  have l1 : ((wds n f).take o).length = o := by rw [List.length_take, wds_len]; omega
  have l2 : ((wds n f).take o ++ wds m g).length = o + m := by rw [List.length_append, l1, wds_len]
  rcases Nat.lt_or_ge i o with h1 | h1
  · rw [List.append_assoc, List.getElem?_append_left (by omega), List.getElem?_take_of_lt h1, wds_get (by omega), wds_get (by omega)]
    unfold fput
    rw [if_neg (by omega)]
  · rcases Nat.lt_or_ge i (o + m) with h2 | h2
    · rw [List.getElem?_append_left (by omega), List.getElem?_append_right (by omega), l1, wds_get (by omega), wds_get (by omega)]
      unfold fput
      rw [if_pos ⟨h1, h2⟩]
    · rw [List.getElem?_append_right (by omega), l2, List.getElem?_drop, show o + m + (i - (o + m)) = i by omega]
      rcases Nat.lt_or_ge i n with h3 | h3
      · rw [wds_get h3, wds_get h3]
        unfold fput
        rw [if_neg (by omega)]
      · rw [wds_out h3, wds_out h3]
theorem fput_in {f g : Nat → Int} {o m k : Nat} (h : k < m) : fput f o m g (o + k) = g k := by
  unfold fput
  rw [if_pos (by omega), show o + k - o = k by omega]
theorem fput_out {f g : Nat → Int} {o m k : Nat} (h : k < o ∨ o + m ≤ k) : fput f o m g k = f k := by
  unfold fput
  rw [if_neg (by omega)]
/-- No words yet. -/
def z0 : Nat → Int := fun _ => 0

theorem BlkV.sub {w : World} {b : Nat} {t : TypeId} {n : Nat} {f : Nat → Int} (h : BlkV w b t (wds n f)) (o m : Nat) (hm : o + m ≤ n) : w.rangeAt b o (wds m fun k => f (o + k)) :=
  wds_sub n o m f hm ▸ h.rangeAt o m (by rw [wds_len]; exact hm)
theorem BlkV.sub0 {w : World} {b : Nat} {t : TypeId} {n : Nat} {f : Nat → Int} (h : BlkV w b t (wds n f)) : w.rangeAt b 0 (wds n f) := h.range
theorem BlkV.lay {w : World} {b : Nat} {t : TypeId} {n : Nat} {f : Nat → Int} (h : BlkV w b t (wds n f)) (o m : Nat) (g : Nat → Int) (hm : o + m ≤ n) : BlkV (w.setCells b o (wds m g)) b t (wds n (fput f o m g)) := by
  have h1 := BlkV.over (wds m g) o w _ h (by rw [wds_len, wds_len]; exact hm)
  rw [wds_len, wds_over n o m f g hm] at h1
  exact h1
theorem BlkV.lay0 {w : World} {b : Nat} {t : TypeId} {n : Nat} {f : Nat → Int} (h : BlkV w b t (wds n f)) (g : Nat → Int) : BlkV (w.setCells b 0 (wds n g)) b t (wds n g) :=
  BlkV.whole (wds n g) h (by rw [wds_len, wds_len])
theorem BlkV.thereW {w : World} {b : Nat} {t : TypeId} {n : Nat} {f : Nat → Int} (h : BlkV w b t (wds n f)) (o m : Nat) (g : Nat → Int) (hm : o + m ≤ n) : w.there b o (wds m g).toArray.size := by
  rw [List.size_toArray, wds_len]
  exact h.there o m (by rw [wds_len]; exact hm)
/-- An object of n words. -/
noncomputable def oF (t : TypeId) (n : Nat) (f : Nat → Int) : Obj := .cells (wds n f).toArray t
theorem oF_new (w : World) (t : TypeId) (n : Nat) (f : Nat → Int) : BlkV (w.alloc (oF t n f)) w.heap.size t (wds n f) := BlkV.new w t (wds n f)

/-- Four words as an element's value. -/
def g4 (r0 r1 r2 r3 : Int) : Nat → Int
  | 0 => r0
  | 1 => r1
  | 2 => r2
  | _ => r3
theorem wds_4 (f : Nat → Int) : wds 4 f = [.int .u64 (f 0), .int .u64 (f 1), .int .u64 (f 2), .int .u64 (f 3)] := wds_eq 4 f
theorem w4_g (r0 r1 r2 r3 : Int) : w4 r0 r1 r2 r3 = .agg (wds 4 (g4 r0 r1 r2 r3)).toArray := by rw [wds_4]; rfl
theorem Ez.fn {v : Value} {X : Int} (h : Ez v X) : ∃ g, v = .agg (wds 4 g).toArray := by
  obtain ⟨r0, r1, r2, r3, e⟩ := h.words
  exact ⟨g4 r0 r1 r2 r3, e.trans (w4_g r0 r1 r2 r3)⟩
/-- From place o on the element of X stands. -/
structure Ef (f : Nat → Int) (o : Nat) (X : Int) : Prop where
  out : Ez (.agg (wds 4 fun k => f (o + k)).toArray) X
theorem Ef.put {f g : Nat → Int} {X : Int} (o : Nat) (h : Ez (.agg (wds 4 g).toArray) X) : Ef (fput f o 4 g) o X := by
  refine ⟨?_⟩
  rw [wds_ext (g := g) fun k hk => fput_in hk]
  exact h
theorem Ef.putO {f g : Nat → Int} {X : Int} {o o' m : Nat} (h : Ef f o X) (hd : o + 4 ≤ o' ∨ o' + m ≤ o) : Ef (fput f o' m g) o X := by
  refine ⟨?_⟩
  rw [wds_ext (g := fun k => f (o + k)) fun k hk => fput_out (by omega)]
  exact h.out
theorem Ef.eq {f : Nat → Int} {o o' : Nat} {X Y : Int} (h : Ef f o X) (e : o = o') (e2 : X = Y) : Ef f o' Y := e ▸ e2 ▸ h
theorem Ef.zero (o : Nat) : Ef z0 o 0 := ⟨by rw [wds_4]; exact Ez.zero⟩
theorem Ef.one {f : Nat → Int} {X : Int} (h : Ez (.agg (wds 4 f).toArray) X) : Ef f 0 X := by
  refine ⟨?_⟩
  rw [wds_ext (g := f) fun k hk => by rw [Nat.zero_add]]
  exact h
theorem Ef.one' {f : Nat → Int} {X : Int} (h : Ef f 0 X) : Ez (.agg (wds 4 f).toArray) X := by
  have := h.out
  rw [wds_ext (g := f) fun k hk => by rw [Nat.zero_add]] at this
  exact this
/-- Moved by o. -/
theorem Ef.shift {f : Nat → Int} {o p : Nat} {X : Int} (h : Ef f (o + p) X) : Ef (fun k => f (o + k)) p X := by
  refine ⟨?_⟩
  rw [wds_ext (g := fun k => f (o + p + k)) fun k hk => by rw [Nat.add_assoc]]
  exact h.out
theorem Ef.unshift {f g : Nat → Int} {o p m : Nat} {X : Int} (h : Ef g p X) (hm : p + 4 ≤ m) : Ef (fput f o m g) (o + p) X := by
  refine ⟨?_⟩
  rw [wds_ext (g := fun k => g (p + k)) fun k hk => by rw [Nat.add_assoc, fput_in (by omega)]]
  exact h.out
/-- Three elements side by side; three rows of them. -/
structure VecZ (f : Nat → Int) (X : Nat → Int) : Prop where
  at_ : ∀ i, i < 3 → Ef f (i * 4) (X i)
structure MatZ (f : Nat → Int) (M : MZ) : Prop where
  at_ : ∀ i j, i < 3 → j < 3 → Ef f (i * 12 + j * 4) (M i j)
theorem VecZ.eq {f : Nat → Int} {X Y : Nat → Int} (h : VecZ f X) (e : ∀ i, i < 3 → X i = Y i) : VecZ f Y := ⟨fun i hi => e i hi ▸ h.at_ i hi⟩
theorem MatZ.eq {f : Nat → Int} {M N : MZ} (h : MatZ f M) (e : ∀ i j, i < 3 → j < 3 → M i j = N i j) : MatZ f N := ⟨fun i j hi hj => e i j hi hj ▸ h.at_ i j hi hj⟩
theorem MatZ.row {f : Nat → Int} {M : MZ} (h : MatZ f M) {i : Nat} (hi : i < 3) : VecZ (fun k => f (i * 12 + k)) (M i) := ⟨fun j hj => (h.at_ i j hi hj).shift⟩
theorem VecZ.el {f : Nat → Int} {X : Nat → Int} (h : VecZ f X) {i : Nat} (hi : i < 3) : Ez (.agg (wds 4 fun k => f (i * 4 + k)).toArray) (X i) := (h.at_ i hi).out
theorem MatZ.el {f : Nat → Int} {M : MZ} (h : MatZ f M) {i j : Nat} (hi : i < 3) (hj : j < 3) : Ez (.agg (wds 4 fun k => f (i * 12 + j * 4 + k)).toArray) (M i j) := (h.at_ i j hi hj).out

/-- What is wanted goes on. -/
theorem ready_go {c : Bool} {A B : Prop} (h : c = true) (a : A) : if c = true then A else B := by
  rw [if_pos h]
  exact a
theorem size_v : (Tryz.prog.info? 39).map (·.size) = some 12 := by kernel_rfl
theorem size_m : (Tryz.prog.info? 57).map (·.size) = some 36 := by kernel_rfl
theorem size_e : (Tryz.prog.info? 37).map (·.size) = some 4 := by kernel_rfl
theorem sizeV (f : Nat → Int) : (Tryz.prog.info? 39).map (·.size) = some (wds 12 f).length := size_v.trans (congrArg some (wds_len 12 f).symm)
theorem sizeM (f : Nat → Int) : (Tryz.prog.info? 57).map (·.size) = some (wds 36 f).length := size_m.trans (congrArg some (wds_len 36 f).symm)
theorem sizeE (f : Nat → Int) : (Tryz.prog.info? 37).map (·.size) = some (wds 4 f).length := size_e.trans (congrArg some (wds_len 4 f).symm)
theorem sizeVA (f : Nat → Int) : (Tryz.prog.info? 39).map (·.size) = some (wds 12 f).toArray.size := sizeV f
theorem sizeMA (f : Nat → Int) : (Tryz.prog.info? 57).map (·.size) = some (wds 36 f).toArray.size := sizeM f
theorem sizeEA (f : Nat → Int) : (Tryz.prog.info? 37).map (·.size) = some (wds 4 f).toArray.size := sizeE f
theorem szRunE (w : World) : (sizeOf 37).run Tryz.prog w = .ok 4 w := by kernel_rfl
theorem szRunV (w : World) : (sizeOf 39).run Tryz.prog w = .ok 12 w := by kernel_rfl
theorem szRunM (w : World) : (sizeOf 57).run Tryz.prog w = .ok 36 w := by kernel_rfl
theorem zeroV (v : World) : (zeroValue 39).run Tryz.prog v = .ok (.agg (wds 12 z0).toArray) v := by rw [wds_eq]; kernel_rfl
theorem zeroM (v : World) : (zeroValue 57).run Tryz.prog v = .ok (.agg (wds 36 z0).toArray) v := by rw [wds_eq]; kernel_rfl
theorem zeroE (v : World) : (zeroValue 37).run Tryz.prog v = .ok (.agg (wds 4 z0).toArray) v := by rw [wds_eq]; kernel_rfl
/-- A part of a row of words that is a value. -/
theorem run_index_wds {P : Program} (w : World) (t e : TypeId) (d : TypeDesc) (n s m : Nat) (ht : P.underlying t = some (.array n e)) (he : P.underlying e = some d) (hd : d.isRow = true) (hsz : ∀ w, (sizeOf e).run P w = .ok s w)
    (f : Nat → Int) (hm : m = n * s) (k : Nat) (hk : k < n) : (Instr.index t (.agg (wds m f).toArray) (.int .i64 (k : Int))).run P w = .ok (.agg (wds s fun j => f (k * s + j)).toArray) w := by
  have h1 : (0 : Int) ≤ (k : Int) ∧ (k : Int) < (n : Int) := by omega
  have hks : k * s + s ≤ m := by
    rw [hm, show k * s + s = (k + 1) * s by rw [Nat.add_mul, Nat.one_mul]]
    exact Nat.mul_le_mul_right _ (by omega)
  have hag : (isAgg e).run P w = .ok true w := by
    unfold isAgg
    rw [Sem.run_bind, run_underlying he w]
    cases d <;> simp [TypeDesc.isRow] at hd <;> rfl
  have px : (part e (wds m f).toArray (k * s)).run P w = .ok (.agg (wds s fun j => f (k * s + j)).toArray) w := by
    unfold part
    rw [Sem.run_bind, hag]
    simp only [Result.andThen_ok, if_true, Sem.run_bind, hsz, Sem.run_pure]
    rw [← wds_sub m (k * s) s f hks]
    congr 2
    simp only [List.extract_toArray, List.extract_eq_take_drop, Nat.add_sub_cancel_left]
  unfold Instr.index
  simp only [asIntOf, Sem.run_bind, Sem.run_pure, Result.andThen_ok, run_underlying ht, hsz, h1, and_self, if_true, Int.toNat_natCast, px]
theorem index_v (w : World) (f : Nat → Int) {k : Nat} (hk : k < 3) : (Instr.index 39 (.agg (wds 12 f).toArray) (.int .i64 (k : Int))).run Tryz.prog w = .ok (.agg (wds 4 fun j => f (k * 4 + j)).toArray) w :=
  run_index_wds w _ 37 _ 3 4 12 Tryz.underlying39 Tryz.underlying37 rfl szRunE f rfl k hk
theorem index_m (w : World) (f : Nat → Int) {k : Nat} (hk : k < 3) : (Instr.index 57 (.agg (wds 36 f).toArray) (.int .i64 (k : Int))).run Tryz.prog w = .ok (.agg (wds 12 fun j => f (k * 12 + j)).toArray) w :=
  run_index_wds w _ 39 _ 3 12 36 Tryz.underlying57 Tryz.underlying39 rfl szRunV f rfl k hk
end Go.Proofs.YtdepkfdceidikaaGreatDoor
/-
  matrix: others, at, column: what each call does.
-/
namespace Go.Proofs.YtdepkfdceidikaaGreatDoor
open Go.RowKit
set_option linter.unusedVariables false

/-- The places that are left without one. -/
def otL (i : Nat) : Nat := if i = 0 then 1 else 0
def otR (i : Nat) : Nat := if i = 2 then 1 else 2
end Go.Proofs.YtdepkfdceidikaaGreatDoor
/-
  A row of words that is filled part by part (FRel); matrix.Matrix.column: what the call does.
-/
namespace Go.Proofs.YtdepkfdceidikaaGreatDoor
open Go.RowKit
set_option linter.unusedVariables false
set_option linter.unusedSimpArgs false


/-- What a loop keeps: a row of words that is filled, a result's place, and a block that is read. -/
structure FRel (w : World) (b : Nat) (t : TypeId) (n : Nat) (P : (Nat → Int) → Prop) (r : Nat) (tr : TypeId) (nr : Nat) (x : Nat) (tx : TypeId) (cx : List Value) (v : World) : Prop where
  o : ∃ s, BlkV v b t (wds n s) ∧ P s
  z : BlkV v r tr (wds nr z0)
  x : BlkV v x tx cx
  b : Below w.heap.size w v
theorem FRel.up {w : World} {b : Nat} {t : TypeId} {n : Nat} {P : (Nat → Int) → Prop} {r : Nat} {tr : TypeId} {nr x : Nat} {tx : TypeId} {cx : List Value} {v v' : World} (h : FRel w b t n P r tr nr x tx cx v) (hb : Below v.heap.size v v') : FRel w b t n P r tr nr x tx cx v' := by
  obtain ⟨s, h1, h2⟩ := h.o
  exact ⟨⟨s, h1.up hb, h2⟩, h.z.up hb, h.x.up hb, bchain h.b hb⟩
theorem FRel.weak {w : World} {b : Nat} {t : TypeId} {n : Nat} {P P' : (Nat → Int) → Prop} {r : Nat} {tr : TypeId} {nr x : Nat} {tx : TypeId} {cx : List Value} {v : World} (h : FRel w b t n P r tr nr x tx cx v) (hp : ∀ s, P s → P' s) : FRel w b t n P' r tr nr x tx cx v := by
  obtain ⟨s, h1, h2⟩ := h.o
  exact ⟨⟨s, h1, hp s h2⟩, h.z, h.x, h.b⟩
theorem FRel.set {w : World} {b : Nat} {t : TypeId} {n : Nat} {P P' : (Nat → Int) → Prop} {r : Nat} {tr : TypeId} {nr x : Nat} {tx : TypeId} {cx : List Value} {v : World} (h : FRel w b t n P r tr nr x tx cx v)
    (o m : Nat) (g : Nat → Int) (hm : o + m ≤ n) (hb : w.heap.size ≤ b) (hr : r ≠ b) (hx : x ≠ b) (hp : ∀ s, P s → P' (fput s o m g)) : FRel w b t n P' r tr nr x tx cx (v.setCells b o (wds m g)) := by
  obtain ⟨s, h1, h2⟩ := h.o
  exact ⟨⟨_, h1.lay o m g hm, hp s h2⟩, BlkV.put hr _ _ _ h.z, BlkV.put hx _ _ _ h.x, below_cells hb _ _ _ h.b⟩
theorem FRel.there {w : World} {b : Nat} {t : TypeId} {n : Nat} {P : (Nat → Int) → Prop} {r : Nat} {tr : TypeId} {nr x : Nat} {tx : TypeId} {cx : List Value} {v : World} (h : FRel w b t n P r tr nr x tx cx v)
    (o m : Nat) (g : Nat → Int) (hm : o + m ≤ n) : v.there b o (wds m g).toArray.size := by
  obtain ⟨s, h1, h2⟩ := h.o
  exact h1.thereW o m g hm
/-- The first k of three elements stand. -/
def VP (X : Nat → Int) (k : Nat) (s : Nat → Int) : Prop := ∀ i, i < k → Ef s (i * 4) (X i)
theorem VP.zero (X : Nat → Int) (s : Nat → Int) : VP X 0 s := fun i hi => absurd hi (Nat.not_lt_zero i)
theorem VP.put {X : Nat → Int} {k : Nat} {s g : Nat → Int} (h : VP X k s) (hg : Ez (.agg (wds 4 g).toArray) (X k)) : VP X (k + 1) (fput s (k * 4) 4 g) := by
  intro i hi
  rcases Nat.lt_or_ge i k with h1 | h1
  · exact (h i h1).putO (Or.inl (by omega))
  · obtain rfl : i = k := by omega
    exact Ef.put _ hg
/-- A new variable, and a row stored into it. -/
theorem newRow (w : World) (t : TypeId) (n : Nat) (g : Nat → Int) : (w.alloc (oF t n z0)).there w.heap.size 0 (wds n g).toArray.size ∧ BlkV ((w.alloc (oF t n z0)).setCells w.heap.size 0 (wds n g)) w.heap.size t (wds n g) ∧
    Below w.heap.size w ((w.alloc (oF t n z0)).setCells w.heap.size 0 (wds n g)) :=
  ⟨(oF_new w t n z0).thereW 0 n g (by omega), (oF_new w t n z0).lay0 g, below_cells (Nat.le_refl _) _ _ _ ((Below.refl _ _).alloc (Nat.le_refl _) _)⟩

end Go.Proofs.YtdepkfdceidikaaGreatDoor
/-
  matrix.Vector.times, Matrix.Apply: what each call does.
-/
namespace Go.Proofs.YtdepkfdceidikaaGreatDoor
open Go.RowKit
set_option linter.unusedVariables false
set_option linter.unusedSimpArgs false


/-- The sum of the first k products. -/
def dotZ (X Y : Nat → Int) : Nat → Int
  | 0 => 0
  | k + 1 => dotZ X Y k + X k * Y k
def EP (X : Int) (s : Nat → Int) : Prop := Ez (.agg (wds 4 s).toArray) X
theorem EP.put {X : Int} {s g : Nat → Int} (hg : Ez (.agg (wds 4 g).toArray) X) : EP X (fput s 0 4 g) := by
  unfold EP
  rw [wds_ext (g := g) fun k hk => by have := @fput_in s g 0 4 k hk; rwa [Nat.zero_add] at this]
  exact hg
theorem EP.zero : EP 0 z0 := (Ef.zero 0).one'
set_option maxRecDepth 20000 in
set_option maxHeartbeats 1000000 in
theorem times_c (f g : Nat → Int) (X Y : Nat → Int) (w : World) (hX : VecZ f X) (hY : VecZ g Y) (hG : Glob w) :
    Calls Tryz.prog 49 #[.agg (wds 12 f).toArray, .agg (wds 12 g).toArray] w fun e w' => ∃ r, e = .returned r ∧ Ez r (dotZ X Y 3) ∧ Below w.heap.size w w' := by
  have hz := zeroE
  have hlz := wds_len 4 z0
  have hlf := wds_len 12 f
  have hlg := wds_len 12 g
  have e1 : (w.alloc (oF 39 12 f)).heap.size = w.heap.size + 1 := by simp
  have e2 : ((w.alloc (oF 39 12 f)).alloc (oF 39 12 g)).heap.size = w.heap.size + 1 + 1 := by simp
  have e3 : (((w.alloc (oF 39 12 f)).alloc (oF 39 12 g)).alloc (oF 37 4 z0)).heap.size = w.heap.size + 1 + 1 + 1 := by simp
  have h1 := (((oF_new w 39 12 f).alloc (oF 39 12 g)).alloc (oF 37 4 z0)).alloc (oF 37 4 z0)
  have h2 := ((oF_new (w.alloc (oF 39 12 f)) 39 12 g).alloc (oF 37 4 z0)).alloc (oF 37 4 z0)
  have h3 := (oF_new ((w.alloc (oF 39 12 f)).alloc (oF 39 12 g)) 37 4 z0).alloc (oF 37 4 z0)
  have h4 := oF_new (((w.alloc (oF 39 12 f)).alloc (oF 39 12 g)).alloc (oF 37 4 z0)) 37 4 z0
  rw [e1] at h2
  rw [e2] at h3
  rw [e3] at h4
  have hb := ((((Below.refl w.heap.size w).alloc (Nat.le_refl _) (oF 39 12 f)).alloc (by omega) (oF 39 12 g)).alloc (by omega) (oF 37 4 z0)).alloc (by omega) (oF 37 4 z0)
  have HO := hid h1.range
  have R0 := hid (show FRel w (w.heap.size + 1 + 1 + 1) 37 4 (EP (dotZ X Y 0)) (w.heap.size + 1 + 1) 37 4 (w.heap.size + 1) 39 (wds 12 g) _ from ⟨⟨z0, h4, EP.zero⟩, h3, h2, hb⟩)
  have HX := hid hX
  have HY := hid hY
  have HG := hid hG
  clear h1 h2 h3 h4 hX hY hG e1 e2 e3 hb
  unfold oF at HO R0
  go_enter Tryz.func49, Tryz.ntmps49
  go_wp2_with (first
    | with_reducible refine wpList_load_mid rfl 39 (.tmp 2) rfl (w.heap.size) (0) rfl (wds 12 f) _ (by with_reducible exact HO.out) Tryz.underlying39 rfl (sizeV _) ?_)
  clear HO
  generalize ((((w.alloc _).alloc _).alloc _).alloc _) = w0 at *
  go_loopw [9] (fun i wr => ∃ k : Nat, k ≤ 3 ∧ i = .int .i64 k ∧ FRel w (w.heap.size + 1 + 1 + 1) 37 4 (EP (dotZ X Y k)) (w.heap.size + 1 + 1) 37 4 (w.heap.size + 1) 39 (wds 12 g) wr) (fun i _ => 3 - (intOf i).toNat)
  case atStart => exact ⟨0, by omega, rfl, R0.out⟩
  case round =>
    clear R0
    obtain ⟨k, hk, rfl, hrel⟩ := hrel
    by_cases hlt : k < 3
    · have i0 : (0 : Int) ≤ (k : Int) := by omega
      have i2 : (k : Int) < 3 := by omega
      have hix := index_v wr f hlt
      obtain ⟨a, ha⟩ : ∃ a : Nat → Int, a = fun m => f (k * 4 + m) := ⟨_, rfl⟩
      obtain ⟨c, hc⟩ : ∃ c : Nat → Int, c = fun m => g (k * 4 + m) := ⟨_, rfl⟩
      rw [← ha] at hix
      have HA : Hid (Ez (.agg (wds 4 a).toArray) (X k)) := by rw [ha]; exact HX.out.el hlt
      have HC : Hid (Ez (.agg (wds 4 c).toArray) (Y k)) := by rw [hc]; exact HY.out.el hlt
      obtain ⟨n1, n2, n3⟩ := newRow wr 37 4 a
      have hr1 := hrel.up n3
      have hlt1 := hrel.b.size
      have N1 := hid n1
      have hla := wds_len 4 a
      have hco := hr1.x.sub (k * 4) 4 (by omega)
      rw [← hc] at hco
      have HSb : Hid (∀ v, BlkV v (w.heap.size + 1) 39 (wds 12 g) → v.rangeAt (w.heap.size + 1) (k * 4) (wds 4 c)) := fun v hv => by rw [hc]; exact hv.sub (k * 4) 4 (by omega)
      obtain ⟨s, hs1, hs2⟩ := hr1.o
      have HS2 : Hid (Ez (.agg (wds 4 s).toArray) (dotZ X Y k)) := hid hs2
      have HN2 := hid n2
      have HR1 := hid hr1
      have HS1 := hid hs1
      have LT : Hid (w.heap.size + 1 + 1 + 1 < wr.heap.size) := by obtain ⟨_, h, _⟩ := hrel.o; exact h.size
      clear n1 n2 n3 hrel hr1 ha hc hco hs1 hs2
      unfold oF at N1 HN2 HR1 HS1
      go_wp2_with (first
    | with_reducible refine wpList_store_mid rfl 37 (.tmp 7) (.tmp 12) rfl (wr.heap.size) (0) (wds 4 a).toArray rfl rfl (by with_reducible exact N1.out) (sizeEA _) (wds_all _ _) ?_)

      obtain ⟨w1, hw1⟩ : ∃ v, v = (wr.alloc (.cells (wds 4 z0).toArray 37)).setCells wr.heap.size 0 (wds 4 a) := ⟨_, rfl⟩
      rw [← hw1] at HN2 HR1 HS1 ⊢
      obtain ⟨bt, hbt⟩ : ∃ b, b = wr.heap.size := ⟨_, rfl⟩
      rw [← hbt] at HN2 LT ⊢
      have hlt2 : w.heap.size + 1 + 1 + 1 < bt := LT.out
      clear hw1 hbt N1
      have hr0 := FRel.up HR1.out (Below.refl _ _).drew
      have hn0 := HN2.out.up (Below.refl _ _).drew
      have hs0 := HS1.out.up (Below.refl _ _).drew
      refine wp_region_held_drew (S := fun v => BlkV v (w.heap.size + 1) 39 (wds 12 g) ∧ BlkV v bt 37 (wds 4 a)) (by kernel_rfl) ⟨(hr0).x, hn0⟩ (fun hHeld => ?_)
      refine wpAnyH_take (i := 1) (v := .agg (wds 4 a).toArray) rfl (by kernel_rfl) (by kernel_rfl) (by kernel_rfl) (fun _ _ _ h => h) (yieldsIf_load_mid (by rfl) 37 (.tmp 7) rfl (bt) (0) rfl (wds 4 a) _ (fun v hv => hv.2.range) Tryz.underlying37 rfl (sizeE _)) (by with_reducible assumption) ?_
      simp only [Act.put, List.setIfInBounds_toArray, List.set_cons_zero, List.set_cons_succ, List.getElem_toArray, List.getElem_cons_zero, List.getElem_cons_succ]
      refine wpAnyH_take (i := 2) (v := ?_) rfl (by kernel_rfl) (by kernel_rfl) (by kernel_rfl) (fun _ _ _ h => h) (Or.inl ⟨by rfl, fun v hv => ?_⟩) (by with_reducible assumption) ?_
      rotate_left
      · go_simp
        try with_reducible rfl
      simp only [Act.put, List.setIfInBounds_toArray, List.set_cons_zero, List.set_cons_succ, List.getElem_toArray, List.getElem_cons_zero, List.getElem_cons_succ]
      refine wpAnyH_take (i := 3) (v := ?_) rfl (by kernel_rfl) (by kernel_rfl) (by kernel_rfl) (fun _ _ _ h => h) (Or.inl ⟨by rfl, fun v hv => ?_⟩) (by with_reducible assumption) ?_
      rotate_left
      · go_simp
        try with_reducible rfl
      simp only [Act.put, List.setIfInBounds_toArray, List.set_cons_zero, List.set_cons_succ, List.getElem_toArray, List.getElem_cons_zero, List.getElem_cons_succ]
      refine wpAnyH_take (i := 4) (v := .agg (wds 4 c).toArray) rfl (by kernel_rfl) (by kernel_rfl) (by kernel_rfl) (fun _ _ _ h => h) (yieldsIf_load_mid (by rfl) 37 (.tmp 16) rfl (w.heap.size + 1) (k * 4) rfl (wds 4 c) _ (fun v hv => HSb.out v hv.1) Tryz.underlying37 rfl (sizeE _)) (by with_reducible assumption) ?_
      simp only [Act.put, List.setIfInBounds_toArray, List.set_cons_zero, List.set_cons_succ, List.getElem_toArray, List.getElem_cons_zero, List.getElem_cons_succ]
      refine wpAnyH_ready (rs := [0, 5]) (by kernel_rfl) (by simp) ?_
      refine (AllReadyH.cons rfl (fun K hK => ?_) (AllReadyH.cons rfl (fun K hK => ?_) AllReadyH.nil))
      · refine ready_go (by rfl) ?_
        refine wp_load_mid 37 (.tmp 5) rfl (w.heap.size + 1 + 1 + 1) (0) rfl (wds 4 s) _ ((hs0).range) Tryz.underlying37 rfl (sizeE _) ?_
        refine hK.out _ _ (⟨(hr0).x, hn0⟩) (fun hHeld => ?_)
        clear hK K
        try simp only [Act.put, List.setIfInBounds_toArray, List.set_cons_zero, List.set_cons_succ, List.getElem_toArray, List.getElem_cons_zero, List.getElem_cons_succ]
        refine wpAnyH_ready (rs := [5]) (by kernel_rfl) (by simp) ?_
        refine (AllReadyH.cons rfl (fun K hK => ?_) AllReadyH.nil)
        go_simp
        go_at_call 45
        with_reducible refine (emulZ_c _ _ _ _ w1.drew HA.out HC.out (HG.out.up (hr0).b)).mono ?_
        rintro e wq2 ⟨_, rfl, he1, hbq2⟩
        have hr_q2 := (hr0).up hbq2
        have hn_q2 := (hn0).up hbq2
        have hs_q2 := (hs0).up hbq2
        try dsimp only
        refine hK.out _ _ (⟨(hr_q2).x, hn_q2⟩) (fun hHeld => ?_)
        clear hK K
        try simp only [Act.put, List.setIfInBounds_toArray, List.set_cons_zero, List.set_cons_succ, List.getElem_toArray, List.getElem_cons_zero, List.getElem_cons_succ]
        refine wpAnyH_ready (rs := [6]) (by kernel_rfl) (by simp) ?_
        refine (AllReadyH.cons rfl (fun K hK => ?_) AllReadyH.nil)
        go_simp
        go_at_call 21
        with_reducible refine (eaddZ_c _ _ _ _ wq2 HS2.out he1 (HG.out.up (hr_q2).b)).mono ?_
        rintro e wq3 ⟨_, rfl, he2, hbq3⟩
        have hr_q3 := (hr_q2).up hbq3
        have hn_q3 := (hn_q2).up hbq3
        have hs_q3 := (hs_q2).up hbq3
        obtain ⟨gr, rfl⟩ := he2.fn
        try dsimp only
        refine hK.out _ _ (⟨(hr_q3).x, hn_q3⟩) (fun hHeld => ?_)
        clear hK K
        try simp only [Act.put, List.setIfInBounds_toArray, List.set_cons_zero, List.set_cons_succ, List.getElem_toArray, List.getElem_cons_zero, List.getElem_cons_succ]
        refine wpAnyH_ready (rs := [7]) (by kernel_rfl) (by simp) ?_
        refine (AllReadyH.cons rfl (fun K hK => ?_) AllReadyH.nil)
        refine ready_go (by rfl) ?_
        refine wp_store_mid 37 (.tmp 5) (.tmp 19) rfl (w.heap.size + 1 + 1 + 1) (0) (wds 4 gr).toArray rfl rfl ((hr_q3).there 0 4 gr (by decide)) (sizeEA _) (wds_all _ _) ?_
        have hstq4 := (hr_q3).set (P' := EP (dotZ X Y (k + 1))) 0 4 gr (by decide) (by omega) (by omega) (by omega) (fun _ _ => EP.put he2)
        have hnstq4 := BlkV.put (show bt ≠ w.heap.size + 1 + 1 + 1 by omega) (wds 4 gr) 0 _ hn_q3
        refine hK.out _ _ (⟨(hstq4).x, hnstq4⟩) (fun hHeld => ?_)
        clear hK K
        try simp only [Act.put, List.setIfInBounds_toArray, List.set_cons_zero, List.set_cons_succ, List.getElem_toArray, List.getElem_cons_zero, List.getElem_cons_succ]
        refine wpAnyH_done (by kernel_rfl) ?_ _
        go_wp2_with fail
        go_roundw
        case rel => exact ⟨k + 1, by omega, by go_num, hstq4⟩
        case measure => simp [intOf]; omega
      · go_simp
        go_at_call 45
        with_reducible refine (emulZ_c _ _ _ _ w1.drew HA.out HC.out (HG.out.up (hr0).b)).mono ?_
        rintro e wq5 ⟨_, rfl, he1, hbq5⟩
        have hr_q5 := (hr0).up hbq5
        have hn_q5 := (hn0).up hbq5
        have hs_q5 := (hs0).up hbq5
        try dsimp only
        refine hK.out _ _ (⟨(hr_q5).x, hn_q5⟩) (fun hHeld => ?_)
        clear hK K
        try simp only [Act.put, List.setIfInBounds_toArray, List.set_cons_zero, List.set_cons_succ, List.getElem_toArray, List.getElem_cons_zero, List.getElem_cons_succ]
        refine wpAnyH_ready (rs := [0]) (by kernel_rfl) (by simp) ?_
        refine (AllReadyH.cons rfl (fun K hK => ?_) AllReadyH.nil)
        refine ready_go (by rfl) ?_
        refine wp_load_mid 37 (.tmp 5) rfl (w.heap.size + 1 + 1 + 1) (0) rfl (wds 4 s) _ ((hs_q5).range) Tryz.underlying37 rfl (sizeE _) ?_
        refine hK.out _ _ (⟨(hr_q5).x, hn_q5⟩) (fun hHeld => ?_)
        clear hK K
        try simp only [Act.put, List.setIfInBounds_toArray, List.set_cons_zero, List.set_cons_succ, List.getElem_toArray, List.getElem_cons_zero, List.getElem_cons_succ]
        refine wpAnyH_ready (rs := [6]) (by kernel_rfl) (by simp) ?_
        refine (AllReadyH.cons rfl (fun K hK => ?_) AllReadyH.nil)
        go_simp
        go_at_call 21
        with_reducible refine (eaddZ_c _ _ _ _ wq5 HS2.out he1 (HG.out.up (hr_q5).b)).mono ?_
        rintro e wq7 ⟨_, rfl, he2, hbq7⟩
        have hr_q7 := (hr_q5).up hbq7
        have hn_q7 := (hn_q5).up hbq7
        have hs_q7 := (hs_q5).up hbq7
        obtain ⟨gr, rfl⟩ := he2.fn
        try dsimp only
        refine hK.out _ _ (⟨(hr_q7).x, hn_q7⟩) (fun hHeld => ?_)
        clear hK K
        try simp only [Act.put, List.setIfInBounds_toArray, List.set_cons_zero, List.set_cons_succ, List.getElem_toArray, List.getElem_cons_zero, List.getElem_cons_succ]
        refine wpAnyH_ready (rs := [7]) (by kernel_rfl) (by simp) ?_
        refine (AllReadyH.cons rfl (fun K hK => ?_) AllReadyH.nil)
        refine ready_go (by rfl) ?_
        refine wp_store_mid 37 (.tmp 5) (.tmp 19) rfl (w.heap.size + 1 + 1 + 1) (0) (wds 4 gr).toArray rfl rfl ((hr_q7).there 0 4 gr (by decide)) (sizeEA _) (wds_all _ _) ?_
        have hstq8 := (hr_q7).set (P' := EP (dotZ X Y (k + 1))) 0 4 gr (by decide) (by omega) (by omega) (by omega) (fun _ _ => EP.put he2)
        have hnstq8 := BlkV.put (show bt ≠ w.heap.size + 1 + 1 + 1 by omega) (wds 4 gr) 0 _ hn_q7
        refine hK.out _ _ (⟨(hstq8).x, hnstq8⟩) (fun hHeld => ?_)
        clear hK K
        try simp only [Act.put, List.setIfInBounds_toArray, List.set_cons_zero, List.set_cons_succ, List.getElem_toArray, List.getElem_cons_zero, List.getElem_cons_succ]
        refine wpAnyH_done (by kernel_rfl) ?_ _
        go_wp2_with fail
        go_roundw
        case rel => exact ⟨k + 1, by omega, by go_num, hstq8⟩
        case measure => simp [intOf]; omega
    · obtain rfl : k = 3 := by omega
      obtain ⟨⟨r, h1, h2⟩, h3, h4, h5⟩ := hrel
      have HO := hid h1.range
      have HV := hid h2
      have HT := hid (h3.thereW 0 4 r (by decide))
      have HR := hid (h3.lay0 r).range
      have HB := hid (below_cells (show w.heap.size ≤ w.heap.size + 1 + 1 by omega) (wds 4 r) 0 _ h5)
      clear h1 h2 h3 h4 h5 HX HY HG
      go_wp2_with (first
    | with_reducible refine wpList_load_mid rfl 37 (.tmp 5) rfl (w.heap.size + 1 + 1 + 1) (0) rfl (wds 4 r) _ (by with_reducible exact HO.out) Tryz.underlying37 rfl (sizeE _) ?_
    | with_reducible refine wpList_store_mid rfl 37 (.tmp 4) (.tmp 21) rfl (w.heap.size + 1 + 1) (0) (wds 4 r).toArray rfl rfl (by with_reducible exact HT.out) (sizeEA _) (wds_all _ _) ?_)
      refine bodyPost_ret (results_cell1 Tryz.results49 ⟨w.heap.size + 1 + 1, 0, none⟩ _ rfl (run_loadVar_mid _ (w.heap.size + 1 + 1) 0 37 (wds 4 r) _ HR.out Tryz.underlying37 rfl (sizeE _))) rfl ?_
      exact ⟨_, rfl, HV.out, HB.out⟩
end Go.Proofs.YtdepkfdceidikaaGreatDoor
