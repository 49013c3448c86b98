/-
  avouchlaw04.WideFermat: the walk.
-/
import Derived.Test.YtfonpmahcdmajaaDoorWidU
import Derived.Test.YtfonpmahcdmajaaDoorQFin
import Derived.Deep.RegionHeld3
import Derived.Deep.CutBlock
import Derived.Deep.DeepCutAuto
namespace Go.Proofs.YtfonpmahcdmajaaDoor
open Go.RowKit
set_option linter.unusedVariables false
set_option linter.unusedSimpArgs false

theorem prm_mOf (g : Bool) : Prm (mOf g) := by
  cases g
  · have e : mOf false = qN := by kernel_rfl
    rw [e]; exact prm_q
  · have e : mOf true = pNN := by kernel_rfl
    rw [e]; exact prm_p
theorem fer_num (g : Bool) (X : Nat) : mExp g X (mOf g - 1) = if mMul g X 1 = 0 then 0 else 1 := by
  have hp := prm_mOf g
  have h1 : (mOf g - 1) % W12 = mOf g - 1 := Nat.mod_eq_of_lt (by have := mOf_lt g; omega)
  have h2 : mMul g X 1 = X % W12 % mOf g := by
    unfold mMul
    rw [Nat.mod_eq_of_lt (show 1 < W12 by decide), Nat.mul_one]
  rw [h2]
  unfold mExp
  rw [h1, Nat.pow_mod]
  by_cases c : X % W12 % mOf g = 0
  · rw [if_pos c, c, Nat.zero_pow (by have := hp.1; omega), Nat.zero_mod]
  · rw [if_neg c]
    exact fermat_prm hp _ (Nat.pos_of_ne_zero c) (Nat.mod_lt _ (mOf_pos g))
theorem exp_exp (g : Bool) (X x y : Nat) (hx : x < 4294967296) (hy : y < 4294967296) : mExp g (mExp g X x) y = mExp g X (x * y) := by
  have h0 := Nat.mod_eq_of_lt (mExp_lt g X x)
  have hxy : x * y ≤ 4294967296 * 4294967296 := Nat.mul_le_mul (by omega) (by omega)
  have hW : 4294967296 * 4294967296 < W12 := by decide
  have e1 : mExp g (mExp g X x) y = (mExp g X x % W12) ^ (y % W12) % mOf g := rfl
  rw [e1, h0]
  unfold mExp
  rw [Nat.mod_eq_of_lt (show x < W12 by omega), Nat.mod_eq_of_lt (show y < W12 by omega), Nat.mod_eq_of_lt (show x * y < W12 by omega), ← Nat.pow_mod, Nat.pow_mul]
theorem mul_exp (g : Bool) (X x y : Nat) (hx : x < 4294967296) (hy : y < 4294967296) : mMul g (mExp g X x) (mExp g X y) = mExp g X (x + y) := by
  have h0 := Nat.mod_eq_of_lt (mExp_lt g X x)
  have h1 := Nat.mod_eq_of_lt (mExp_lt g X y)
  have hW : 4294967296 * 4294967296 < W12 := by decide
  have e1 : mMul g (mExp g X x) (mExp g X y) = (mExp g X x % W12) * (mExp g X y % W12) % mOf g := rfl
  rw [e1, h0, h1]
  unfold mExp
  rw [Nat.mod_eq_of_lt (show x < W12 by omega), Nat.mod_eq_of_lt (show y < W12 by omega), Nat.mod_eq_of_lt (show x + y < W12 by omega), ← Nat.mul_mod, Nat.pow_add]
theorem conv32 (x : Nat) (h : x < 4294967296) (v : World) : (convert 25 22 (.int .u32 (x : Int))).run Tryd.prog v = .ok (.int .u64 (x : Int)) v := by
  have hw : IntKind.u64.wrap (x : Int) = (x : Int) := by rw [IntKind.wrap_u64]; omega
  simp [convert, run_underlying Tryd.underlying22, run_underlying Tryd.underlying25, go_sem, hw]
/-- One less. -/
theorem ds_last (g : Bool) : ∃ hi lo : Nat, at64 (ds (mOf g)) 0 = (hi : Int) ∧ IntKind.u64.wrap ((hi : Int) - 1) = (lo : Int) ∧ lo < 18446744073709551616 ∧ (ds (mOf g)).set 0 lo = ds (mOf g - 1) := by
  cases g
  · exact ⟨9223372036854775807, 9223372036854775806, by decide +kernel, by decide +kernel, by decide, by decide +kernel⟩
  · exact ⟨18446744073709551615, 18446744073709551614, by decide +kernel, by decide +kernel, by decide, by decide +kernel⟩
/-- A number laid into a new variable. -/
theorem layF (w : World) (X : Nat) :
    ∃ w1, (storeCells ⟨w.heap.size, 0, none⟩ (cellsOf64 (ds X))).run Tryd.prog (w.alloc (z12 24)) = .ok () w1 ∧ BlkW w1 w.heap.size 24 (ds X) ∧ Below w.heap.size w w1 := by
  have hA := z12_new w 24
  have hb0 := (Below.refl w.heap.size w).alloc (Nat.le_refl _) (z12 24)
  obtain ⟨s1, r1⟩ := num_stored (X := X) hA
  refine ⟨_, s1, ⟨?_, ds_lt X⟩, below_cells (Nat.le_refl _) _ _ _ hb0⟩
  have key : ∀ (l old done : List Nat) (v : World), v.heap[w.heap.size]? = some (.cells (cellsOf64 (done ++ old)).toArray 24 (0, 0)) → l.length = old.length →
      (v.setCells w.heap.size done.length (cellsOf64 l)).heap[w.heap.size]? = some (.cells (cellsOf64 (done ++ l)).toArray 24 (0, 0)) := by
    intro l
    induction l with
    | nil =>
      intro old done v h hl
      have : old = [] := List.eq_nil_of_length_eq_zero (by simpa using hl.symm)
      subst this
      exact h
    | cons x l ih =>
      intro old done v h hl
      match old, hl with
      | y :: old, hl =>
        have h' : (v.setCell ⟨w.heap.size, done.length, none⟩ (.int .u64 (x : Int))).heap[w.heap.size]? = some (.cells (cellsOf64 ((done ++ [x]) ++ old)).toArray 24 (0, 0)) := by
          simp [World.setCell, Array.getElem?_modify, h, cellsOf64]
        have ih' := ih old (done ++ [x]) _ h' (by simpa using hl)
        rw [List.length_append, List.length_singleton, List.append_assoc] at ih'
        exact ih'
  exact key (ds X) (List.replicate 12 0) [] (w.alloc (z12 24)) hA.heap (by rw [ds_len, List.length_replicate])
/-- What is kept: the number, the exponents, what is wanted, and a ring. -/
structure EnvT4 (w : World) (b1 b2 b3 b4 b5 br X L K x y M : Nat) (v : World) : Prop where
  a : BlkW v b1 24 (ds X)
  l : BlkW v b2 24 (ds L)
  k : BlkW v b3 24 (ds K)
  e : BlkW v b4 24 (ds x)
  f : BlkW v b5 24 (ds y)
  r : RingP v br M
  b : Below w.heap.size w v
theorem EnvT4.up {w : World} {b1 b2 b3 b4 b5 br X L K x y M : Nat} {v v' : World} (h : EnvT4 w b1 b2 b3 b4 b5 br X L K x y M v) (hb : Below v.heap.size v v') : EnvT4 w b1 b2 b3 b4 b5 br X L K x y M v' :=
  ⟨h.a.below hb h.a.size, h.l.below hb h.l.size, h.k.below hb h.k.size, h.e.below hb h.e.size, h.f.below hb h.f.size, h.r.up hb, bchain h.b hb⟩
/-- The same ahead of the exponents. -/
structure EnvT3 (w v5 : World) (b1 b2 b3 br X L K M : Nat) (v : World) : Prop where
  a : BlkW v b1 24 (ds X)
  l : BlkW v b2 24 (ds L)
  k : BlkW v b3 24 (ds K)
  r : RingP v br M
  b : Below w.heap.size w v
  c : Below v5.heap.size v5 v
theorem EnvT3.up {w v5 : World} {b1 b2 b3 br X L K M : Nat} {v v' : World} (h : EnvT3 w v5 b1 b2 b3 br X L K M v) (hb : Below v.heap.size v v') : EnvT3 w v5 b1 b2 b3 br X L K M v' :=
  ⟨h.a.below hb h.a.size, h.l.below hb h.l.size, h.k.below hb h.k.size, h.r.up hb, bchain h.b hb, bchain h.c hb⟩
theorem EnvT3.four {w v5 : World} {b1 b2 b3 br X L K M : Nat} {v : World} (h : EnvT3 w v5 b1 b2 b3 br X L K M v) (x y : Nat) :
    EnvT4 w b1 b2 b3 v.heap.size (v.heap.size + 1) br X L K x y M ((v.alloc (o12 24 x)).alloc (o12 24 y)) := by
  have e1 : (v.alloc (o12 24 x)).heap.size = v.heap.size + 1 := by simp
  have h2 := o12_new (v.alloc (o12 24 x)) 24 y
  rw [e1] at h2
  have hb := ((Below.refl v.heap.size v).alloc (Nat.le_refl _) (o12 24 x)).alloc (by omega) (o12 24 y)
  have h' := h.up hb
  exact ⟨h'.a, h'.l, h'.k, (o12_new v 24 x).alloc _, h2, h'.r, h'.b⟩
/-- Words stored over a block from its start on. -/
theorem setCells_blkW {b : Nat} {t : TypeId} : ∀ (l old done : List Nat) {w : World}, w.heap[b]? = some (.cells (cellsOf64 (done ++ old)).toArray t (0, 0)) → l.length = old.length →
    (w.setCells b done.length (cellsOf64 l)).heap[b]? = some (.cells (cellsOf64 (done ++ l)).toArray t (0, 0))
  | [], [], done, w, h, _ => h
  | [], _ :: _, _, _, _, hl => by simp at hl
  | _ :: _, [], _, _, _, hl => by simp at hl
  | x :: l, y :: old, done, w, h, hl => by
    have h' : (w.setCell ⟨b, done.length, none⟩ (.int .u64 (x : Int))).heap[b]? = some (.cells (cellsOf64 ((done ++ [x]) ++ old)).toArray t (0, 0)) := by
      simp [World.setCell, Array.getElem?_modify, h, cellsOf64]
    have ih := setCells_blkW l old (done ++ [x]) h' (by simpa using hl)
    rw [List.length_append, List.length_singleton, List.append_assoc] at ih
    exact ih
theorem blk_over {b : Nat} {t : TypeId} {w : World} {X Y : Nat} (h : BlkW w b t (ds X)) : BlkW (w.setCells b 0 (cellsOf64 (ds Y))) b t (ds Y) := by
  have h2 := setCells_blkW (w := w) (b := b) (t := t) (ds Y) (ds X) [] h.heap (by rw [ds_len, ds_len])
  simp only [List.nil_append, List.length_nil] at h2
  exact ⟨h2, ds_lt Y⟩
/-- What comes behind the exponents' variables. -/
theorem o12_small (t : TypeId) (x : Nat) (h : x < 18446744073709551616) : o12 t x = .cells #[.int .u64 (x : Int), .int .u64 0, .int .u64 0, .int .u64 0, .int .u64 0, .int .u64 0, .int .u64 0, .int .u64 0, .int .u64 0, .int .u64 0, .int .u64 0, .int .u64 0] t := by
  have e := num_one x h
  unfold num at e
  unfold o12
  injection e with e
  rw [e]

set_option maxRecDepth 100000 in
set_option maxHeartbeats 8000000 in
theorem wideFermat_w (g : Bool) (X x y : Nat) (w : World) (hX : X < W12) (hx : x < 4294967296) (hy : y < 4294967296) (hG : GlobW w) :
    Calls Tryd.prog 3 #[.bool g, num X, .int .u32 x, .int .u32 y] w fun e w' => e = .returned (.bool true) ∧ Below w.heap.size w w' := by
  have hlX := dsc_len X
  have HA := hid (o12_new w 24 X)
  have HL0 := hid ((Below.refl w.heap.size w).alloc (Nat.le_refl _) (o12 24 X))
  have hG0 := hG.up HL0.out
  have HX := hid hX
  have HXX := hid hx
  have HYY := hid hy
  clear hX hG hx hy
  unfold num
  go_enter Tryd.func3, Tryd.ntmps3
  go_wp2_with fail
  change Calls _ _ _ (w.alloc (o12 24 X)) _
  generalize w.alloc (o12 24 X) = w0 at *
  clear hlX
  refine (speaks4_c w0 hG0).mono ?_
  rintro e w1 ⟨rfl, b1⟩
  go_wp2_with fail
  refine (ring_c g w1 (hG0.up b1)).mono ?_
  rintro e w2 ⟨br, rfl, hr, b2⟩
  have b02 := bchain b1 b2
  have HR2 := hid hr
  clear hr b1 b2 hG0
  obtain ⟨M, hM⟩ : ∃ M, M = mOf g := ⟨_, rfl⟩
  have HM := hid hM
  have HML : Hid (M < W12) := hid (by rw [hM]; exact mOf_lt g)
  rw [← hM] at HR2
  clear hM
  go_wp2_with fail
  refine (size_c br M w2 HR2.out HML).mono ?_
  rintro e w3 ⟨rfl, b3⟩
  obtain ⟨w4, s4, x4, b4⟩ := layF w3 M
  have hlen := dsc_len M
  have b24 := bchain b3 b4
  have b04 := bchain b02 b24
  have HR4 := hid (HR2.out.up b24)
  have HA4 := hid (HA.out.below b04 HA.out.size)
  have HL4 := hid (HL0.out.trans (b04.mono HL0.out.size))
  obtain ⟨hi, lo, d1, d2, d3, d4⟩ : ∃ hi lo : Nat, at64 (ds M) 0 = (hi : Int) ∧ IntKind.u64.wrap ((hi : Int) - 1) = (lo : Int) ∧ lo < 18446744073709551616 ∧ (ds M).set 0 lo = ds (M - 1) := by rw [HM.out]; exact ds_last g
  have hne : w.heap.size ≠ w3.heap.size := by have h1 := HA.out.size; have h2 := b02.size; have h3 := b3.size; omega
  have c0 := x4.cell (i := 0) (by rw [ds_len]; decide)
  rw [d1] at c0
  have f0 := x4.frozen 0
  have x5 := x4.setI 0 lo (lo : Int) d3 rfl
  rw [d4] at x5
  have HX5 := hid x5
  have HA5 := hid (HA4.out.otherC (v := .int .u64 (lo : Int)) (i := 0) hne)
  have b5 : Below w4.heap.size w4 w4 := Below.refl _ _
  have HL5 := hid (HL4.out.setCell (p := ⟨w3.heap.size, 0, none⟩) (by have h1 := HA.out.size; have h2 := b02.size; have h3 := b3.size; show w.heap.size ≤ w3.heap.size; omega) (.int .u64 (lo : Int)))
  have HR5 : Hid (RingP (w4.setCell ⟨w3.heap.size, 0, none⟩ (.int .u64 (lo : Int))) br M) := by
    have hb := (b4.setCell (p := ⟨w3.heap.size, 0, none⟩) (Nat.le_refl _) (.int .u64 (lo : Int)))
    exact (HR2.out.up b3).up hb
  clear x4 x5 b24 b04 b3 b4 b02 hne b5 HA HL0 HR2 HR4 HA4 HL4 d1 d3 d4
  unfold num z12 at *
  go_wp2_with fail
  clear c0 f0 d2 s4 hlen
  generalize hv5 : w4.setCell ⟨w3.heap.size, 0, none⟩ (.int .u64 (lo : Int)) = v5 at *
  have hsz : w4.heap.size = v5.heap.size := by rw [← hv5]; simp
  rw [hsz]
  change Code.wp _ _ _ _ (v5.alloc (o12 24 1))
  have HN1 : Hid (w.heap.size < v5.heap.size ∧ w3.heap.size < v5.heap.size) := hid ⟨HA5.out.size, HX5.out.size⟩
  have E6 : EnvT3 w v5 w.heap.size w3.heap.size v5.heap.size br X (M - 1) 1 M (v5.alloc (o12 24 1)) := by
    have hb := (Below.refl v5.heap.size v5).alloc (Nat.le_refl _) (o12 24 1)
    exact ⟨HA5.out.below hb HA5.out.size, HX5.out.below hb HX5.out.size, o12_new v5 24 1, HR5.out.up hb, HL5.out.trans (hb.mono HL5.out.size), hb⟩
  have E7 := E6.up (Below.refl _ _).drew
  clear E6 hv5 hsz
  generalize v5.alloc (o12 24 1) = w6 at *
  generalize hb11 : v5.heap.size = b11 at *
  generalize w3.heap.size = b10 at *
  generalize hb1 : w.heap.size = b1 at *
  obtain ⟨z, hz⟩ : ∃ z, z = decide (0 = mMul g X 1) := ⟨_, rfl⟩
  have HZ := hid hz
  clear hz
  go_cut [31] (fun s wx => s = .bool z ∧ EnvT3 w v5 b1 b10 b11 br X (M - 1) 1 M wx)
  case first =>
    obtain ⟨n12, hn12⟩ : ∃ n : Nat, n = 12 := ⟨_, rfl⟩
    obtain ⟨m1, hm1⟩ : ∃ m1, m1 = mMul g X 1 := ⟨_, rfl⟩
    have lm1 : m1 < W12 := by rw [hm1]; exact mMul_lt g X 1
    have L1 : ∀ v, EnvT3 w v5 b1 b10 b11 br X (M - 1) 1 M v → (loadCellsFrom ⟨b1, 0, none⟩ 0 n12 #[]).run Tryd.prog v = .ok (cellsOf64 (ds X)).toArray v := fun v h => by rw [hn12]; exact cells_num h.a
    have CR : ∀ v, RingP v br M → Calls Tryd.prog 12 #[.pointer (some ⟨br, 0, none⟩), .slice none 0 0] v fun e w' => e = .returned (.agg (cellsOf64 (ds 0)).toArray) ∧ Below v.heap.size v w' := fun v h => by
      have := rReduce_c br M none 0 0 [] v h (Rd8.nil _ _ _) (by decide) HML.out
      rw [val_nil, Nat.zero_mod] at this
      exact this
    have CM : ∀ v, RingP v br M → Calls Tryd.prog 13 #[.pointer (some ⟨br, 0, none⟩), .agg (cellsOf64 (ds X)).toArray, .agg #[.int .u64 1, .int .u64 0, .int .u64 0, .int .u64 0, .int .u64 0, .int .u64 0, .int .u64 0, .int .u64 0, .int .u64 0, .int .u64 0, .int .u64 0, .int .u64 0]] v fun e w' => e = .returned (.agg (cellsOf64 (ds m1)).toArray) ∧ Below v.heap.size v w' := fun v h => by
      rw [hm1, ← num_1]
      exact wMul_c br X 1 g v (HM.out ▸ h)
    have F1 : ∀ v, (Op.equalIn 10000 24 (.agg (cellsOf64 (ds 0)).toArray) (.agg (cellsOf64 (ds m1)).toArray)).run Tryd.prog v = .ok z v := fun v => by
      rw [HZ.out, ← hm1]
      exact num_eq v 0 m1 (by decide) lm1
    have G1 := agg_num
    have G2 : ∀ v, (sizeOf 24).run Tryd.prog v = .ok n12 v := by rw [hn12]; exact size_num
    have G3 := Tryd.eqGuardType24
    have G4 := zero_num
    have G5 := under_num
    have G6 := sz64
    have N1 := Tryd.call12
    have N2 := Tryd.call13
    clear hn12 HZ hm1 lm1 HX HXX HYY HM HML HN1 HA5 HX5 HR5 HL5 hb1 hb11
    generalize cellsOf64 (ds 0) = c0 at *
    generalize Tryd.prog = P at CR CM L1 F1 G1 G2 G3 G4 G5 G6 N1 N2 ⊢
    go_region_held3 (fun w' => EnvT3 w v5 b1 b10 b11 br X (M - 1) 1 M w') (with_reducible assumption) (first
      | (go_at_call 12; with_reducible refine (CR _ (EnvT3.r (by with_reducible assumption))).mono ?_; rintro e v ⟨rfl, hb⟩; have hE := EnvT3.up (by with_reducible assumption) hb; dsimp only)
      | (go_at_call 13; with_reducible refine (CM _ (EnvT3.r (by with_reducible assumption))).mono ?_; rintro e v ⟨rfl, hb⟩; have hE := EnvT3.up (by with_reducible assumption) hb; dsimp only))
    go_wp2_with fail
    go_meet
    exact ⟨rfl, hE⟩
  case rest =>
  obtain ⟨rfl, hE⟩ := hcut
  clear E7
  have cz : Hid (∀ x : Nat, x < 4294967296 → ((x : Nat) : Int) % 4294967296 = x) := hid (fun x h => by omega)
  have HF := hid (fer_num g X)
  obtain ⟨v0, hv0⟩ : ∃ v, v = wc := ⟨_, rfl⟩
  rw [← hv0] at hE ⊢
  clear hv0
  by_cases hz : 0 = mMul g X 1
  · obtain rfl : z = true := by rw [HZ.out]; exact decide_eq_true hz
    have HK : Hid (mExp g X (mOf g - 1) = 0) := hid (by rw [HF.out, if_pos hz.symm])
    have HT : Hid (v0.there b11 0 (#[.int .u64 0, .int .u64 0, .int .u64 0, .int .u64 0, .int .u64 0, .int .u64 0, .int .u64 0, .int .u64 0, .int .u64 0, .int .u64 0, .int .u64 0, .int .u64 0] : Array Value).size) := hid (by have := hE.k.there; rw [ds_len] at this; exact this)
    have EE : Hid (EnvT3 w v5 b1 b10 b11 br X (M - 1) 0 M (v0.setCells b11 0 [.int .u64 0, .int .u64 0, .int .u64 0, .int .u64 0, .int .u64 0, .int .u64 0, .int .u64 0, .int .u64 0, .int .u64 0, .int .u64 0, .int .u64 0, .int .u64 0])) := by
      have hc := below_cells (b := b11) (B := v5.heap.size) (by rw [hb11]; exact Nat.le_refl _) (cellsOf64 (ds 0)) 0 v0 hE.c
      have hk := blk_over (Y := 0) hE.k
      rw [cells_zero] at hc hk
      have hn := HN1.out
      exact ⟨HA5.out.below hc (by rw [hb11]; exact hn.1), HX5.out.below hc (by rw [hb11]; exact hn.2), hk, HR5.out.up hc, below_cells (by rw [hb1]; have := hn.1; omega) _ 0 v0 hE.b, hc⟩
    clear hz hE HF HZ HA5 HX5 HR5 HL5 HN1 hb11
    have wx1 : IntKind.u64.wrap (x : Int) = (x : Int) := by have := HXX.out; rw [IntKind.wrap_u64]; omega
    have wy1 : IntKind.u64.wrap (y : Int) = (y : Int) := by have := HYY.out; rw [IntKind.wrap_u64]; omega
    go_wp2_with (refine wpList_store_mid rfl 24 (.tmp 11) (.tmp 32) rfl b11 0 #[.int .u64 0, .int .u64 0, .int .u64 0, .int .u64 0, .int .u64 0, .int .u64 0, .int .u64 0, .int .u64 0, .int .u64 0, .int .u64 0, .int .u64 0, .int .u64 0] rfl rfl (by with_reducible exact HT.out) size_zero all_zero ?_)
    generalize v0.setCells b11 0 [.int .u64 0, .int .u64 0, .int .u64 0, .int .u64 0, .int .u64 0, .int .u64 0, .int .u64 0, .int .u64 0, .int .u64 0, .int .u64 0, .int .u64 0, .int .u64 0] = v1 at *
    clear HT wx1 wy1
    rw [← o12_small 24 x (by have := HXX.out; omega), ← o12_small 24 y (by have := HYY.out; omega)]
    have E8 := EE.out.four x y
    have E9 := E8.up (Below.refl _ _).drew
    have HSZ := hid (Nat.le_refl 0)
    clear E8 EE
    generalize (v1.alloc (o12 24 x)).alloc (o12 24 y) = w9 at *
    generalize v1.heap.size + 1 = b13 at *
    generalize v1.heap.size = b12 at *
    go_cut [63] (fun s wx => s = .bool false ∧ EnvT4 w b1 b10 b11 b12 b13 br X (M - 1) 0 x y M wx)
    case first =>
      obtain ⟨n12, hn12⟩ : ∃ n : Nat, n = 12 := ⟨_, rfl⟩
      have hx32 := HXX.out
      have hy32 := HYY.out
      have L1 : ∀ v, EnvT4 w b1 b10 b11 b12 b13 br X (M - 1) 0 x y M v → (loadCellsFrom ⟨b1, 0, none⟩ 0 n12 #[]).run Tryd.prog v = .ok (cellsOf64 (ds (X))).toArray v := fun v h => by rw [hn12]; exact cells_num h.a
      have L2 : ∀ v, EnvT4 w b1 b10 b11 b12 b13 br X (M - 1) 0 x y M v → (loadCellsFrom ⟨b10, 0, none⟩ 0 n12 #[]).run Tryd.prog v = .ok (cellsOf64 (ds (M - 1))).toArray v := fun v h => by rw [hn12]; exact cells_num h.l
      have L3 : ∀ v, EnvT4 w b1 b10 b11 b12 b13 br X (M - 1) 0 x y M v → (loadCellsFrom ⟨b11, 0, none⟩ 0 n12 #[]).run Tryd.prog v = .ok (cellsOf64 (ds (0))).toArray v := fun v h => by rw [hn12]; exact cells_num h.k
      have L4 : ∀ v, EnvT4 w b1 b10 b11 b12 b13 br X (M - 1) 0 x y M v → (loadCellsFrom ⟨b12, 0, none⟩ 0 n12 #[]).run Tryd.prog v = .ok (cellsOf64 (ds (x))).toArray v := fun v h => by rw [hn12]; exact cells_num h.e
      have L5 : ∀ v, EnvT4 w b1 b10 b11 b12 b13 br X (M - 1) 0 x y M v → (loadCellsFrom ⟨b13, 0, none⟩ 0 n12 #[]).run Tryd.prog v = .ok (cellsOf64 (ds (y))).toArray v := fun v h => by rw [hn12]; exact cells_num h.f
      obtain ⟨ex, hex⟩ : ∃ ex, ex = mExp g X x := ⟨_, rfl⟩
      obtain ⟨ey, hey⟩ : ∃ ey, ey = mExp g X y := ⟨_, rfl⟩
      obtain ⟨zz, hzz⟩ : ∃ zz : Nat, zz = x * y := ⟨_, rfl⟩
      obtain ⟨ez, hez⟩ : ∃ ez, ez = mExp g X zz := ⟨_, rfl⟩
      have hz64 : zz < 18446744073709551616 := by
        rw [hzz]
        have := Nat.mul_le_mul (show x ≤ 4294967295 by omega) (show y ≤ 4294967295 by omega)
        omega
      have W1 : IntKind.u64.wrap ((x : Int) * (y : Int)) = (zz : Int) := by rw [IntKind.wrap_u64, hzz]; rw [← Int.natCast_mul]; rw [hzz] at hz64; omega
      have CX : ∀ v, RingP v br M → Calls Tryd.prog 14 #[.pointer (some ⟨br, 0, none⟩), .agg (cellsOf64 (ds (X))).toArray, .agg (cellsOf64 (ds (x))).toArray] v fun e w' => e = .returned (.agg (cellsOf64 (ds (ex))).toArray) ∧ Below v.heap.size v w' := fun v h => by rw [hex]; exact wExp_c br X x g v (HM.out ▸ h)
      have CY : ∀ v, RingP v br M → Calls Tryd.prog 14 #[.pointer (some ⟨br, 0, none⟩), .agg (cellsOf64 (ds (X))).toArray, .agg (cellsOf64 (ds (y))).toArray] v fun e w' => e = .returned (.agg (cellsOf64 (ds (ey))).toArray) ∧ Below v.heap.size v w' := fun v h => by rw [hey]; exact wExp_c br X y g v (HM.out ▸ h)
      have CZ : ∀ v, RingP v br M → Calls Tryd.prog 14 #[.pointer (some ⟨br, 0, none⟩), .agg (cellsOf64 (ds (X))).toArray, .agg #[.int .u64 (zz : Int), .int .u64 0, .int .u64 0, .int .u64 0, .int .u64 0, .int .u64 0, .int .u64 0, .int .u64 0, .int .u64 0, .int .u64 0, .int .u64 0, .int .u64 0]] v fun e w' => e = .returned (.agg (cellsOf64 (ds (ez))).toArray) ∧ Below v.heap.size v w' := fun v h => by rw [hez, ← num_one zz hz64]; exact wExp_c br X zz g v (HM.out ▸ h)
      obtain ⟨e2, he2⟩ : ∃ e2, e2 = mExp g ex y := ⟨_, rfl⟩
      have C2 : ∀ v, RingP v br M → Calls Tryd.prog 14 #[.pointer (some ⟨br, 0, none⟩), .agg (cellsOf64 (ds (ex))).toArray, .agg (cellsOf64 (ds (y))).toArray] v fun e w' => e = .returned (.agg (cellsOf64 (ds (e2))).toArray) ∧ Below v.heap.size v w' := fun v h => by rw [he2]; exact wExp_c br ex y g v (HM.out ▸ h)
      have hee : e2 = ez := by rw [he2, hex, hez, hzz]; exact exp_exp g X x y hx32 hy32
      obtain ⟨el, hel⟩ : ∃ el, el = mExp g X (M - 1) := ⟨_, rfl⟩
      have CL : ∀ v, RingP v br M → Calls Tryd.prog 14 #[.pointer (some ⟨br, 0, none⟩), .agg (cellsOf64 (ds (X))).toArray, .agg (cellsOf64 (ds (M - 1))).toArray] v fun e w' => e = .returned (.agg (cellsOf64 (ds (el))).toArray) ∧ Below v.heap.size v w' := fun v h => by rw [hel]; exact wExp_c br X (M - 1) g v (HM.out ▸ h)
      have hek : el = 0 := by rw [hel, HM.out]; exact HK.out
      have F1 : ∀ v, (Op.equalIn 10000 24 (.agg (cellsOf64 (ds (el))).toArray) (.agg (cellsOf64 (ds (0))).toArray)).run Tryd.prog v = .ok true v := same_num _ _ hek
      have F2 : ∀ v, (Op.equalIn 10000 24 (.agg (cellsOf64 (ds (e2))).toArray) (.agg (cellsOf64 (ds (ez))).toArray)).run Tryd.prog v = .ok true v := same_num _ _ hee
      have V1 : ∀ v, (convert 25 22 (.int .u32 (x : Int))).run Tryd.prog v = .ok (.int .u64 (x : Int)) v := fun v => conv32 x hx32 v
      have V2 : ∀ v, (convert 25 22 (.int .u32 (y : Int))).run Tryd.prog v = .ok (.int .u64 (y : Int)) v := fun v => conv32 y hy32 v
      have G1 := agg_num
      have G2 : ∀ v, (sizeOf 24).run Tryd.prog v = .ok n12 v := by rw [hn12]; exact size_num
      have G3 := Tryd.eqGuardType24
      have G4 := zero_num
      have G5 := under_num
      have G6 := sz64
      have N1 := Tryd.call14
      clear hn12 hzz hez hex hey he2 hee hz64 hx32 hy32 HXX HYY HX HM HML hel hek HK
      generalize Tryd.prog = P at CL CX CY CZ C2 L1 L2 L3 L4 L5 V1 V2 F1 F2 G1 G2 G3 G4 G5 G6 N1 ⊢
      go_region_held3 (fun w' => EnvT4 w b1 b10 b11 b12 b13 br X (M - 1) 0 x y M w') (with_reducible assumption) (first
        | (go_at_call 14; with_reducible refine (CL _ (EnvT4.r (by with_reducible assumption))).mono ?_; rintro e v ⟨rfl, hb⟩; have hE := EnvT4.up (by with_reducible assumption) hb; dsimp only)
        | (go_at_call 14; with_reducible refine (CX _ (EnvT4.r (by with_reducible assumption))).mono ?_; rintro e v ⟨rfl, hb⟩; have hE := EnvT4.up (by with_reducible assumption) hb; dsimp only)
        | (go_at_call 14; with_reducible refine (C2 _ (EnvT4.r (by with_reducible assumption))).mono ?_; rintro e v ⟨rfl, hb⟩; have hE := EnvT4.up (by with_reducible assumption) hb; dsimp only)
        | (go_at_call 14; with_reducible refine (CZ _ (EnvT4.r (by with_reducible assumption))).mono ?_; rintro e v ⟨rfl, hb⟩; have hE := EnvT4.up (by with_reducible assumption) hb; dsimp only))
      go_wp2_with fail
      go_meet
      exact ⟨rfl, hE⟩
    case rest =>
      obtain ⟨rfl, hE10⟩ := hcut
      have E10 := hid (hE10.up (Below.refl _ _).drew)
      clear hE10 E9
      go_wp2_with fail
      have E11 := E10.out
      clear E10
      go_cut [8] (fun s wx => s = .bool true ∧ EnvT4 w b1 b10 b11 b12 b13 br X (M - 1) 0 x y M wx)
      case first =>
        obtain ⟨n12, hn12⟩ : ∃ n : Nat, n = 12 := ⟨_, rfl⟩
        have hx32 := HXX.out
        have hy32 := HYY.out
        have L1 : ∀ v, EnvT4 w b1 b10 b11 b12 b13 br X (M - 1) 0 x y M v → (loadCellsFrom ⟨b1, 0, none⟩ 0 n12 #[]).run Tryd.prog v = .ok (cellsOf64 (ds (X))).toArray v := fun v h => by rw [hn12]; exact cells_num h.a
        have L2 : ∀ v, EnvT4 w b1 b10 b11 b12 b13 br X (M - 1) 0 x y M v → (loadCellsFrom ⟨b10, 0, none⟩ 0 n12 #[]).run Tryd.prog v = .ok (cellsOf64 (ds (M - 1))).toArray v := fun v h => by rw [hn12]; exact cells_num h.l
        have L3 : ∀ v, EnvT4 w b1 b10 b11 b12 b13 br X (M - 1) 0 x y M v → (loadCellsFrom ⟨b11, 0, none⟩ 0 n12 #[]).run Tryd.prog v = .ok (cellsOf64 (ds (0))).toArray v := fun v h => by rw [hn12]; exact cells_num h.k
        have L4 : ∀ v, EnvT4 w b1 b10 b11 b12 b13 br X (M - 1) 0 x y M v → (loadCellsFrom ⟨b12, 0, none⟩ 0 n12 #[]).run Tryd.prog v = .ok (cellsOf64 (ds (x))).toArray v := fun v h => by rw [hn12]; exact cells_num h.e
        have L5 : ∀ v, EnvT4 w b1 b10 b11 b12 b13 br X (M - 1) 0 x y M v → (loadCellsFrom ⟨b13, 0, none⟩ 0 n12 #[]).run Tryd.prog v = .ok (cellsOf64 (ds (y))).toArray v := fun v h => by rw [hn12]; exact cells_num h.f
        obtain ⟨ex, hex⟩ : ∃ ex, ex = mExp g X x := ⟨_, rfl⟩
        obtain ⟨ey, hey⟩ : ∃ ey, ey = mExp g X y := ⟨_, rfl⟩
        obtain ⟨zz, hzz⟩ : ∃ zz : Nat, zz = x + y := ⟨_, rfl⟩
        obtain ⟨ez, hez⟩ : ∃ ez, ez = mExp g X zz := ⟨_, rfl⟩
        have hz64 : zz < 18446744073709551616 := by
          rw [hzz]
          omega
        have W1 : IntKind.u64.wrap ((x : Int) + (y : Int)) = (zz : Int) := by rw [IntKind.wrap_u64, hzz]; omega
        have CX : ∀ v, RingP v br M → Calls Tryd.prog 14 #[.pointer (some ⟨br, 0, none⟩), .agg (cellsOf64 (ds (X))).toArray, .agg (cellsOf64 (ds (x))).toArray] v fun e w' => e = .returned (.agg (cellsOf64 (ds (ex))).toArray) ∧ Below v.heap.size v w' := fun v h => by rw [hex]; exact wExp_c br X x g v (HM.out ▸ h)
        have CY : ∀ v, RingP v br M → Calls Tryd.prog 14 #[.pointer (some ⟨br, 0, none⟩), .agg (cellsOf64 (ds (X))).toArray, .agg (cellsOf64 (ds (y))).toArray] v fun e w' => e = .returned (.agg (cellsOf64 (ds (ey))).toArray) ∧ Below v.heap.size v w' := fun v h => by rw [hey]; exact wExp_c br X y g v (HM.out ▸ h)
        have CZ : ∀ v, RingP v br M → Calls Tryd.prog 14 #[.pointer (some ⟨br, 0, none⟩), .agg (cellsOf64 (ds (X))).toArray, .agg #[.int .u64 (zz : Int), .int .u64 0, .int .u64 0, .int .u64 0, .int .u64 0, .int .u64 0, .int .u64 0, .int .u64 0, .int .u64 0, .int .u64 0, .int .u64 0, .int .u64 0]] v fun e w' => e = .returned (.agg (cellsOf64 (ds (ez))).toArray) ∧ Below v.heap.size v w' := fun v h => by rw [hez, ← num_one zz hz64]; exact wExp_c br X zz g v (HM.out ▸ h)
        obtain ⟨e2, he2⟩ : ∃ e2, e2 = mMul g ex ey := ⟨_, rfl⟩
        have C2 : ∀ v, RingP v br M → Calls Tryd.prog 13 #[.pointer (some ⟨br, 0, none⟩), .agg (cellsOf64 (ds (ex))).toArray, .agg (cellsOf64 (ds (ey))).toArray] v fun e w' => e = .returned (.agg (cellsOf64 (ds (e2))).toArray) ∧ Below v.heap.size v w' := fun v h => by rw [he2]; exact wMul_c br ex ey g v (HM.out ▸ h)
        have hee : e2 = ez := by rw [he2, hex, hey, hez, hzz]; exact mul_exp g X x y hx32 hy32
        have F2 : ∀ v, (Op.equalIn 10000 24 (.agg (cellsOf64 (ds (e2))).toArray) (.agg (cellsOf64 (ds (ez))).toArray)).run Tryd.prog v = .ok true v := same_num _ _ hee
        have V1 : ∀ v, (convert 25 22 (.int .u32 (x : Int))).run Tryd.prog v = .ok (.int .u64 (x : Int)) v := fun v => conv32 x hx32 v
        have V2 : ∀ v, (convert 25 22 (.int .u32 (y : Int))).run Tryd.prog v = .ok (.int .u64 (y : Int)) v := fun v => conv32 y hy32 v
        have G1 := agg_num
        have G2 : ∀ v, (sizeOf 24).run Tryd.prog v = .ok n12 v := by rw [hn12]; exact size_num
        have G3 := Tryd.eqGuardType24
        have G4 := zero_num
        have G5 := under_num
        have G6 := sz64
        have N1 := Tryd.call14
        have N2 := Tryd.call13
        clear hn12 hzz hez hex hey he2 hee hz64 hx32 hy32 HXX HYY HX HM HML HK
        generalize Tryd.prog = P at CX CY CZ C2 L1 L2 L3 L4 L5 V1 V2 F2 G1 G2 G3 G4 G5 G6 N1 N2 ⊢
        go_region_held3 (fun w' => EnvT4 w b1 b10 b11 b12 b13 br X (M - 1) 0 x y M w') (with_reducible assumption) (first
          | (go_at_call 14; with_reducible refine (CX _ (EnvT4.r (by with_reducible assumption))).mono ?_; rintro e v ⟨rfl, hb⟩; have hE := EnvT4.up (by with_reducible assumption) hb; dsimp only)
          | (go_at_call 14; with_reducible refine (CY _ (EnvT4.r (by with_reducible assumption))).mono ?_; rintro e v ⟨rfl, hb⟩; have hE := EnvT4.up (by with_reducible assumption) hb; dsimp only)
          | (go_at_call 13; with_reducible refine (C2 _ (EnvT4.r (by with_reducible assumption))).mono ?_; rintro e v ⟨rfl, hb⟩; have hE := EnvT4.up (by with_reducible assumption) hb; dsimp only)
          | (go_at_call 14; with_reducible refine (CZ _ (EnvT4.r (by with_reducible assumption))).mono ?_; rintro e v ⟨rfl, hb⟩; have hE := EnvT4.up (by with_reducible assumption) hb; dsimp only))
        go_wp2_with fail
        go_meet
        exact ⟨rfl, hE⟩
      case rest =>
        obtain ⟨rfl, hE⟩ := hcut
        go_wp2
        go_ret
        exact ⟨rfl, hE.b⟩
  · obtain rfl : z = false := by rw [HZ.out]; exact decide_eq_false hz
    have HK : Hid (mExp g X (mOf g - 1) = 1) := hid (by rw [HF.out, if_neg (fun h => hz h.symm)])
    have EE := hid hE
    clear hz hE HF HZ HA5 HX5 HR5 HL5 HN1 hb11
    have wx1 : IntKind.u64.wrap (x : Int) = (x : Int) := by have := HXX.out; rw [IntKind.wrap_u64]; omega
    have wy1 : IntKind.u64.wrap (y : Int) = (y : Int) := by have := HYY.out; rw [IntKind.wrap_u64]; omega
    go_wp2_with fail
    clear wx1 wy1
    rw [← o12_small 24 x (by have := HXX.out; omega), ← o12_small 24 y (by have := HYY.out; omega)]
    have E8 := EE.out.four x y
    have E9 := E8.up (Below.refl _ _).drew
    have HSZ := hid (Nat.le_refl 0)
    clear E8 EE
    generalize (v0.alloc (o12 24 x)).alloc (o12 24 y) = w9 at *
    generalize v0.heap.size + 1 = b13 at *
    generalize v0.heap.size = b12 at *
    go_cut [63] (fun s wx => s = .bool false ∧ EnvT4 w b1 b10 b11 b12 b13 br X (M - 1) 1 x y M wx)
    case first =>
      obtain ⟨n12, hn12⟩ : ∃ n : Nat, n = 12 := ⟨_, rfl⟩
      have hx32 := HXX.out
      have hy32 := HYY.out
      have L1 : ∀ v, EnvT4 w b1 b10 b11 b12 b13 br X (M - 1) 1 x y M v → (loadCellsFrom ⟨b1, 0, none⟩ 0 n12 #[]).run Tryd.prog v = .ok (cellsOf64 (ds (X))).toArray v := fun v h => by rw [hn12]; exact cells_num h.a
      have L2 : ∀ v, EnvT4 w b1 b10 b11 b12 b13 br X (M - 1) 1 x y M v → (loadCellsFrom ⟨b10, 0, none⟩ 0 n12 #[]).run Tryd.prog v = .ok (cellsOf64 (ds (M - 1))).toArray v := fun v h => by rw [hn12]; exact cells_num h.l
      have L3 : ∀ v, EnvT4 w b1 b10 b11 b12 b13 br X (M - 1) 1 x y M v → (loadCellsFrom ⟨b11, 0, none⟩ 0 n12 #[]).run Tryd.prog v = .ok (cellsOf64 (ds (1))).toArray v := fun v h => by rw [hn12]; exact cells_num h.k
      have L4 : ∀ v, EnvT4 w b1 b10 b11 b12 b13 br X (M - 1) 1 x y M v → (loadCellsFrom ⟨b12, 0, none⟩ 0 n12 #[]).run Tryd.prog v = .ok (cellsOf64 (ds (x))).toArray v := fun v h => by rw [hn12]; exact cells_num h.e
      have L5 : ∀ v, EnvT4 w b1 b10 b11 b12 b13 br X (M - 1) 1 x y M v → (loadCellsFrom ⟨b13, 0, none⟩ 0 n12 #[]).run Tryd.prog v = .ok (cellsOf64 (ds (y))).toArray v := fun v h => by rw [hn12]; exact cells_num h.f
      obtain ⟨ex, hex⟩ : ∃ ex, ex = mExp g X x := ⟨_, rfl⟩
      obtain ⟨ey, hey⟩ : ∃ ey, ey = mExp g X y := ⟨_, rfl⟩
      obtain ⟨zz, hzz⟩ : ∃ zz : Nat, zz = x * y := ⟨_, rfl⟩
      obtain ⟨ez, hez⟩ : ∃ ez, ez = mExp g X zz := ⟨_, rfl⟩
      have hz64 : zz < 18446744073709551616 := by
        rw [hzz]
        have := Nat.mul_le_mul (show x ≤ 4294967295 by omega) (show y ≤ 4294967295 by omega)
        omega
      have W1 : IntKind.u64.wrap ((x : Int) * (y : Int)) = (zz : Int) := by rw [IntKind.wrap_u64, hzz]; rw [← Int.natCast_mul]; rw [hzz] at hz64; omega
      have CX : ∀ v, RingP v br M → Calls Tryd.prog 14 #[.pointer (some ⟨br, 0, none⟩), .agg (cellsOf64 (ds (X))).toArray, .agg (cellsOf64 (ds (x))).toArray] v fun e w' => e = .returned (.agg (cellsOf64 (ds (ex))).toArray) ∧ Below v.heap.size v w' := fun v h => by rw [hex]; exact wExp_c br X x g v (HM.out ▸ h)
      have CY : ∀ v, RingP v br M → Calls Tryd.prog 14 #[.pointer (some ⟨br, 0, none⟩), .agg (cellsOf64 (ds (X))).toArray, .agg (cellsOf64 (ds (y))).toArray] v fun e w' => e = .returned (.agg (cellsOf64 (ds (ey))).toArray) ∧ Below v.heap.size v w' := fun v h => by rw [hey]; exact wExp_c br X y g v (HM.out ▸ h)
      have CZ : ∀ v, RingP v br M → Calls Tryd.prog 14 #[.pointer (some ⟨br, 0, none⟩), .agg (cellsOf64 (ds (X))).toArray, .agg #[.int .u64 (zz : Int), .int .u64 0, .int .u64 0, .int .u64 0, .int .u64 0, .int .u64 0, .int .u64 0, .int .u64 0, .int .u64 0, .int .u64 0, .int .u64 0, .int .u64 0]] v fun e w' => e = .returned (.agg (cellsOf64 (ds (ez))).toArray) ∧ Below v.heap.size v w' := fun v h => by rw [hez, ← num_one zz hz64]; exact wExp_c br X zz g v (HM.out ▸ h)
      obtain ⟨e2, he2⟩ : ∃ e2, e2 = mExp g ex y := ⟨_, rfl⟩
      have C2 : ∀ v, RingP v br M → Calls Tryd.prog 14 #[.pointer (some ⟨br, 0, none⟩), .agg (cellsOf64 (ds (ex))).toArray, .agg (cellsOf64 (ds (y))).toArray] v fun e w' => e = .returned (.agg (cellsOf64 (ds (e2))).toArray) ∧ Below v.heap.size v w' := fun v h => by rw [he2]; exact wExp_c br ex y g v (HM.out ▸ h)
      have hee : e2 = ez := by rw [he2, hex, hez, hzz]; exact exp_exp g X x y hx32 hy32
      obtain ⟨el, hel⟩ : ∃ el, el = mExp g X (M - 1) := ⟨_, rfl⟩
      have CL : ∀ v, RingP v br M → Calls Tryd.prog 14 #[.pointer (some ⟨br, 0, none⟩), .agg (cellsOf64 (ds (X))).toArray, .agg (cellsOf64 (ds (M - 1))).toArray] v fun e w' => e = .returned (.agg (cellsOf64 (ds (el))).toArray) ∧ Below v.heap.size v w' := fun v h => by rw [hel]; exact wExp_c br X (M - 1) g v (HM.out ▸ h)
      have hek : el = 1 := by rw [hel, HM.out]; exact HK.out
      have F1 : ∀ v, (Op.equalIn 10000 24 (.agg (cellsOf64 (ds (el))).toArray) (.agg (cellsOf64 (ds (1))).toArray)).run Tryd.prog v = .ok true v := same_num _ _ hek
      have F2 : ∀ v, (Op.equalIn 10000 24 (.agg (cellsOf64 (ds (e2))).toArray) (.agg (cellsOf64 (ds (ez))).toArray)).run Tryd.prog v = .ok true v := same_num _ _ hee
      have V1 : ∀ v, (convert 25 22 (.int .u32 (x : Int))).run Tryd.prog v = .ok (.int .u64 (x : Int)) v := fun v => conv32 x hx32 v
      have V2 : ∀ v, (convert 25 22 (.int .u32 (y : Int))).run Tryd.prog v = .ok (.int .u64 (y : Int)) v := fun v => conv32 y hy32 v
      have G1 := agg_num
      have G2 : ∀ v, (sizeOf 24).run Tryd.prog v = .ok n12 v := by rw [hn12]; exact size_num
      have G3 := Tryd.eqGuardType24
      have G4 := zero_num
      have G5 := under_num
      have G6 := sz64
      have N1 := Tryd.call14
      clear hn12 hzz hez hex hey he2 hee hz64 hx32 hy32 HXX HYY HX HM HML hel hek HK
      generalize Tryd.prog = P at CL CX CY CZ C2 L1 L2 L3 L4 L5 V1 V2 F1 F2 G1 G2 G3 G4 G5 G6 N1 ⊢
      go_region_held3 (fun w' => EnvT4 w b1 b10 b11 b12 b13 br X (M - 1) 1 x y M w') (with_reducible assumption) (first
        | (go_at_call 14; with_reducible refine (CL _ (EnvT4.r (by with_reducible assumption))).mono ?_; rintro e v ⟨rfl, hb⟩; have hE := EnvT4.up (by with_reducible assumption) hb; dsimp only)
        | (go_at_call 14; with_reducible refine (CX _ (EnvT4.r (by with_reducible assumption))).mono ?_; rintro e v ⟨rfl, hb⟩; have hE := EnvT4.up (by with_reducible assumption) hb; dsimp only)
        | (go_at_call 14; with_reducible refine (C2 _ (EnvT4.r (by with_reducible assumption))).mono ?_; rintro e v ⟨rfl, hb⟩; have hE := EnvT4.up (by with_reducible assumption) hb; dsimp only)
        | (go_at_call 14; with_reducible refine (CZ _ (EnvT4.r (by with_reducible assumption))).mono ?_; rintro e v ⟨rfl, hb⟩; have hE := EnvT4.up (by with_reducible assumption) hb; dsimp only))
      go_wp2_with fail
      go_meet
      exact ⟨rfl, hE⟩
    case rest =>
      obtain ⟨rfl, hE10⟩ := hcut
      have E10 := hid (hE10.up (Below.refl _ _).drew)
      clear hE10 E9
      go_wp2_with fail
      have E11 := E10.out
      clear E10
      go_cut [8] (fun s wx => s = .bool true ∧ EnvT4 w b1 b10 b11 b12 b13 br X (M - 1) 1 x y M wx)
      case first =>
        obtain ⟨n12, hn12⟩ : ∃ n : Nat, n = 12 := ⟨_, rfl⟩
        have hx32 := HXX.out
        have hy32 := HYY.out
        have L1 : ∀ v, EnvT4 w b1 b10 b11 b12 b13 br X (M - 1) 1 x y M v → (loadCellsFrom ⟨b1, 0, none⟩ 0 n12 #[]).run Tryd.prog v = .ok (cellsOf64 (ds (X))).toArray v := fun v h => by rw [hn12]; exact cells_num h.a
        have L2 : ∀ v, EnvT4 w b1 b10 b11 b12 b13 br X (M - 1) 1 x y M v → (loadCellsFrom ⟨b10, 0, none⟩ 0 n12 #[]).run Tryd.prog v = .ok (cellsOf64 (ds (M - 1))).toArray v := fun v h => by rw [hn12]; exact cells_num h.l
        have L3 : ∀ v, EnvT4 w b1 b10 b11 b12 b13 br X (M - 1) 1 x y M v → (loadCellsFrom ⟨b11, 0, none⟩ 0 n12 #[]).run Tryd.prog v = .ok (cellsOf64 (ds (1))).toArray v := fun v h => by rw [hn12]; exact cells_num h.k
        have L4 : ∀ v, EnvT4 w b1 b10 b11 b12 b13 br X (M - 1) 1 x y M v → (loadCellsFrom ⟨b12, 0, none⟩ 0 n12 #[]).run Tryd.prog v = .ok (cellsOf64 (ds (x))).toArray v := fun v h => by rw [hn12]; exact cells_num h.e
        have L5 : ∀ v, EnvT4 w b1 b10 b11 b12 b13 br X (M - 1) 1 x y M v → (loadCellsFrom ⟨b13, 0, none⟩ 0 n12 #[]).run Tryd.prog v = .ok (cellsOf64 (ds (y))).toArray v := fun v h => by rw [hn12]; exact cells_num h.f
        obtain ⟨ex, hex⟩ : ∃ ex, ex = mExp g X x := ⟨_, rfl⟩
        obtain ⟨ey, hey⟩ : ∃ ey, ey = mExp g X y := ⟨_, rfl⟩
        obtain ⟨zz, hzz⟩ : ∃ zz : Nat, zz = x + y := ⟨_, rfl⟩
        obtain ⟨ez, hez⟩ : ∃ ez, ez = mExp g X zz := ⟨_, rfl⟩
        have hz64 : zz < 18446744073709551616 := by
          rw [hzz]
          omega
        have W1 : IntKind.u64.wrap ((x : Int) + (y : Int)) = (zz : Int) := by rw [IntKind.wrap_u64, hzz]; omega
        have CX : ∀ v, RingP v br M → Calls Tryd.prog 14 #[.pointer (some ⟨br, 0, none⟩), .agg (cellsOf64 (ds (X))).toArray, .agg (cellsOf64 (ds (x))).toArray] v fun e w' => e = .returned (.agg (cellsOf64 (ds (ex))).toArray) ∧ Below v.heap.size v w' := fun v h => by rw [hex]; exact wExp_c br X x g v (HM.out ▸ h)
        have CY : ∀ v, RingP v br M → Calls Tryd.prog 14 #[.pointer (some ⟨br, 0, none⟩), .agg (cellsOf64 (ds (X))).toArray, .agg (cellsOf64 (ds (y))).toArray] v fun e w' => e = .returned (.agg (cellsOf64 (ds (ey))).toArray) ∧ Below v.heap.size v w' := fun v h => by rw [hey]; exact wExp_c br X y g v (HM.out ▸ h)
        have CZ : ∀ v, RingP v br M → Calls Tryd.prog 14 #[.pointer (some ⟨br, 0, none⟩), .agg (cellsOf64 (ds (X))).toArray, .agg #[.int .u64 (zz : Int), .int .u64 0, .int .u64 0, .int .u64 0, .int .u64 0, .int .u64 0, .int .u64 0, .int .u64 0, .int .u64 0, .int .u64 0, .int .u64 0, .int .u64 0]] v fun e w' => e = .returned (.agg (cellsOf64 (ds (ez))).toArray) ∧ Below v.heap.size v w' := fun v h => by rw [hez, ← num_one zz hz64]; exact wExp_c br X zz g v (HM.out ▸ h)
        obtain ⟨e2, he2⟩ : ∃ e2, e2 = mMul g ex ey := ⟨_, rfl⟩
        have C2 : ∀ v, RingP v br M → Calls Tryd.prog 13 #[.pointer (some ⟨br, 0, none⟩), .agg (cellsOf64 (ds (ex))).toArray, .agg (cellsOf64 (ds (ey))).toArray] v fun e w' => e = .returned (.agg (cellsOf64 (ds (e2))).toArray) ∧ Below v.heap.size v w' := fun v h => by rw [he2]; exact wMul_c br ex ey g v (HM.out ▸ h)
        have hee : e2 = ez := by rw [he2, hex, hey, hez, hzz]; exact mul_exp g X x y hx32 hy32
        have F2 : ∀ v, (Op.equalIn 10000 24 (.agg (cellsOf64 (ds (e2))).toArray) (.agg (cellsOf64 (ds (ez))).toArray)).run Tryd.prog v = .ok true v := same_num _ _ hee
        have V1 : ∀ v, (convert 25 22 (.int .u32 (x : Int))).run Tryd.prog v = .ok (.int .u64 (x : Int)) v := fun v => conv32 x hx32 v
        have V2 : ∀ v, (convert 25 22 (.int .u32 (y : Int))).run Tryd.prog v = .ok (.int .u64 (y : Int)) v := fun v => conv32 y hy32 v
        have G1 := agg_num
        have G2 : ∀ v, (sizeOf 24).run Tryd.prog v = .ok n12 v := by rw [hn12]; exact size_num
        have G3 := Tryd.eqGuardType24
        have G4 := zero_num
        have G5 := under_num
        have G6 := sz64
        have N1 := Tryd.call14
        have N2 := Tryd.call13
        clear hn12 hzz hez hex hey he2 hee hz64 hx32 hy32 HXX HYY HX HM HML HK
        generalize Tryd.prog = P at CX CY CZ C2 L1 L2 L3 L4 L5 V1 V2 F2 G1 G2 G3 G4 G5 G6 N1 N2 ⊢
        go_region_held3 (fun w' => EnvT4 w b1 b10 b11 b12 b13 br X (M - 1) 1 x y M w') (with_reducible assumption) (first
          | (go_at_call 14; with_reducible refine (CX _ (EnvT4.r (by with_reducible assumption))).mono ?_; rintro e v ⟨rfl, hb⟩; have hE := EnvT4.up (by with_reducible assumption) hb; dsimp only)
          | (go_at_call 14; with_reducible refine (CY _ (EnvT4.r (by with_reducible assumption))).mono ?_; rintro e v ⟨rfl, hb⟩; have hE := EnvT4.up (by with_reducible assumption) hb; dsimp only)
          | (go_at_call 13; with_reducible refine (C2 _ (EnvT4.r (by with_reducible assumption))).mono ?_; rintro e v ⟨rfl, hb⟩; have hE := EnvT4.up (by with_reducible assumption) hb; dsimp only)
          | (go_at_call 14; with_reducible refine (CZ _ (EnvT4.r (by with_reducible assumption))).mono ?_; rintro e v ⟨rfl, hb⟩; have hE := EnvT4.up (by with_reducible assumption) hb; dsimp only))
        go_wp2_with fail
        go_meet
        exact ⟨rfl, hE⟩
      case rest =>
        obtain ⟨rfl, hE⟩ := hcut
        go_wp2
        go_ret
        exact ⟨rfl, hE.b⟩
end Go.Proofs.YtfonpmahcdmajaaDoor
