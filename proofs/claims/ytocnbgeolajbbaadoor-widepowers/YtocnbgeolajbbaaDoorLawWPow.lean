/-
  avouchlaw04.WidePowers: the walk.
-/
import Derived.Test.YtocnbgeolajbbaaDoorWidY
import Derived.Deep.RegionHeld3
import Derived.Deep.CutBlock
import Derived.Deep.DeepCutAuto
namespace Go.Proofs.YtocnbgeolajbbaaDoor
open Go.RowKit
set_option linter.unusedVariables false

/-- What is kept: two numbers in memory, and the table. -/
structure EnvE (w : World) (bx b_y X Y : Nat) (v : World) : Prop where
  x : BlkW v bx 28 (ds X)
  y : BlkW v b_y 28 (ds Y)
  g : GlobW v
  b : Below w.heap.size w v
theorem EnvE.up {w : World} {bx b_y X Y : Nat} {v v' : World} (h : EnvE w bx b_y X Y v) (hb : Below v.heap.size v v') : EnvE w bx b_y X Y v' :=
  ⟨h.x.below hb h.x.size, h.y.below hb h.y.size, h.g.up hb, bchain h.b hb⟩
theorem boxesE (w : World) (X Y : Nat) :
    BlkW ((w.alloc (o12 28 X)).alloc (o12 28 Y)) w.heap.size 28 (ds X) ∧
    BlkW ((w.alloc (o12 28 X)).alloc (o12 28 Y)) (w.heap.size + 1) 28 (ds Y) ∧
    Below w.heap.size w ((w.alloc (o12 28 X)).alloc (o12 28 Y)) := by
  have e1 : (w.alloc (o12 28 X)).heap.size = w.heap.size + 1 := by simp
  have h2 := o12_new (w.alloc (o12 28 X)) 28 Y
  rw [e1] at h2
  exact ⟨(o12_new w 28 X).alloc _, h2, ((Below.refl _ _).alloc (Nat.le_refl _) _).alloc (by omega) _⟩
theorem ref_exp {g : Bool} {X Y : Nat} (hX : X < W12) (hY : Y < W12) : X ^ Y % mOf g = mExp g X Y := by
  unfold mExp
  rw [Nat.mod_eq_of_lt hX, Nat.mod_eq_of_lt hY]

set_option maxRecDepth 100000 in
set_option maxHeartbeats 8000000 in
theorem widePowers_w (g : Bool) (X Y : Nat) (w : World) (hX : X < W12) (hY : Y < W12) (hG : GlobW w) :
    Calls Tryd.prog 5 #[.bool g, num X, num Y] w fun e w' => e = .returned (.bool true) ∧ Below w.heap.size w w' := by
  have hlX := dsc_len X
  have hlY := dsc_len Y
  obtain ⟨a1, a2, a4⟩ := boxesE w X Y
  have E0 : EnvE w w.heap.size (w.heap.size + 1) X Y ((w.alloc (o12 28 X)).alloc (o12 28 Y)) := ⟨a1, a2, hG.up a4, a4⟩
  have HX := hid hX
  have HY := hid hY
  clear a1 a2 a4 hX hY hG
  unfold num
  go_enter Tryd.func5, Tryd.ntmps5
  go_wp2_with fail
  change Code.wp _ _ _ _ ((w.alloc (o12 28 X)).alloc (o12 28 Y))
  generalize (w.alloc (o12 28 X)).alloc (o12 28 Y) = w0 at *
  generalize w.heap.size + 1 = b_y at *
  generalize hbx : w.heap.size = bx at *
  have E1 : EnvE w bx b_y X Y w0.drew := E0.up ((Below.refl _ _).drew)
  clear E0 hlX hlY
  obtain ⟨n12, hn12⟩ : ∃ n : Nat, n = 12 := ⟨_, rfl⟩
  have L1 : ∀ v, EnvE w bx b_y X Y v → (loadCellsFrom ⟨bx, 0, none⟩ 0 n12 #[]).run Tryd.prog v = .ok (cellsOf64 (ds X)).toArray v := fun v h => by rw [hn12]; exact cells_num h.x
  have L2 : ∀ v, EnvE w bx b_y X Y v → (loadCellsFrom ⟨b_y, 0, none⟩ 0 n12 #[]).run Tryd.prog v = .ok (cellsOf64 (ds Y)).toArray v := fun v h => by rw [hn12]; exact cells_num h.y
  have CSp : ∀ (v : World), GlobW v → Calls Tryd.prog 8 #[] v fun e w' => e = .returned (.bool true) ∧ Below v.heap.size v w' := speaks4_c
  have CRi : ∀ (v : World), GlobW v → Calls Tryd.prog 9 #[.bool g] v fun e w' => ∃ b, e = .returned (.pointer (some ⟨b, 0, none⟩)) ∧ RingP w' b (mOf g) ∧ Below v.heap.size v w' := fun v h => ring_c g v h
  have CEx : ∀ (b : Nat) (v : World), RingP v b (mOf g) → Calls Tryd.prog 27 #[.pointer (some ⟨b, 0, none⟩), .agg (cellsOf64 (ds X)).toArray, .agg (cellsOf64 (ds Y)).toArray] v fun e w' => e = .returned (.agg (cellsOf64 (ds (mExp g X Y))).toArray) ∧ Below v.heap.size v w' := fun b v h => wExp_c b X Y g v h
  have CX : ∀ (v : World), Calls Tryd.prog 20 #[.agg (cellsOf64 (ds X)).toArray] v fun e w' => ∃ r, e = .returned r ∧ Dg w' r X ∧ Below v.heap.size v w' := fun v => digitsW_c X v HX.out
  have CY : ∀ (v : World), Calls Tryd.prog 20 #[.agg (cellsOf64 (ds Y)).toArray] v fun e w' => ∃ r, e = .returned r ∧ Dg w' r Y ∧ Below v.heap.size v w' := fun v => digitsW_c Y v HY.out
  have CE : ∀ (u z : Value) (v : World), Dg v u X → Dg v z Y → Calls Tryd.prog 28 #[.bool g, u, z] v fun e w' => ∃ r, e = .returned r ∧ Dg w' r (mExp g X Y) ∧ Below v.heap.size v w' := fun u z v h1 h2 => by
    have h := refExp_c g u z X Y v h1 h2 (by rw [T24_eq]; exact HY.out)
    rw [ref_exp HX.out HY.out] at h
    exact h
  have CO : ∀ (u : Value) (v : World), Dg v u (mExp g X Y) → Calls Tryd.prog 12 #[u] v fun e w' => e = .returned (.agg (cellsOf64 (ds (mExp g X Y))).toArray) ∧ Below v.heap.size v w' := fun u v h => ofW_c u _ v h
  have F1 : ∀ v, (Op.equalIn 10000 28 (.agg (cellsOf64 (ds (mExp g X Y))).toArray) (.agg (cellsOf64 (ds (mExp g X Y))).toArray)).run Tryd.prog v = .ok true v := same_num _ _ rfl
  have G1 := agg_num
  have G2 : ∀ v, (sizeOf 28).run Tryd.prog v = .ok n12 v := by rw [hn12]; exact size_num
  clear hn12
  have G3 := Tryd.eqGuardType28
  have N1 := Tryd.call8
  have N2 := Tryd.call9
  have N3 := Tryd.call27
  have N4 := Tryd.call20
  have N5 := Tryd.call28
  have N6 := Tryd.call12
  go_cut [6] (fun s wx => s = .bool true ∧ EnvE w bx b_y X Y wx)
  case first =>
    generalize Tryd.prog = P at CSp CRi CEx CX CY CE CO F1 L1 L2 G1 G2 G3 N1 N2 N3 N4 N5 N6 ⊢
    go_region_held3 (fun w' => EnvE w bx b_y X Y w') (with_reducible assumption) (first
      | (go_at_call 8; with_reducible refine (CSp _ (EnvE.g (by with_reducible assumption))).mono ?_; rintro e v ⟨rfl, hb⟩; have hE := EnvE.up (by with_reducible assumption) hb; dsimp only)
      | (go_at_call 9; with_reducible refine (CRi _ (EnvE.g (by with_reducible assumption))).mono ?_; rintro e v ⟨b, rfl, hr, hb⟩; have hE := EnvE.up (by with_reducible assumption) hb; dsimp only)
      | (go_at_call 27; with_reducible refine (CEx _ _ (by with_reducible assumption)).mono ?_; rintro e v ⟨rfl, hb⟩; have hE := EnvE.up (by with_reducible assumption) hb; dsimp only)
      | (go_at_call 20; with_reducible refine (CX _).mono ?_; rintro e v ⟨r, rfl, hd, hb⟩; have hE := EnvE.up (by with_reducible assumption) hb; dsimp only)
      | (go_at_call 20; with_reducible refine (CY _).mono ?_; rintro e v ⟨r, rfl, hd, hb⟩; have hE := EnvE.up (by with_reducible assumption) hb; have hD := Dg.up (X := X) (by with_reducible assumption) hb; dsimp only)
      | (go_at_call 28; with_reducible refine (CE _ _ _ (by with_reducible assumption) (by with_reducible assumption)).mono ?_; rintro e v ⟨r, rfl, hd, hb⟩; have hE := EnvE.up (by with_reducible assumption) hb; dsimp only)
      | (go_at_call 12; with_reducible refine (CO _ _ (by with_reducible assumption)).mono ?_; rintro e v ⟨rfl, hb⟩; have hE := EnvE.up (by with_reducible assumption) hb; dsimp only))
    go_wp2_with fail
    go_meet
    exact ⟨rfl, hE⟩
  case rest =>
    obtain ⟨rfl, hE⟩ := hcut
    clear CSp CRi CEx CX CY CE CO F1 L1 L2 G1 G2 G3 N1 N2 N3 N4 N5 N6
    go_wp2
    go_ret
    exact ⟨rfl, hE.b⟩
end Go.Proofs.YtocnbgeolajbbaaDoor
