/-
  avouchlaw04.WideHalves: the walk.
-/
import Derived.Test.YtocnbgeolajbbaaDoorWidG
import Derived.Deep.RegionHeld3
import Derived.Deep.CutBlock
import Derived.Deep.DeepCutAuto
import Derived.BigQuiet
import Derived.Deep.QuietTactic
namespace Go.Proofs.YtocnbgeolajbbaaDoor
open Go.RowKit
set_option linter.unusedVariables false

/-- What is kept: three numbers in memory, and a ring. -/
structure EnvH (w : World) (bx b_y bz br X Y Z M : Nat) (v : World) : Prop where
  x : BlkW v bx 28 (ds X)
  y : BlkW v b_y 28 (ds Y)
  z : BlkW v bz 28 (ds Z)
  r : RingP v br M
  b : Below w.heap.size w v
theorem EnvH.up {w : World} {bx b_y bz br X Y Z M : Nat} {v v' : World} (h : EnvH w bx b_y bz br X Y Z M v) (hb : Below v.heap.size v v') : EnvH w bx b_y bz br X Y Z M v' :=
  ⟨h.x.below hb h.x.size, h.y.below hb h.y.size, h.z.below hb h.z.size, h.r.up hb, bchain h.b hb⟩
theorem EnvH.drew {w : World} {bx b_y bz br X Y Z M : Nat} {v : World} (h : EnvH w bx b_y bz br X Y Z M v) : EnvH w bx b_y bz br X Y Z M v.drew := h.up (Below.refl _ _).drew
/-- The same ahead of the ring; and the words of P and q, while they are compared. -/
structure EnvH0 (w : World) (bx b_y bz X Y Z : Nat) (v : World) : Prop where
  x : BlkW v bx 28 (ds X)
  y : BlkW v b_y 28 (ds Y)
  z : BlkW v bz 28 (ds Z)
  g : GlobW v
  b : Below w.heap.size w v
theorem EnvH0.up {w : World} {bx b_y bz X Y Z : Nat} {v v' : World} (h : EnvH0 w bx b_y bz X Y Z v) (hb : Below v.heap.size v v') : EnvH0 w bx b_y bz X Y Z v' :=
  ⟨h.x.below hb h.x.size, h.y.below hb h.y.size, h.z.below hb h.z.size, h.g.up hb, bchain h.b hb⟩
structure HalfRel (w : World) (bx b_y bz X Y Z p1 q1 : Nat) (v : World) : Prop where
  e : EnvH0 w bx b_y bz X Y Z v
  p : ∀ i, i < 12 → v.cell? ⟨p1, i, none⟩ = some (.int .u64 (at64 (ds bigP) i))
  q : ∀ i, i < 12 → v.cell? ⟨q1, i, none⟩ = some (.int .u64 (at64 (ds bigQ) i))
theorem HalfRel.drewN {w : World} {bx b_y bz X Y Z p1 q1 : Nat} {v : World} (h : HalfRel w bx b_y bz X Y Z p1 q1 v) (n : Nat) : HalfRel w bx b_y bz X Y Z p1 q1 (v.drewN n) :=
  ⟨h.e.up (below_drewN (Below.refl _ _) n), h.p, h.q⟩
theorem boxes3 (w : World) (X Y Z : Nat) :
    BlkW (((w.alloc (o12 28 X)).alloc (o12 28 Y)).alloc (o12 28 Z)) w.heap.size 28 (ds X) ∧
    BlkW (((w.alloc (o12 28 X)).alloc (o12 28 Y)).alloc (o12 28 Z)) (w.heap.size + 1) 28 (ds Y) ∧
    BlkW (((w.alloc (o12 28 X)).alloc (o12 28 Y)).alloc (o12 28 Z)) (w.heap.size + 1 + 1) 28 (ds Z) ∧
    Below w.heap.size w (((w.alloc (o12 28 X)).alloc (o12 28 Y)).alloc (o12 28 Z)) := by
  have e1 : (w.alloc (o12 28 X)).heap.size = w.heap.size + 1 := by simp
  have e2 : ((w.alloc (o12 28 X)).alloc (o12 28 Y)).heap.size = w.heap.size + 1 + 1 := by simp
  have h2 := (o12_new (w.alloc (o12 28 X)) 28 Y).alloc (o12 28 Z)
  have h3 := o12_new ((w.alloc (o12 28 X)).alloc (o12 28 Y)) 28 Z
  rw [e1] at h2
  rw [e2] at h3
  exact ⟨((o12_new w 28 X).alloc _).alloc _, h2, h3, (((Below.refl _ _).alloc (Nat.le_refl _) _).alloc (by omega) _).alloc (by omega) _⟩
/-- The bit that is carried into word k. -/
def hcar (k : Nat) : Nat := if k = 0 then 1 else (ds bigQ).getD (k - 1) 0 / 9223372036854775808
theorem halves_word (k : Nat) (h : k < 12) : (at64 (ds bigP) k != bits .or .u64 (IntKind.u64.wrap (at64 (ds bigQ) k * 2)) ((hcar k : Nat) : Int)) = false := by
  have key : ∀ k : Fin 12, (at64 (ds bigP) k.val != bits .or .u64 (IntKind.u64.wrap (at64 (ds bigQ) k.val * 2)) ((hcar k.val : Nat) : Int)) = false := by decide +kernel
  exact key ⟨k, h⟩
/-- Two numbers laid into new variables. -/
theorem lay2 (w : World) (X Y : Nat) :
    ∃ w1 w2, (storeCells ⟨w.heap.size, 0, none⟩ (cellsOf64 (ds X))).run Tryd.prog ((w.alloc (z12 28)).alloc (z12 28)) = .ok () w1 ∧
      (storeCells ⟨w.heap.size + 1, 0, none⟩ (cellsOf64 (ds Y))).run Tryd.prog w1 = .ok () w2 ∧ (∀ i, i < 12 → w2.cell? ⟨w.heap.size, i, none⟩ = some (.int .u64 (at64 (ds X) i))) ∧ (∀ i, i < 12 → w2.cell? ⟨w.heap.size + 1, i, none⟩ = some (.int .u64 (at64 (ds Y) i))) ∧ Below w.heap.size w w2 := by
  have hA := (z12_new w 28).alloc (z12 28)
  have hB := z12_new (w.alloc (z12 28)) 28
  have e1 : (w.alloc (z12 28)).heap.size = w.heap.size + 1 := by simp
  rw [e1] at hB
  have hb0 := ((Below.refl w.heap.size w).alloc (Nat.le_refl _) (z12 28)).alloc (by omega) (z12 28)
  generalize (w.alloc (z12 28)).alloc (z12 28) = w0 at *
  obtain ⟨s1, r1⟩ := num_stored (X := X) hA
  have hb1 := below_cells (Nat.le_refl w.heap.size) (cellsOf64 (ds X)) 0 w0 hb0
  have hB1 : BlkW (w0.setCells w.heap.size 0 (cellsOf64 (ds X))) (w.heap.size + 1) 28 (List.replicate 12 0) := by
    have : ∀ (vs : List Value) (o : Nat) (w0 : World), BlkW w0 (w.heap.size + 1) 28 (List.replicate 12 0) → BlkW (w0.setCells w.heap.size o vs) (w.heap.size + 1) 28 (List.replicate 12 0) := by
      intro vs
      induction vs with
      | nil => intro o w0 h; exact h
      | cons v vs ih => intro o w0 h; exact ih (o + 1) _ (h.otherC (by omega))
    exact this _ _ _ hB
  obtain ⟨s2, r2⟩ := num_stored (X := Y) hB1
  refine ⟨_, _, s1, s2, fun i hi => ?_, fun i hi => ?_, below_cells (by omega) _ _ _ hb1⟩
  · have h := World.rangeAt_setCells_apart r1.out (w.heap.size + 1) 0 (cellsOf64 (ds Y)) (by omega)
    have := h i (.int .u64 (at64 (ds X) i)) (by simp [cellsOf64, at64, List.getD_eq_getElem?_getD, List.getElem?_eq_getElem (show i < (ds X).length by rw [ds_len]; exact hi)])
    rw [Nat.zero_add] at this
    exact this
  · have := r2.out i (.int .u64 (at64 (ds Y) i)) (by simp [cellsOf64, at64, List.getD_eq_getElem?_getD, List.getElem?_eq_getElem (show i < (ds Y).length by rw [ds_len]; exact hi)])
    rw [Nat.zero_add] at this
    exact this

/-- Bytes stored over a block from its start on. -/
theorem setCells_blkB {b : Nat} {t : TypeId} : ∀ (l old done : List Nat) {w : World}, w.heap[b]? = some (.cells (cells8 (done ++ old)).toArray t (0, 0)) → l.length = old.length →
    (w.setCells b done.length (cells8 l)).heap[b]? = some (.cells (cells8 (done ++ l)).toArray t (0, 0))
  | [], [], done, w, h, _ => h
  | [], _ :: _, _, _, _, hl => by simp at hl
  | _ :: _, [], _, _, _, hl => by simp at hl
  | x :: l, y :: old, done, w, h, hl => by
    have h' : (w.setCell ⟨b, done.length, none⟩ (.int .u8 (x : Int))).heap[b]? = some (.cells (cells8 ((done ++ [x]) ++ old)).toArray t (0, 0)) := by
      simp [World.setCell, Array.getElem?_modify, h, cells8]
    have ih := setCells_blkB l old (done ++ [x]) h' (by simpa using hl)
    rw [List.length_append, List.length_singleton, List.append_assoc] at ih
    exact ih

/-- append of two bytes to 96 that fill their array, as one step of a region that draws. -/
theorem step_pad {P : Program} {ops : Array Oper} {o : Oper} {a : Act} {K : Act → World → Prop} {Q : Exit → Act → World → Prop} {E : Prop} {w : World} (hu : P.underlying 22 = some (.slice 5))
    (i0 : TypeInfo) (hi : P.info? 5 = some i0) (hz : i0.zero = some (.int .u8 0)) (hs1 : i0.size = 1) (hb : i0.bytes = 1) (hw : Region.wanted o (yielded ops a.tmps) = true) (s x : Operand)
    (hop : o.op = .call { callee := .builtin .append, args := #[s, x], argTypes := #[22, 22] })
    (b : Nat) (l : List Nat) (hs : a.eval s = .slice (some ⟨b, 0, none⟩) 96 96) (hB : BlkB w b 38 l) (hl : l.length = 96) (b2 c : Nat) (hx : a.eval x = .slice (some ⟨b2, 0, none⟩) 2 c)
    (h01 : w.cell? ⟨b2, 0, none⟩ = some (.int .u8 0) ∧ w.cell? ⟨b2, 1, none⟩ = some (.int .u8 0))
    (hK : ∀ A c w', Rd8 w' w'.heap.size A 98 (l ++ [0, 0]) → Below w.heap.size w w' → K (a.put o.dst (.slice A 98 c)) w') :
    if Region.wanted o (yielded ops a.tmps) = true then Oper.wp P o a w K Q else E := by
  obtain ⟨h0, h1⟩ := h01
  rw [if_pos hw]
  obtain ⟨v', w', hrun, r1, r2⟩ := run_append_arg_grows (P := P) w 22 o.type 5 i0 (.int .u8 0) 1 1 hu hi hz hs1 hb rfl (by decide) ⟨b, 0, none⟩ 96 96 (cells8 l) (by simp [cells8, hl])
    (fun j u hj => by rw [Addr.add_mid]; exact hB.range j u hj) ⟨b2, 0, none⟩ 2 c (cells8 [0, 0]) (by simp [cells8]) (fun j u hj => by
      rw [Addr.add_mid]
      have hj2 : j < 2 := by have := (List.getElem?_eq_some_iff.1 hj).1; simpa [cells8] using this
      have : j = 0 ∨ j = 1 := by omega
      rcases this with rfl | rfl
      · rw [h0]; exact hj
      · rw [h1]; exact hj) (by decide) (by unfold maxLen; omega) (by omega)
  have hown : OwnB w' w.heap.size v' (l ++ [0, 0]) := by
    refine ⟨?_, ?_⟩
    · have e : cells8 (l ++ [0, 0]) = cells8 l ++ cells8 [0, 0] := by simp [cells8]
      rw [e, List.length_append, hl]
      exact r1
    · intro y hy
      rcases List.mem_append.1 hy with h | h
      · exact hB.lt y h
      · simp only [List.mem_cons, List.not_mem_nil, or_false, or_self] at h; omega
  obtain ⟨A, cc, rfl, hcc, ra⟩ := hown.rd
  rw [List.length_append, hl] at hrun ra
  unfold Oper.wp
  simp [execOp, hop, resolve, invoke, builtin, hs, hx, hrun, Result.andThen]
  exact hK A cc w' ra ((Below.refl _ _).grown r2 (Nat.le_refl _) (fun k hk => by cases hk))
theorem two0 (v : World) : (v.alloc (.cells #[.int .u8 0, .int .u8 0] 5)).cell? ⟨v.heap.size, 0, none⟩ = some (.int .u8 0) ∧ (v.alloc (.cells #[.int .u8 0, .int .u8 0] 5)).cell? ⟨v.heap.size, 1, none⟩ = some (.int .u8 0) := by
  constructor
  · rw [cell_of_row _ v.heap.size 0 _ _ (0, 0) (heap_alloc_new v _)]; rfl
  · rw [cell_of_row _ v.heap.size 1 _ _ (0, 0) (heap_alloc_new v _)]; rfl

/-- 96 bytes laid into a new variable. -/
theorem z96_eq : Tryd.zeroCells38 = (cells8 (List.replicate 96 0)).toArray := by kernel_rfl
theorem new96 (w : World) (l : List Nat) (hl : l.length = 96) (hlt : allLt8 l) :
    ∃ wx, (storeCells ⟨w.heap.size, 0, none⟩ (cells8 l)).run Tryd.prog (w.alloc (.cells Tryd.zeroCells38 38)) = .ok () wx ∧ BlkB wx w.heap.size 38 l ∧ Below w.heap.size w wx := by
  rw [z96_eq]
  have hB := o96_new w 38
  have hth := hB.there
  have hb : Below w.heap.size w ((w.alloc (o96 38)).setCells w.heap.size 0 (cells8 l)) := below_cells (Nat.le_refl _) _ _ _ ((Below.refl _ _).alloc (Nat.le_refl _) _)
  refine ⟨(w.alloc (o96 38)).setCells w.heap.size 0 (cells8 l), store8 w.heap.size l (w.alloc (o96 38)) (by rw [hl]; exact hth), ?_, hb⟩
  have h := setCells_blkB (w := w.alloc (o96 38)) (b := w.heap.size) (t := 38) l (List.replicate 96 0) [] (by simpa using hB.heap) (by simp [hl])
  simp only [List.nil_append, List.length_nil] at h
  exact ⟨h, hlt⟩
/-- The same with the bytes beside. -/
structure EnvI (w : World) (bx b_y bz br bb X Y Z M : Nat) (l : List Nat) (v : World) : Prop where
  e : EnvH w bx b_y bz br X Y Z M v
  i : BlkB v bb 38 l
theorem EnvI.up {w : World} {bx b_y bz br bb X Y Z M : Nat} {l : List Nat} {v v' : World} (h : EnvI w bx b_y bz br bb X Y Z M l v) (hb : Below v.heap.size v v') : EnvI w bx b_y bz br bb X Y Z M l v' :=
  ⟨h.e.up hb, h.i.below hb h.i.size⟩
theorem EnvI.alloc {w : World} {bx b_y bz br bb X Y Z M : Nat} {l : List Nat} {v : World} (h : EnvI w bx b_y bz br bb X Y Z M l v) (o : Obj) : EnvI w bx b_y bz br bb X Y Z M l (v.alloc o) := h.up ((Below.refl _ _).alloc (Nat.le_refl _) _)
theorem pad_val (l : List Nat) (h : l.length = 96) : val 256 (l ++ [0, 0]) = val 256 l := val_app_zeros 256 l 2
theorem mAdd_zero (g : Bool) (X : Nat) (h : X < W12) : X % mOf g = mAdd g X 0 := by
  unfold mAdd
  rw [Nat.mod_eq_of_lt h, Nat.zero_mod, Nat.add_zero]

set_option maxRecDepth 100000 in
set_option maxHeartbeats 8000000 in
theorem wideHalves_w (g : Bool) (X Y Z : Nat) (w : World) (hX : X < W12) (hY : Y < W12) (hZ : Z < W12) (hG : GlobW w) :
    Calls Tryd.prog 7 #[.bool g, num X, num Y, num Z] w fun e w' => e = .returned (.bool true) ∧ Below w.heap.size w w' := by
  have hlX := dsc_len X
  have hlY := dsc_len Y
  have hlZ := dsc_len Z
  obtain ⟨a1, a2, a3, a4⟩ := boxes3 w X Y Z
  have hG0 := hG.up a4
  have A := hid (And.intro a1 (And.intro a2 (And.intro a3 a4)))
  have HX := hid hX
  have HY := hid hY
  have HZ := hid hZ
  clear a1 a2 a3 a4 hX hY hZ hG
  unfold num
  go_enter Tryd.func7, Tryd.ntmps7
  go_wp2_with fail
  change Calls _ _ _ (((w.alloc (o12 28 X)).alloc (o12 28 Y)).alloc (o12 28 Z)) _
  generalize ((w.alloc (o12 28 X)).alloc (o12 28 Y)).alloc (o12 28 Z) = w0 at *
  clear hlX hlY hlZ
  refine (speaks4_c w0 hG0).mono ?_
  rintro e w1 ⟨rfl, b1⟩
  go_wp2_with fail
  refine (group_c w1 (hG0.up b1)).mono ?_
  rintro e w2 ⟨bg, rfl, hg, b2⟩
  have b02 := bchain b1 b2
  go_wp2_with fail
  refine (size_c bg bigP w2 hg bigP_lt).mono ?_
  rintro e w3 ⟨rfl, b3⟩
  have b03 := bchain b02 b3
  go_wp2_with fail
  refine (exponents_c w3 (hG0.up b03)).mono ?_
  rintro e w4 ⟨bq, rfl, hq, b4⟩
  have b04 := bchain b03 b4
  go_wp2_with fail
  refine (size_c bq bigQ w4 hq bigQ_lt).mono ?_
  rintro e w5 ⟨rfl, b5⟩
  have b05 := bchain b04 b5
  have hG5 := hG0.up b05
  clear b1 b2 b3 b4 b5 b02 b03 b04 hg hq hG0
  obtain ⟨w6, w7, s6, s7, c6, c7, b57⟩ := lay2 w5 bigP bigQ
  have hl1 := dsc_len bigP
  have hl2 := dsc_len bigQ
  have b07 := bchain b05 b57
  have hG7 := hid (hG5.up b57)
  unfold num z12 at *
  have E7 : Hid (EnvH0 w w.heap.size (w.heap.size + 1) (w.heap.size + 1 + 1) X Y Z w7) := by
    obtain ⟨a1, a2, a3, a4⟩ := A.out
    exact ⟨a1.below b07 a1.size, a2.below b07 a2.size, a3.below b07 a3.size, hG7.out, bchain a4 b07⟩
  have C6 := hid c6
  have C7 := hid c7
  clear hG5 b05 b57 b07 hG7 A c6 c7
  go_wp2_with fail
  generalize w5.heap.size + 1 = q1 at *
  generalize w5.heap.size = p1 at *
  clear s6 s7 hl1 hl2
  go_loopw [11, 21] (fun c i wr => ∃ k : Nat, k ≤ 12 ∧ i = .int .i64 k ∧ c = .int .u64 (hcar k : Nat) ∧ HalfRel w w.heap.size (w.heap.size + 1) (w.heap.size + 1 + 1) X Y Z p1 q1 wr) (fun _ i _ => 12 - (intOf i).toNat)
  case atStart => exact ⟨0, by omega, rfl, rfl, E7.out, C6.out, C7.out⟩
  case round =>
    clear E7 C6 C7
    obtain ⟨k, hk, rfl, rfl, hE, h6, h7⟩ := hrel
    by_cases hlt : k < 12
    · have c6 := h6 k hlt
      have c7 := h7 k hlt
      have hw := halves_word k hlt
      have x0 := at64_nonneg (ds bigQ) k
      have i0 : (0 : Int) ≤ (k : Int) := by omega
      have i1 : (k : Int) < 12 := by omega
      have H6 := hid h6
      have H7 := hid h7
      clear h6 h7
      go_wp2
      go_quiet (fail)
      have hR : HalfRel w w.heap.size (w.heap.size + 1) (w.heap.size + 1 + 1) X Y Z p1 q1 (wr.drewN nq) := HalfRel.drewN ⟨hE, H6.out, H7.out⟩ nq
      generalize wr.drewN nq = v2 at hR ⊢
      have c8 := hR.q k hlt
      have hs : at64 (ds bigQ) k / 9223372036854775808 = ((hcar (k + 1) : Nat) : Int) := by
        unfold hcar at64
        rw [if_neg (by omega), Nat.add_sub_cancel]
        omega
      clear hE H6 H7 c6 c7 hw
      go_wp2
      go_roundw
      case rel =>
        exact ⟨k + 1, by omega, by go_num, rfl, hR⟩
      case measure => simp [intOf]; omega
    · obtain rfl : k = 12 := by omega
      clear h6 h7
      go_wp2_with fail
      refine (ring_c g wr hE.g).mono ?_
      rintro e w8 ⟨br, rfl, hr, b8⟩
      have E8 : EnvH w w.heap.size (w.heap.size + 1) (w.heap.size + 1 + 1) br X Y Z (mOf g) w8 :=
        ⟨hE.x.below b8 hE.x.size, hE.y.below b8 hE.y.size, hE.z.below b8 hE.z.size, hr, bchain hE.b b8⟩
      clear hE hr b8
      go_wp2_with fail
      generalize w.heap.size + 1 + 1 = bz at *
      generalize w.heap.size + 1 = b_y at *
      generalize hbx : w.heap.size = bx at *
      have E9 := E8.drew
      go_cut [94] (fun s wx => s = .bool false ∧ EnvH w bx b_y bz br X Y Z (mOf g) wx)
      case first =>
        have F1 : ∀ v, (Op.equalIn 10000 28 (.agg (cellsOf64 (ds (mAdd g X Y))).toArray) (.agg (cellsOf64 (ds (mAdd g Y X))).toArray)).run Tryd.prog v = .ok true v := same_num _ _ (mAdd_comm g X Y)
        have F2 : ∀ v, (Op.equalIn 10000 28 (.agg (cellsOf64 (ds (mMul g X Y))).toArray) (.agg (cellsOf64 (ds (mMul g Y X))).toArray)).run Tryd.prog v = .ok true v := same_num _ _ (mMul_comm g X Y)
        have F3 : ∀ v, (Op.equalIn 10000 28 (.agg (cellsOf64 (ds (mMul g X (mAdd g Y Z)))).toArray) (.agg (cellsOf64 (ds (mAdd g (mMul g X Y) (mMul g X Z)))).toArray)).run Tryd.prog v = .ok true v := same_num _ _ (mMul_add g X Y Z)
        have F4 : ∀ v, (Op.equalIn 10000 28 (.agg (cellsOf64 (ds (mAdd g (mSub g X Y) Y))).toArray) (.agg (cellsOf64 (ds (mAdd g X 0))).toArray)).run Tryd.prog v = .ok true v := same_num _ _ (mSub_add g X Y)
        obtain ⟨n12, hn12⟩ : ∃ n : Nat, n = 12 := ⟨_, rfl⟩
        have L1 : ∀ v, EnvH w bx b_y bz br X Y Z (mOf g) v → (loadCellsFrom ⟨bx, 0, none⟩ 0 n12 #[]).run Tryd.prog v = .ok (cellsOf64 (ds X)).toArray v := fun v h => by rw [hn12]; exact cells_num h.x
        have L2 : ∀ v, EnvH w bx b_y bz br X Y Z (mOf g) v → (loadCellsFrom ⟨b_y, 0, none⟩ 0 n12 #[]).run Tryd.prog v = .ok (cellsOf64 (ds Y)).toArray v := fun v h => by rw [hn12]; exact cells_num h.y
        have L3 : ∀ v, EnvH w bx b_y bz br X Y Z (mOf g) v → (loadCellsFrom ⟨bz, 0, none⟩ 0 n12 #[]).run Tryd.prog v = .ok (cellsOf64 (ds Z)).toArray v := fun v h => by rw [hn12]; exact cells_num h.z
        have CA : ∀ (X Y : Nat) (v : World), RingP v br (mOf g) → Calls Tryd.prog 21 #[.pointer (some ⟨br, 0, none⟩), .agg (cellsOf64 (ds (X))).toArray, .agg (cellsOf64 (ds (Y))).toArray] v fun e w' => e = .returned (.agg (cellsOf64 (ds (mAdd g X Y))).toArray) ∧ Below v.heap.size v w' := fun X Y v h => wAdd_c br X Y g v h
        have CS : ∀ (X Y : Nat) (v : World), RingP v br (mOf g) → Calls Tryd.prog 23 #[.pointer (some ⟨br, 0, none⟩), .agg (cellsOf64 (ds (X))).toArray, .agg (cellsOf64 (ds (Y))).toArray] v fun e w' => e = .returned (.agg (cellsOf64 (ds (mSub g X Y))).toArray) ∧ Below v.heap.size v w' := fun X Y v h => wSub_c br X Y g v h
        have CM : ∀ (X Y : Nat) (v : World), RingP v br (mOf g) → Calls Tryd.prog 25 #[.pointer (some ⟨br, 0, none⟩), .agg (cellsOf64 (ds (X))).toArray, .agg (cellsOf64 (ds (Y))).toArray] v fun e w' => e = .returned (.agg (cellsOf64 (ds (mMul g X Y))).toArray) ∧ Below v.heap.size v w' := fun X Y v h => wMul_c br X Y g v h
        have C0 : ∀ (X : Nat) (v : World), RingP v br (mOf g) → Calls Tryd.prog 21 #[.pointer (some ⟨br, 0, none⟩), .agg (cellsOf64 (ds (X))).toArray, .agg #[.int .u64 0, .int .u64 0, .int .u64 0, .int .u64 0, .int .u64 0, .int .u64 0, .int .u64 0, .int .u64 0, .int .u64 0, .int .u64 0, .int .u64 0, .int .u64 0]] v fun e w' => e = .returned (.agg (cellsOf64 (ds (mAdd g X 0))).toArray) ∧ Below v.heap.size v w' := fun X v h => wAdd0_c br X g v h
        have G1 := agg_num
        have G2 : ∀ v, (sizeOf 28).run Tryd.prog v = .ok n12 v := by rw [hn12]; exact size_num
        clear hn12
        have G3 := Tryd.eqGuardType28
        have G4 := zero_num
        have G5 := under_num
        have G6 := sz64
        have N1 := Tryd.call21
        have N2 := Tryd.call23
        have N3 := Tryd.call25
        generalize Tryd.prog = P at CA CS CM C0 F1 F2 F3 F4 L1 L2 L3 G1 G2 G3 G4 G5 G6 N1 N2 N3 ⊢
        go_region_held3 (fun w' => EnvH w bx b_y bz br X Y Z (mOf g) w') (with_reducible assumption) (first
          | (go_at_call 21; with_reducible refine (C0 _ _ (EnvH.r (by with_reducible assumption))).mono ?_; rintro e v ⟨rfl, hb⟩; have hE := EnvH.up (by with_reducible assumption) hb; dsimp only)
          | (go_at_call 21; with_reducible refine (CA _ _ _ (EnvH.r (by with_reducible assumption))).mono ?_; rintro e v ⟨rfl, hb⟩; have hE := EnvH.up (by with_reducible assumption) hb; dsimp only)
          | (go_at_call 23; with_reducible refine (CS _ _ _ (EnvH.r (by with_reducible assumption))).mono ?_; rintro e v ⟨rfl, hb⟩; have hE := EnvH.up (by with_reducible assumption) hb; dsimp only)
          | (go_at_call 25; with_reducible refine (CM _ _ _ (EnvH.r (by with_reducible assumption))).mono ?_; rintro e v ⟨rfl, hb⟩; have hE := EnvH.up (by with_reducible assumption) hb; dsimp only))
        go_wp2_with fail
        go_meet
        exact ⟨rfl, hE⟩
      case rest =>
        obtain ⟨rfl, hE7⟩ := hcut
        have HO := hid hE7.x.range
        have HI := hid (sizeNb.trans (congrArg some (dsc_len X).symm))
        clear E8 E9
        go_wp2_with (with_reducible refine wpList_load_mid rfl 28 (.tmp 5) rfl bx 0 rfl (cellsOf64 (ds X)) _ HO.out Tryd.underlying28 rfl HI.out ?_)
        refine (write_c X _ HX).mono ?_
        rintro e w9 ⟨r, rfl, hr9, b9⟩
        obtain ⟨l, rfl, hl, hlt, hv⟩ := hr9
        obtain ⟨wx, hst, hBx, bx9⟩ := new96 w9 l hl hlt
        have hlen : (cells8 l).length = 96 := by simp [cells8, hl]
        have hEx := (hE7.up b9).up bx9
        have HV := hid hv
        have HL := hid hl
        clear HO HI hE7 b9 bx9 hv
        go_wp2_with fail
        generalize w9.heap.size = bb at *
        have E9 : EnvI w bx b_y bz br bb X Y Z (mOf g) l wx.drew := EnvI.up ⟨hEx, hBx⟩ ((Below.refl _ _).drew)
        clear hst hlen hEx hBx
        have HP := hid (pad_val l HL.out)
        have F1 : ∀ v, (Op.equalIn 10000 28 (.agg (cellsOf64 (ds (X % mOf g))).toArray) (.agg (cellsOf64 (ds (mAdd g X 0))).toArray)).run Tryd.prog v = .ok true v := same_num _ _ (mAdd_zero g X HX.out)
        have F2 : ∀ v, (Op.equalIn 10000 28 (.agg (cellsOf64 (ds (X % mOf g))).toArray) (.agg (cellsOf64 (ds (X % mOf g))).toArray)).run Tryd.prog v = .ok true v := same_num _ _ rfl
        have CR : ∀ v, EnvI w bx b_y bz br bb X Y Z (mOf g) l v → Calls Tryd.prog 17 #[.pointer (some ⟨br, 0, none⟩), .slice (some ⟨bb, 0, none⟩) 96 96] v fun e w' => e = .returned (.agg (cellsOf64 (ds (X % mOf g))).toArray) ∧ Below v.heap.size v w' := fun v h => by
          have ra := h.i.rd h.i.size
          rw [HL.out] at ra
          have := rReduce_c br (mOf g) _ 96 96 l v h.e.r ra (by decide) (mOf_lt g)
          rw [HV.out] at this
          exact this
        have CP : ∀ A c v, EnvI w bx b_y bz br bb X Y Z (mOf g) l v → Rd8 v v.heap.size A 98 (l ++ [0, 0]) → Calls Tryd.prog 17 #[.pointer (some ⟨br, 0, none⟩), .slice A 98 c] v fun e w' => e = .returned (.agg (cellsOf64 (ds (X % mOf g))).toArray) ∧ Below v.heap.size v w' := fun A c v h ra => by
          have := rReduce_c br (mOf g) A 98 c (l ++ [0, 0]) v h.e.r ra (by decide) (mOf_lt g)
          rw [HP.out, HV.out] at this
          exact this
        have C0 : ∀ (X : Nat) (v : World), RingP v br (mOf g) → Calls Tryd.prog 21 #[.pointer (some ⟨br, 0, none⟩), .agg (cellsOf64 (ds X)).toArray, .agg #[.int .u64 0, .int .u64 0, .int .u64 0, .int .u64 0, .int .u64 0, .int .u64 0, .int .u64 0, .int .u64 0, .int .u64 0, .int .u64 0, .int .u64 0, .int .u64 0]] v fun e w' => e = .returned (.agg (cellsOf64 (ds (mAdd g X 0))).toArray) ∧ Below v.heap.size v w' := fun X v h => wAdd0_c br X g v h
        obtain ⟨n12, hn12⟩ : ∃ n : Nat, n = 12 := ⟨_, rfl⟩
        have L1 : ∀ v, EnvI w bx b_y bz br bb X Y Z (mOf g) l v → (loadCellsFrom ⟨bx, 0, none⟩ 0 n12 #[]).run Tryd.prog v = .ok (cellsOf64 (ds X)).toArray v := fun v h => by rw [hn12]; exact cells_num h.e.x
        have G1 := agg_num
        have G2 : ∀ v, (sizeOf 28).run Tryd.prog v = .ok n12 v := by rw [hn12]; exact size_num
        clear hn12
        have G3 := Tryd.eqGuardType28
        have G4 := zero_num
        have G5 := under_num
        have G6 := sz64
        have G7 := Tryd.underlying22
        have G8 := Tryd.underlying38
        have G9 : ∀ w, (sizeOf 5).run Tryd.prog w = .ok 1 w := fun w => by kernel_rfl
        have GA : ∀ v, (underlying 22).run Tryd.prog v = .ok (.slice 5) v := fun v => run_underlying Tryd.underlying22 v
        have GB : ∀ v, (zeroValue 5).run Tryd.prog v = .ok (.int .u8 0) v := fun v => by kernel_rfl
        obtain ⟨i0, hi, hz, hs1, hb0⟩ := info_parts u8_info
        have N1 := Tryd.call21
        have N2 := Tryd.call17
        generalize Tryd.prog = P at CR CP C0 F1 F2 L1 G1 G2 G3 G4 G5 G6 G7 G8 G9 GA GB hi N1 N2 ⊢
        go_region_held3 (fun w' => EnvI w bx b_y bz br bb X Y Z (mOf g) l w') (first
            | with_reducible assumption
            | exact EnvI.alloc (by with_reducible assumption) _) (first
          | (go_at_call 21; with_reducible refine (C0 _ _ (EnvH.r (EnvI.e (by with_reducible assumption)))).mono ?_; rintro e v ⟨rfl, hb⟩; have hE := EnvI.up (by with_reducible assumption) hb; dsimp only)
          | (go_at_call 17; with_reducible refine (CR _ (by with_reducible assumption)).mono ?_; rintro e v ⟨rfl, hb⟩; have hE := EnvI.up (by with_reducible assumption) hb; dsimp only)
          | (go_at_call 17; with_reducible refine (CP _ _ _ (by with_reducible assumption) (by with_reducible assumption)).mono ?_; rintro e v ⟨rfl, hb⟩; have hE := EnvI.up (by with_reducible assumption) hb; dsimp only)
          | (refine step_pad G7 i0 hi hz hs1 hb0 (by rfl) (.tmp 107) (.tmp 108) rfl bb l (by simp [Act.eval]) (EnvI.i (by with_reducible assumption)) HL.out _ 2 (by simp [Act.eval]) (two0 _) ?_; intro A' c' w' ra hb; have hE := EnvI.up (by with_reducible assumption) hb))
        go_wp2
        go_ret
        exact ⟨rfl, hE.e.b⟩
end Go.Proofs.YtocnbgeolajbbaaDoor
