import Derived.Test.YtdepkfdceidikaaGreatDoorFldJ
import Derived.Test.YtdepkfdceidikaaGreatDoorGnD
import Derived.Test.YtdepkfdceidikaaGreatDoorPsC
/-
  field.FromBytes: what the call does.
-/
namespace Go.Proofs.YtdepkfdceidikaaGreatDoor
open Go.RowKit
set_option linter.unusedVariables false

set_option maxRecDepth 20000 in
theorem fromBytes_len (A : Option Addr) (n c : Nat) (w : World) (hn : n ≠ 32) :
    Calls Tryz.prog 96 #[.slice A n c] w fun e w' => ∃ r, e = .returned (.tuple #[r, .int .i64 1]) ∧ El r 0 ∧ Below w.heap.size w w' := by
  have h : ((n : Int) != 32) = true := by simp; omega
  go_enter Tryz.func96, Tryz.ntmps96
  go_wp2
  go_returns
  exact ⟨_, rfl, El.zero, by go_grown⟩

/-- What is known behind the reading of the words and of the prime. -/
def FB (w : World) (bl bx : Nat) (wx : World) (lr : List Nat) (X : Nat) : Prop :=
  lr.length = (32 + 7) / 8 ∧ val 18446744073709551616 lr = X ∧ BlkW wx bl 34 lr ∧ B4 wx bx 4891460686036598785 2896914383306846353 13281191951274694749 3486998266802970665 ∧ B4 wx w.heap.size 0 0 0 0 ∧ Below w.heap.size w wx
theorem BlkW.other {w : World} {b c i : Nat} {t : TypeId} {v : Value} {ws : List Nat} (h : BlkW w b t ws) (hne : b ≠ c) : BlkW (w.setCell ⟨c, i, none⟩ v) b t ws := by
  refine ⟨?_, h.lt⟩
  simp only [World.setCell]
  rw [Array.getElem?_modify, if_neg (by omega)]
  exact h.heap
theorem BlkW.others {w : World} {b c : Nat} {t : TypeId} {ws : List Nat} {x0 x1 x2 x3 : Int} (h : BlkW w b t ws) (hne : b ≠ c) : BlkW ((((w.setCell ⟨c, 0, none⟩ (.int .u64 x0)).setCell ⟨c, 1, none⟩ (.int .u64 x1)).setCell ⟨c, 2, none⟩ (.int .u64 x2)).setCell ⟨c, 3, none⟩ (.int .u64 x3)) b t ws :=
  (((h.other hne).other hne).other hne).other hne
theorem first4 (w : World) (t : TypeId) : B4 (w.alloc (.cells #[.int .u64 0, .int .u64 0, .int .u64 0, .int .u64 0] t)).drew w.heap.size 0 0 0 0 := (o4_new w t 0 0 0 0).drew
set_option maxRecDepth 20000 in
set_option maxHeartbeats 4000000 in
theorem fromBytes_canon (A : Option Addr) (c : Nat) (b : List Nat) (w : World) (ha : Rd8 w w.heap.size A 32 b) (hG : Glob w) (hp : Hid (pN ≤ val 256 b)) :
    Calls Tryz.prog 96 #[.slice A 32 c] w fun e w' => ∃ r, e = .returned (.tuple #[r, .int .i64 4]) ∧ El r 0 ∧ Below w.heap.size w w' := by
  have hl0 := (Below.refl w.heap.size w).alloc (Nat.le_refl _) (o4 37 0 0 0 0)
  have hz0 := o4_new w 37 0 0 0 0
  have e0 : (w.alloc (o4 37 0 0 0 0)).heap.size = w.heap.size + 1 := by simp
  have hG0 := hG.up hl0
  have ra0 := ha.up hl0 (Nat.le_refl _)
  have g0 := hG0.p0
  have g1 := hG0.p1
  have g2 := hG0.p2
  have g3 := hG0.p3
  have szP := hG0.sizeP
  go_enter Tryz.func96, Tryz.ntmps96
  go_wp2
  change Code.wp _ _ _ _ (w.alloc (o4 37 0 0 0 0))
  generalize w.alloc (o4 37 0 0 0 0) = w0 at *
  have HR : ∀ x : World, Below w0.heap.size w0 x → Hid (Rd8 x x.heap.size A 32 b) := fun x hx => hid (ra0.up hx (Nat.le_refl _))
  have HB : ∀ x y : World, Below w0.heap.size w0 x → Below x.heap.size x y → Hid (Below w0.heap.size w0 y) := fun x y hx hy => hid (hx.trans (hy.mono hx.size))
  have E0 := hid e0
  clear ra0 e0
  go_region_with (
    (go_at_call 61
     refine (limbWords_n A 32 c b _ (HR _ (by go_grown)).out (by decide)).mono ?_
     rintro e w1 ⟨lr, rfl, hlen, hB1, hv1, hb1⟩
     have hbb := HB _ _ (by go_grown) hb1
     have q0 := (hG0.up hbb.out).p0
     have q1 := (hG0.up hbb.out).p1
     have q2 := (hG0.up hbb.out).p2
     have q3 := (hG0.up hbb.out).p3
     have q4 := (hG0.up hbb.out).sizeP
     first
     | (have hz5 : B4 w1 w0.heap.size 0 0 0 0 := B4.below (first4 w0 35) hb1 (by simp)
        have y0 := hz5.c0
        have y1 := hz5.c1
        have y2 := hz5.c2
        have y3 := hz5.c3
        have y4 := hz5.frozen
        rw [show (w0.alloc (.cells #[.int .u64 0, .int .u64 0, .int .u64 0, .int .u64 0] 35)).drew.heap.size = w0.heap.size + 1 by simp] at hB1)
     | (change BlkW w1 w0.heap.size _ _ at hB1)))
  all_goals first
    | (have hx : Hid (FB w w0.heap.size w1.heap.size (w1.alloc (o4 35 4891460686036598785 2896914383306846353 13281191951274694749 3486998266802970665)) lr (val 256 b)) :=
         hid ⟨hlen, hv1, hB1.below ((Below.refl _ _).alloc (Nat.le_refl _) _) hB1.size, o4_new w1 _ _ _ _ _, ((hz0.below hbb.out hz0.size).alloc _), (hl0.trans (hbb.out.mono hl0.size)).alloc (hl0.trans (hbb.out.mono hl0.size)).size _⟩
       change Exit.then _ _ _ _ (w1.alloc (o4 35 4891460686036598785 2896914383306846353 13281191951274694749 3486998266802970665))
       clear hB1 hb1 hbb q0 q1 q2 q3 q4 g0 g1 g2 g3 HR HB E0 hG0 hz0 hl0 szP hlen hv1
       generalize w1.alloc (o4 35 4891460686036598785 2896914383306846353 13281191951274694749 3486998266802970665) = wx at hx ⊢
       generalize w1.heap.size = bx at hx ⊢
       generalize w0.heap.size = bl at hx ⊢)
    | (have hx : Hid (FB w (w0.heap.size + 1) w0.heap.size ((((w1.setCell ⟨w0.heap.size, 0, none⟩ (.int .u64 4891460686036598785)).setCell ⟨w0.heap.size, 1, none⟩ (.int .u64 2896914383306846353)).setCell ⟨w0.heap.size, 2, none⟩ (.int .u64 13281191951274694749)).setCell ⟨w0.heap.size, 3, none⟩ (.int .u64 3486998266802970665)) lr (val 256 b)) :=
         hid ⟨hlen, hv1, hB1.others (by omega), hz5.all _ _ _ _, (hz0.below hbb.out hz0.size).others (by have := E0.out; omega), below_all (hl0.trans (hbb.out.mono hl0.size)) hl0.size _ _ _ _⟩
       change Exit.then _ _ _ _ ((((w1.setCell ⟨w0.heap.size, 0, none⟩ (.int .u64 4891460686036598785)).setCell ⟨w0.heap.size, 1, none⟩ (.int .u64 2896914383306846353)).setCell ⟨w0.heap.size, 2, none⟩ (.int .u64 13281191951274694749)).setCell ⟨w0.heap.size, 3, none⟩ (.int .u64 3486998266802970665))
       clear hB1 hb1 hbb q0 q1 q2 q3 q4 g0 g1 g2 g3 HR HB E0 hG0 hz0 hl0 szP hlen hv1 hz5 y0 y1 y2 y3 y4
       generalize ((((w1.setCell ⟨w0.heap.size, 0, none⟩ (.int .u64 4891460686036598785)).setCell ⟨w0.heap.size, 1, none⟩ (.int .u64 2896914383306846353)).setCell ⟨w0.heap.size, 2, none⟩ (.int .u64 13281191951274694749)).setCell ⟨w0.heap.size, 3, none⟩ (.int .u64 3486998266802970665)) = wx at hx ⊢
       generalize w0.heap.size + 1 = bl at hx ⊢
       generalize w0.heap.size = bx at hx ⊢)
  all_goals clear ha hG
  all_goals
    obtain ⟨hlen, hv, hL, hP, hZ, hl⟩ := hx.out
    have rl : Rd wx wx.heap.size (some ⟨bl, 0, none⟩) 4 lr := by
      have rd := hL.rd (off := 0) (n := lr.length) (B := wx.heap.size) (by omega) hL.size
      rw [List.drop_zero, List.take_length, hlen] at rd
      exact rd
    have rp := hP.rd prime4 hP.size
    have HV := hid hv
    clear hlen hv hx hL hP
    go_wp2_with fail
    refine (cmp_c _ _ 4 4 4 4 lr _ wx wx.heap.size rl rp (by omega) (by omega)).mono ?_
    rintro e w' ⟨rfl, rfl⟩
    rw [val_prime, HV.out]
    have hge : decide (0 ≤ cmpN (val 256 b) pN) = true := cmpN_ge hp.out
    have z0 := hZ.c0
    have z1 := hZ.c1
    have z2 := hZ.c2
    have z3 := hZ.c3
    have fz := hZ.frozen
    clear hZ rl rp
    go_wp2
    refine bodyPost_ret (by simp [results, Tryz.results96, go_sem, z0, z1, z2, z3]; rfl) rfl ?_
    exact ⟨_, rfl, El.zero, below_all hl (Nat.le_refl _) _ _ _ _⟩
set_option maxRecDepth 20000 in
set_option maxHeartbeats 4000000 in
theorem fromBytes_ok (A : Option Addr) (c : Nat) (b : List Nat) (w : World) (ha : Rd8 w w.heap.size A 32 b) (hG : Glob w) (hp : Hid (val 256 b < pN)) :
    Calls Tryz.prog 96 #[.slice A 32 c] w fun e w' => ∃ r, e = .returned (.tuple #[r, .int .i64 0]) ∧ El r (val 256 b) ∧ Below w.heap.size w w' := by
  have hl0 := (Below.refl w.heap.size w).alloc (Nat.le_refl _) (o4 37 0 0 0 0)
  have hz0 := o4_new w 37 0 0 0 0
  have e0 : (w.alloc (o4 37 0 0 0 0)).heap.size = w.heap.size + 1 := by simp
  have hG0 := hG.up hl0
  have ra0 := ha.up hl0 (Nat.le_refl _)
  have g0 := hG0.p0
  have g1 := hG0.p1
  have g2 := hG0.p2
  have g3 := hG0.p3
  have szP := hG0.sizeP
  go_enter Tryz.func96, Tryz.ntmps96
  go_wp2
  change Code.wp _ _ _ _ (w.alloc (o4 37 0 0 0 0))
  generalize w.alloc (o4 37 0 0 0 0) = w0 at *
  have HR : ∀ x : World, Below w0.heap.size w0 x → Hid (Rd8 x x.heap.size A 32 b) := fun x hx => hid (ra0.up hx (Nat.le_refl _))
  have HB : ∀ x y : World, Below w0.heap.size w0 x → Below x.heap.size x y → Hid (Below w0.heap.size w0 y) := fun x y hx hy => hid (hx.trans (hy.mono hx.size))
  have E0 := hid e0
  clear ra0 e0
  go_region_with (
    (go_at_call 61
     refine (limbWords_n A 32 c b _ (HR _ (by go_grown)).out (by decide)).mono ?_
     rintro e w1 ⟨lr, rfl, hlen, hB1, hv1, hb1⟩
     have hbb := HB _ _ (by go_grown) hb1
     have q0 := (hG0.up hbb.out).p0
     have q1 := (hG0.up hbb.out).p1
     have q2 := (hG0.up hbb.out).p2
     have q3 := (hG0.up hbb.out).p3
     have q4 := (hG0.up hbb.out).sizeP
     first
     | (have hz5 : B4 w1 w0.heap.size 0 0 0 0 := B4.below (first4 w0 35) hb1 (by simp)
        have y0 := hz5.c0
        have y1 := hz5.c1
        have y2 := hz5.c2
        have y3 := hz5.c3
        have y4 := hz5.frozen
        rw [show (w0.alloc (.cells #[.int .u64 0, .int .u64 0, .int .u64 0, .int .u64 0] 35)).drew.heap.size = w0.heap.size + 1 by simp] at hB1)
     | (change BlkW w1 w0.heap.size _ _ at hB1)))
  all_goals first
    | (have hx : Hid (FB w w0.heap.size w1.heap.size (w1.alloc (o4 35 4891460686036598785 2896914383306846353 13281191951274694749 3486998266802970665)) lr (val 256 b)) :=
         hid ⟨hlen, hv1, hB1.below ((Below.refl _ _).alloc (Nat.le_refl _) _) hB1.size, o4_new w1 _ _ _ _ _, ((hz0.below hbb.out hz0.size).alloc _), (hl0.trans (hbb.out.mono hl0.size)).alloc (hl0.trans (hbb.out.mono hl0.size)).size _⟩
       change Exit.then _ _ _ _ (w1.alloc (o4 35 4891460686036598785 2896914383306846353 13281191951274694749 3486998266802970665))
       clear hB1 hb1 hbb q0 q1 q2 q3 q4 g0 g1 g2 g3 HR HB E0 hG0 hz0 hl0 szP hlen hv1
       generalize w1.alloc (o4 35 4891460686036598785 2896914383306846353 13281191951274694749 3486998266802970665) = wx at hx ⊢
       generalize w1.heap.size = bx at hx ⊢
       generalize w0.heap.size = bl at hx ⊢)
    | (have hx : Hid (FB w (w0.heap.size + 1) w0.heap.size ((((w1.setCell ⟨w0.heap.size, 0, none⟩ (.int .u64 4891460686036598785)).setCell ⟨w0.heap.size, 1, none⟩ (.int .u64 2896914383306846353)).setCell ⟨w0.heap.size, 2, none⟩ (.int .u64 13281191951274694749)).setCell ⟨w0.heap.size, 3, none⟩ (.int .u64 3486998266802970665)) lr (val 256 b)) :=
         hid ⟨hlen, hv1, hB1.others (by omega), hz5.all _ _ _ _, (hz0.below hbb.out hz0.size).others (by have := E0.out; omega), below_all (hl0.trans (hbb.out.mono hl0.size)) hl0.size _ _ _ _⟩
       change Exit.then _ _ _ _ ((((w1.setCell ⟨w0.heap.size, 0, none⟩ (.int .u64 4891460686036598785)).setCell ⟨w0.heap.size, 1, none⟩ (.int .u64 2896914383306846353)).setCell ⟨w0.heap.size, 2, none⟩ (.int .u64 13281191951274694749)).setCell ⟨w0.heap.size, 3, none⟩ (.int .u64 3486998266802970665))
       clear hB1 hb1 hbb q0 q1 q2 q3 q4 g0 g1 g2 g3 HR HB E0 hG0 hz0 hl0 szP hlen hv1 hz5 y0 y1 y2 y3 y4
       generalize ((((w1.setCell ⟨w0.heap.size, 0, none⟩ (.int .u64 4891460686036598785)).setCell ⟨w0.heap.size, 1, none⟩ (.int .u64 2896914383306846353)).setCell ⟨w0.heap.size, 2, none⟩ (.int .u64 13281191951274694749)).setCell ⟨w0.heap.size, 3, none⟩ (.int .u64 3486998266802970665)) = wx at hx ⊢
       generalize w0.heap.size + 1 = bl at hx ⊢
       generalize w0.heap.size = bx at hx ⊢)
  all_goals clear ha
  all_goals
    obtain ⟨hlen, hv, hL, hP, hZ, hl⟩ := hx.out
    have rl : Rd wx wx.heap.size (some ⟨bl, 0, none⟩) 4 lr := by
      have rd := hL.rd (off := 0) (n := lr.length) (B := wx.heap.size) (by omega) hL.size
      rw [List.drop_zero, List.take_length, hlen] at rd
      exact rd
    have rp := hP.rd prime4 hP.size
    have HV := hid hv
    clear hlen hv hx hL hP
    go_wp2_with fail
    refine (cmp_c _ _ 4 4 4 4 lr _ wx wx.heap.size rl rp (by omega) (by omega)).mono ?_
    rintro e w' ⟨rfl, rfl⟩
    rw [val_prime, HV.out]
    have hge : decide (0 ≤ cmpN (val 256 b) pN) = false := cmpN_lt' hp.out
    have hGx := hG.up hl
    clear rp
    go_wp2_with fail
    refine (ofRest_c _ 4 4 lr wx rl (by omega) (hid (by rw [HV.out]; exact hp.out)) hGx).mono ?_
    rintro e w2 ⟨r, rfl, hr, hb2⟩
    rw [HV.out] at hr
    have R := hid hr
    obtain ⟨r0, r1, r2, r3, rfl, -, -, -⟩ := hr
    have hZ2 := hZ.below hb2 hZ.size
    have hl2 := hl.trans (hb2.mono hl.size)
    have z0 := hZ2.c0
    have z1 := hZ2.c1
    have z2 := hZ2.c2
    have z3 := hZ2.c3
    have fz := hZ2.frozen
    clear hZ hZ2 rl hb2 hGx
    unfold w4
    go_wp2
    refine bodyPost_ret (by simp [results, Tryz.results96, go_sem, z0, z1, z2, z3]; rfl) rfl ?_
    exact ⟨_, rfl, R.out, below_all hl2 (Nat.le_refl _) _ _ _ _⟩
end Go.Proofs.YtdepkfdceidikaaGreatDoor
/-
  grain.Source.bytes, Element: what each call does.
-/
namespace Go.Proofs.YtdepkfdceidikaaGreatDoor
open Go.RowKit
set_option linter.unusedVariables false

theorem Only.setUp {b q : Nat} {w w' : World} (h : Only b w w') (hq : w.heap.size ≤ q) (i : Nat) (v : Value) : Only b w (w'.setCell ⟨q, i, none⟩ v) :=
  ⟨h.os, h.tape, h.output, by have := h.size; simp [World.setCell]; omega, fun k hk hb => by
    have e := h.block k hk hb
    rw [← e]
    simp only [World.setCell]
    rw [Array.getElem?_modify, if_neg (by show ¬ q = k; omega)]⟩
theorem Only.setsUp {b q : Nat} {w : World} (hq : w.heap.size ≤ q) : ∀ (vs : List Value) (o : Nat) (w' : World), Only b w w' → Only b w (w'.setCells q o vs)
  | [], _, _, h => h
  | v :: r, o, w', h => Only.setsUp hq r (o + 1) _ (h.setUp hq o v)
theorem Only.alloc {b : Nat} {w w' : World} (h : Only b w w') (o : Obj) : Only b w (w'.alloc o) :=
  h.trans (Only.of ((Below.refl _ _).alloc (Nat.le_refl _) o))
def z32 : List Nat := List.replicate 32 0
theorem zero32v (v : World) : (zeroValue 90).run Tryz.prog v = .ok (.agg (cells8 z32).toArray) v := by kernel_rfl
theorem size32v : (Tryz.prog.info? 90).map (·.size) = some 32 := by kernel_rfl
/-- The bytes when k + 1 of them are laid. -/
noncomputable def gbk (k s : Nat) : List Nat := List.replicate (31 - k) 0 ++ gbl k s
theorem gbk_len {k : Nat} (h : k ≤ 31) (s : Nat) : (gbk k s).length = 32 := by
  unfold gbk
  rw [List.length_append, List.length_replicate, gbl_len]
  omega
theorem gbk_succ {k : Nat} (h : k < 31) (s : Nat) : (gbk k s).set (30 - k) (gval 8 (gns (6 + 8 * k) s)) = gbk (k + 1) s := by
  unfold gbk
  rw [show 31 - k = (30 - k) + 1 by omega, List.replicate_succ', List.append_assoc, List.set_append_right _ _ (by rw [List.length_replicate]; exact Nat.le_refl _), List.length_replicate, Nat.sub_self, show 31 - (k + 1) = 30 - k by omega]
  rfl
theorem gbk_first (s : Nat) : z32.set 31 (gval 6 s) = gbk 0 s := rfl
theorem gbk_last (s : Nat) : gbk 31 s = gby s := by
  unfold gbk gby
  rfl
/-- What lies when k + 1 bytes are laid. -/
structure ByR (w : World) (b : Nat) (t : TypeId) (s q2 q3 k : Nat) (wr : World) : Prop where
  g : G8 wr b t (gns (6 + 8 * k) s)
  r : BlkV wr q2 90 (cells8 z32)
  l : BlkV wr q3 90 (cells8 (gbk k s))
  o : Only b w wr
theorem u8_small {x : Nat} (h : x < 256) : IntKind.u8.wrap (x : Int) = (x : Int) := by rw [IntKind.wrap_u8]; omega
set_option maxRecDepth 20000 in
set_option maxHeartbeats 2000000 in
theorem gbytes_c (s b : Nat) (t : TypeId) (w : World) (hs : GS s) (hB : G8 w b t s) :
    Calls Tryz.prog 95 #[.pointer (some ⟨b, 0, none⟩)] w fun e w' => e = .returned (.agg (cells8 (gby s)).toArray) ∧ G8 w' b t (gns 254 s) ∧ Only b w w' := by
  have hb := hB.size
  have e1 : (w.alloc (.cells (cells8 z32).toArray 90)).heap.size = w.heap.size + 1 := by simp
  have g2 := BlkV.new w 90 (cells8 z32)
  have g3 := BlkV.new (w.alloc (.cells (cells8 z32).toArray 90)) 90 (cells8 z32)
  rw [e1] at g3
  have g2' := g2.alloc (.cells (cells8 z32).toArray 90)
  have o0 := ((Only.refl b w).alloc (.cells (cells8 z32).toArray 90)).alloc (.cells (cells8 z32).toArray 90)
  have gb := (BlkV.alloc hB (.cells (cells8 z32).toArray 90)).alloc (.cells (cells8 z32).toArray 90)
  have H2 := hid g2'
  have H3 := hid g3
  have HO0 := hid o0
  have HGB := hid gb
  have hz := zero32v
  have hlz : (cells8 z32).length = 32 := rfl
  clear e1 g2 g2' g3 o0 gb hB
  go_enter Tryz.func95, Tryz.ntmps95
  go_wp2_with fail
  have N1 := gnumber_c s b 6 t _ hs HGB.out
  rw [show gmany 6 = 6 by decide] at N1
  refine N1.mono ?_
  clear N1
  rintro e w1 ⟨rfl, g1, o1⟩
  have n2 : w.heap.size ≠ b := by omega
  have n3 : w.heap.size + 1 ≠ b := by omega
  have r1 := o1.blk H2.out n2
  have l1 := o1.blk H3.out n3
  have O1 := HO0.out.trans o1
  have hST : ByR w b t s w.heap.size (w.heap.size + 1) 0 (w1.setCell ⟨w.heap.size + 1, 31, none⟩ (.int .u8 ((gval 6 s : Nat) : Int))) := by
    refine ⟨BlkV.other g1 (by omega), r1.other (by omega), ?_, O1.setUp (Nat.le_succ _) _ _⟩
    have h := l1.set 31 (.int .u8 ((gval 6 s : Nat) : Int))
    rw [cells8_set, gbk_first] at h
    exact h
  have hx256 : gval 6 s < 256 := by have := gval_lt 6 s; omega
  obtain ⟨x, hx⟩ : ∃ x, x = gval 6 s := ⟨_, rfl⟩
  rw [← hx] at hST hx256 ⊢
  have HST := hid hST
  have f31 := l1.frozen 31
  have c31 := BlkV.cell8 l1 (i := 31) (by decide)
  have hwx := u8_small hx256
  clear hx hST r1 l1 O1 g1 o1 H2 H3 HO0 HGB hz hlz
  go_wp2
  go_loopw [5] (fun i wr => ∃ (k : Nat) (i' : Int), k ≤ 31 ∧ Hid (i' = 30 - (k : Int)) ∧ i = .int .i64 i' ∧ ByR w b t s w.heap.size (w.heap.size + 1) k wr) (fun i _ => (intOf i + 1).toNat)
  case atStart => exact ⟨0, 30, Nat.zero_le _, rfl, rfl, HST.out⟩
  case round =>
    clear HST
    obtain ⟨k, i', hk, HI, rfl, hrel⟩ := hrel
    have HR := hid hrel
    clear hrel hwx c31 f31
    by_cases hlt : k < 31
    · obtain ⟨j, hj⟩ : ∃ j : Nat, j = 30 - k := ⟨_, rfl⟩
      obtain rfl : i' = (j : Int) := by have := HI.out; omega
      have j0 : (0 : Int) ≤ (j : Int) := by omega
      have j32 : (j : Int) < 32 := by omega
      have HJ := hid hj
      have j30 : j ≤ 30 := by omega
      clear HI hj
      go_wp2_with fail
      have N1 := gnumber_c (gns (6 + 8 * k) s) b 8 t wr (GS.ns _ hs) HR.out.g
      rw [show gmany 8 = 8 by decide] at N1
      refine N1.mono ?_
      clear N1
      rintro e w2 ⟨rfl, g2, o2⟩
      have r2 := o2.blk HR.out.r n2
      have l2 := o2.blk HR.out.l n3
      have O2 := HR.out.o.trans o2
      have hST : ByR w b t s w.heap.size (w.heap.size + 1) (k + 1) (w2.setCell ⟨w.heap.size + 1, j, none⟩ (.int .u8 ((gval 8 (gns (6 + 8 * k) s) : Nat) : Int))) := by
        refine ⟨?_, r2.other (by omega), ?_, O2.setUp (Nat.le_succ _) _ _⟩
        · have h := BlkV.other (v := .int .u8 ((gval 8 (gns (6 + 8 * k) s) : Nat) : Int)) (c := w.heap.size + 1) (i := j) g2 (by omega)
          rw [← gns_add] at h
          exact h
        · have h := l2.set j (.int .u8 ((gval 8 (gns (6 + 8 * k) s) : Nat) : Int))
          rw [cells8_set, HJ.out, gbk_succ hlt, ← HJ.out] at h
          exact h
      have hy256 : gval 8 (gns (6 + 8 * k) s) < 256 := by have := gval_lt 8 (gns (6 + 8 * k) s); omega
      obtain ⟨y, hy⟩ : ∃ y, y = gval 8 (gns (6 + 8 * k) s) := ⟨_, rfl⟩
      rw [← hy] at hST hy256 ⊢
      have HST := hid hST
      have fj := l2.frozen j
      have cj := BlkV.cell8 l2 (i := j) (by rw [gbk_len hk]; omega)
      have hwy := u8_small hy256
      generalize at64 (gbk k s) j = u at *
      clear hy hST r2 l2 O2 g2 o2
      go_wp2
      go_roundw
      case rel => exact ⟨k + 1, 30 - ((k + 1 : Nat) : Int), by omega, rfl, by have := HJ.out; first | go_num | (congr 1; omega), HST.out⟩
      case measure => simp [intOf] <;> omega
    · have e31 : k = 31 := by omega
      obtain rfl : i' = -1 := by have := HI.out; omega
      rw [e31] at HR
      have hg := HR.out.g
      have hl := HR.out.l
      rw [gbk_last] at hl
      rw [show 6 + 8 * 31 = 254 by decide] at hg
      have hlen : (cells8 (gby s)).length = 32 := by unfold cells8; rw [List.length_map, gby_len]
      have hone : ∀ v ∈ cells8 (gby s), v.oneCell' = true := by intro v hv; unfold cells8 at hv; obtain ⟨x, _, rfl⟩ := List.mem_map.1 hv; rfl
      obtain ⟨cs, hcs⟩ : ∃ cs, cs = cells8 (gby s) := ⟨_, rfl⟩
      have HCS := hid hcs
      rw [← hcs] at hl hlen hone
      have hst : (storeCells ⟨w.heap.size, 0, none⟩ cs).run Tryz.prog wr = .ok () (wr.setCells w.heap.size 0 cs) :=
        storeV cs 0 HR.out.r (by rw [hlen]; decide) hone
      have HRR := hid (BlkV.whole cs HR.out.r (by rw [hlen]; rfl)).range
      have HO := hid hl.range
      have HSz : Hid ((Tryz.prog.info? 90).map (·.size) = some cs.length) := size32v.trans (congrArg some hlen.symm)
      have HG := hid (BlkV.put (show b ≠ w.heap.size by omega) cs 0 wr hg)
      have HOO := hid (Only.setsUp (Nat.le_refl w.heap.size) cs 0 wr HR.out.o)
      clear hcs hg hl hone HR HI e31
      go_wp2_with (with_reducible refine wpList_load_mid rfl 90 (.tmp 3) rfl (w.heap.size + 1) 0 rfl cs _ (by with_reducible exact HO.out) Tryz.underlying90 rfl HSz.out ?_)
      refine bodyPost_ret (results_cell1 Tryz.results95 ⟨w.heap.size, 0, none⟩ _ rfl (run_loadVar_mid _ w.heap.size 0 90 cs _ HRR.out Tryz.underlying90 rfl HSz.out)) rfl ?_
      exact ⟨by rw [HCS.out], HG.out, HOO.out⟩
end Go.Proofs.YtdepkfdceidikaaGreatDoor
/-
  grain.Source.Element: what the call does.
-/
namespace Go.Proofs.YtdepkfdceidikaaGreatDoor
open Go.RowKit
set_option linter.unusedVariables false

theorem Only.globF {b : Nat} {w w' : World} (h : Only b w w') (hG : Glob w) (hlo : 0 < b ∧ 1 < b) : Glob w' := by
  have key : ∀ g : Nat, g < w.heap.size → g < b → ∀ i, w'.cell? ⟨g, i, none⟩ = w.cell? ⟨g, i, none⟩ := fun g h1 h2 i =>
    (h.below (B := g + 1) (by omega) (by omega)).cell (p := ⟨g, i, none⟩) (Nat.lt_succ_self g)
  have p := key _ hG.sizeP hlo.1
  have r := key _ hG.sizeR hlo.2
  exact ⟨Nat.lt_of_lt_of_le hG.sizeP h.size, Nat.lt_of_lt_of_le hG.sizeR h.size, (p 0).trans hG.p0, (p 1).trans hG.p1, (p 2).trans hG.p2, (p 3).trans hG.p3, (r 0).trans hG.r0, (r 1).trans hG.r1, (r 2).trans hG.r2, (r 3).trans hG.r3⟩
/-- The register on the way: its next element is the one that is looked for. -/
structure ElR (w : World) (b : Nat) (t : TypeId) (z y x : Nat) (wr : World) : Prop where
  gs : GS x
  g : G8 wr b t x
  r : B4 wr w.heap.size 0 0 0 0
  o : Only b w wr
  gl : Glob wr
  hv : gelv x = z
  hr : gelr x = y
theorem Only.b4 {b c : Nat} {w w' : World} {a0 a1 a2 a3 : Int} (h : Only b w w') (hB : B4 w c a0 a1 a2 a3) (hne : c ≠ b) : B4 w' c a0 a1 a2 a3 := by
  have hs := hB.size
  obtain ⟨t, e⟩ := hB.heap
  exact ⟨t, (h.block c hs hne).trans e⟩
/-- Four words stored into a variable that is new. -/
theorem four_put {w v : World} {b q y : Nat} {t : TypeId} (hg : G8 v b t y) (ho : Only b w v) (hb : b < w.heap.size) (hq : w.heap.size ≤ q) (x0 x1 x2 x3 : Int) :
    G8 ((((v.setCell ⟨q, 0, none⟩ (.int .u64 x0)).setCell ⟨q, 1, none⟩ (.int .u64 x1)).setCell ⟨q, 2, none⟩ (.int .u64 x2)).setCell ⟨q, 3, none⟩ (.int .u64 x3)) b t y ∧
    Only b w ((((v.setCell ⟨q, 0, none⟩ (.int .u64 x0)).setCell ⟨q, 1, none⟩ (.int .u64 x1)).setCell ⟨q, 2, none⟩ (.int .u64 x2)).setCell ⟨q, 3, none⟩ (.int .u64 x3)) :=
  have hne : b ≠ q := by omega
  ⟨(((BlkV.other hg hne).other hne).other hne).other hne, (((ho.setUp hq _ _).setUp hq _ _).setUp hq _ _).setUp hq _ _⟩
theorem B4.range {w : World} {b : Nat} {a0 a1 a2 a3 : Int} (h : B4 w b a0 a1 a2 a3) : w.rangeAt b 0 [.int .u64 a0, .int .u64 a1, .int .u64 a2, .int .u64 a3] := by
  obtain ⟨t, e⟩ := h.heap
  exact BlkV.range (t := t) ⟨e⟩
theorem sizeE4 : (Tryz.prog.info? 37).map (·.size) = some 4 := by kernel_rfl
theorem B4.result {fn : Func} {p : Tmp} {w : World} {tmps : Array Value} {b : Nat} {a0 a1 a2 a3 : Int} (hr : Hid (B4 w b a0 a1 a2 a3)) (h : fn.results = #[.cell p 37]) (hp : tmps.getD p undef = .pointer (some ⟨b, 0, none⟩)) :
    (results fn tmps).run Tryz.prog w = .ok (.agg #[.int .u64 a0, .int .u64 a1, .int .u64 a2, .int .u64 a3]) w :=
  results_cell1 h ⟨b, 0, none⟩ _ hp (run_loadVar_mid _ b 0 37 [.int .u64 a0, .int .u64 a1, .int .u64 a2, .int .u64 a3] _ hr.out.range Tryz.underlying37 rfl sizeE4)
theorem rd8_blk {w : World} {b : Nat} {t : TypeId} {l : List Nat} (h : BlkV w b t (cells8 l)) (hl : allLt8 l) : Rd8 w w.heap.size (some ⟨b, 0, none⟩) l.length l :=
  ⟨rfl, hl, fun _ => ⟨b, 0, rfl, h.size, fun i hi => by rw [Nat.zero_add]; exact BlkV.cell8 h hi⟩⟩
set_option maxRecDepth 20000 in
set_option maxHeartbeats 2000000 in
theorem gelem_c (s b : Nat) (t : TypeId) (w : World) (hs : GS s) (hB : G8 w b t s) (hG : Glob w) (hlo : 0 < b ∧ 1 < b) :
    Calls Tryz.prog 66 #[.pointer (some ⟨b, 0, none⟩)] w fun e w' => ∃ r, e = .returned r ∧ El r (gelv s) ∧ G8 w' b t (gelr s) ∧ Only b w w' := by
  have hb := hB.size
  have R0 : Hid (ElR w b t (gelv s) (gelr s) s (w.alloc (.cells #[.int .u64 0, .int .u64 0, .int .u64 0, .int .u64 0] 37))) :=
    ⟨hs, BlkV.alloc hB _, B4.new w 37 0 0 0 0, (Only.refl b w).alloc _, hG.up ((Below.refl _ _).alloc (Nat.le_refl _) _), rfl, rfl⟩
  generalize gelv s = z at *
  generalize gelr s = y at *
  clear hs hB hG
  go_enter Tryz.func66, Tryz.ntmps66
  go_wp2_with fail
  generalize w.alloc _ = w0 at *
  go_loopw [6] (fun _ wr => ∃ x, ElR w b t z y x wr) (fun _ w' => gel (regAt w' b t))
  case atStart => exact ⟨s, R0.out⟩
  case round =>
    clear R0
    obtain ⟨x, hrel⟩ := hrel
    have HR := hid hrel
    clear hrel
    go_wp2_with fail
    refine (gbytes_c x b t wr HR.out.gs HR.out.g).mono ?_
    rintro e w1 ⟨rfl, g1, o1⟩
    have hlen : (cells8 (gby x)).length = 32 := by unfold cells8; rw [List.length_map, gby_len]
    have hone : ∀ v ∈ cells8 (gby x), v.oneCell' = true := by intro v hv; unfold cells8 at hv; obtain ⟨x, _, rfl⟩ := List.mem_map.1 hv; rfl
    have n1 := BlkV.new w1 90 (cells8 z32)
    have hst : (storeCells ⟨w1.heap.size, 0, none⟩ (cells8 (gby x))).run Tryz.prog (w1.alloc (.cells (cells8 z32).toArray 90)) = .ok () ((w1.alloc (.cells (cells8 z32).toArray 90)).setCells w1.heap.size 0 (cells8 (gby x))) :=
      storeV _ 0 n1 (by rw [hlen]; decide) hone
    have k1 := BlkV.whole (cells8 (gby x)) n1 (by rw [hlen]; rfl)
    have hrd := rd8_blk k1 (gbl_lt 31 x)
    rw [gby_len] at hrd
    have hlz : (cells8 z32).length = 32 := rfl
    have hz := zero32v
    have b1 := below_cells (Nat.le_refl w1.heap.size) (cells8 (gby x)) 0 _ ((Below.refl w1.heap.size w1).alloc (Nat.le_refl _) (.cells (cells8 z32).toArray 90))
    have HG2 := hid (BlkV.up g1 b1)
    have nr : w.heap.size ≠ b := by omega
    have HR2 := hid ((o1.b4 HR.out.r nr).below b1 (o1.b4 HR.out.r nr).size)
    have HO2 := hid ((HR.out.o.trans o1).trans (Only.of b1))
    have HGL := hid ((o1.globF HR.out.gl hlo).up b1)
    have HV := hid (gby_val x)
    have HRD := hid hrd
    obtain ⟨cs, hcs⟩ : ∃ cs, cs = cells8 (gby x) := ⟨_, rfl⟩
    rw [← hcs] at hlen hst HG2 HR2 HO2 HGL HRD ⊢
    clear hone n1 k1 hrd b1 g1 o1 hcs
    go_wp2_with fail
    generalize ((w1.alloc _).setCells _ _ _) = w2 at *
    generalize w1.heap.size = q3 at *
    clear hst hlen hlz hz
    by_cases hp : gval 254 x < pN
    · refine (fromBytes_ok _ _ (gby x) w2 HRD.out HGL.out (by show _ < _; rw [HV.out]; exact hp)).mono ?_
      rintro e w3 ⟨r, rfl, hr, b3⟩
      rw [HV.out] at hr
      have HE := hid hr
      obtain ⟨r0, r1, r2, r3, rfl, -, -, -⟩ := hr
      have HH := hid (gel_here HR.out.gs hp)
      have hr3 := (HR2.out.below b3 HR2.out.size).alloc (o4 37 r0 r1 r2 r3)
      have c0 := hr3.c0
      have c1 := hr3.c1
      have c2 := hr3.c2
      have c3 := hr3.c3
      have f0 := hr3.frozen 0
      have f1 := hr3.frozen 1
      have f2 := hr3.frozen 2
      have f3 := hr3.frozen 3
      have HRES := hid (hr3.all r0 r1 r2 r3)
      have FIN := hid (four_put (BlkV.alloc (BlkV.up HG2.out b3) (o4 37 r0 r1 r2 r3)) ((HO2.out.trans (Only.of b3)).alloc (o4 37 r0 r1 r2 r3)) hb (Nat.le_refl _) r0 r1 r2 r3)
      have HE2 : Hid (El (w4 r0 r1 r2 r3) z) := by
        show El _ _
        rw [← HR.out.hv, HH.out.1]
        exact HE.out
      have HR2' : Hid (gns 254 x = y) := by
        show _ = _
        rw [← HR.out.hr, HH.out.2]
      rw [HR2'.out] at FIN
      clear hr3 b3 HRD hp HV HGL HO2 HG2 HR2 HR HE HH HR2'
      unfold w4 o4 at *
      go_wp2_with fail
      refine bodyPost_ret (B4.result HRES Tryz.results66 rfl) rfl ?_
      exact ⟨_, rfl, HE2.out, FIN.out.1, FIN.out.2⟩
    · refine (fromBytes_canon _ _ (gby x) w2 HRD.out HGL.out (by show _ ≤ _; rw [HV.out]; exact Nat.le_of_not_lt hp)).mono ?_
      rintro e w3 ⟨r, rfl, hr, b3⟩
      obtain ⟨r0, r1, r2, r3, rfl, -, -, -⟩ := hr
      have HL := hid (gel_later HR.out.gs hp)
      have bu := b3.trans ((Below.refl w2.heap.size w3).alloc b3.size (o4 37 r0 r1 r2 r3))
      have HN : Hid (ElR w b t z y (gns 254 x) (w3.alloc (o4 37 r0 r1 r2 r3))) :=
        ⟨GS.ns 254 HR.out.gs, BlkV.up HG2.out bu, HR2.out.below bu HR2.out.size, HO2.out.trans (Only.of bu), HGL.out.up bu, HL.out.1.trans HR.out.hv, HL.out.2.1.trans HR.out.hr⟩
      have HM : Hid (gel (regAt (w3.alloc (o4 37 r0 r1 r2 r3)) b t) < gel (regAt wr b t)) := by
        show _ < _
        rw [regAt_eq HN.out.g HN.out.gs.lt, regAt_eq HR.out.g HR.out.gs.lt]
        exact HL.out.2.2
      clear bu b3 HRD hp HV HGL HO2 HG2 HR2 HR HL
      unfold w4 o4 at *
      go_wp2_with fail
      go_roundw
      case rel => exact ⟨_, HN.out⟩
      case measure => exact HM.out
end Go.Proofs.YtdepkfdceidikaaGreatDoor
