/-
  field.FromBytes: what the call does.
-/
import Derived.Test.YtpjjobophplleaaDoorFldI
namespace Go.Proofs.YtpjjobophplleaaDoor
open Go.RowKit
set_option linter.unusedVariables false

set_option maxRecDepth 20000 in
theorem fromBytes_len (A : Option Addr) (n c : Nat) (w : World) (hn : n ≠ 32) :
    Calls Tryd.prog 27 #[.slice A n c] w fun e w' => ∃ r, e = .returned (.tuple #[r, .int .i64 1]) ∧ El r 0 ∧ Below w.heap.size w w' := by
  have h : ((n : Int) != 32) = true := by simp; omega
  go_enter Tryd.func27, Tryd.ntmps27
  go_wp2
  go_returns
  exact ⟨_, rfl, El.zero, by go_grown⟩

/-- What is known behind the reading of the words and of the prime. -/
def FB (w : World) (bl bx : Nat) (wx : World) (lr : List Nat) (X : Nat) : Prop :=
  lr.length = (32 + 7) / 8 ∧ val 18446744073709551616 lr = X ∧ BlkW wx bl 36 lr ∧ B4 wx bx 4891460686036598785 2896914383306846353 13281191951274694749 3486998266802970665 ∧ B4 wx w.heap.size 0 0 0 0 ∧ Below w.heap.size w wx
theorem BlkW.other {w : World} {b c i : Nat} {t : TypeId} {v : Value} {ws : List Nat} (h : BlkW w b t ws) (hne : b ≠ c) : BlkW (w.setCell ⟨c, i, none⟩ v) b t ws := by
  refine ⟨?_, h.lt⟩
  simp only [World.setCell]
  rw [Array.getElem?_modify, if_neg (by omega)]
  exact h.heap
theorem BlkW.others {w : World} {b c : Nat} {t : TypeId} {ws : List Nat} {x0 x1 x2 x3 : Int} (h : BlkW w b t ws) (hne : b ≠ c) : BlkW ((((w.setCell ⟨c, 0, none⟩ (.int .u64 x0)).setCell ⟨c, 1, none⟩ (.int .u64 x1)).setCell ⟨c, 2, none⟩ (.int .u64 x2)).setCell ⟨c, 3, none⟩ (.int .u64 x3)) b t ws :=
  (((h.other hne).other hne).other hne).other hne
theorem first4 (w : World) (t : TypeId) : B4 (w.alloc (.cells #[.int .u64 0, .int .u64 0, .int .u64 0, .int .u64 0] t)).drew w.heap.size 0 0 0 0 := (o4_new w t 0 0 0 0).drew
set_option maxRecDepth 20000 in
set_option maxHeartbeats 4000000 in
theorem fromBytes_canon (A : Option Addr) (c : Nat) (b : List Nat) (w : World) (ha : Rd8 w w.heap.size A 32 b) (hG : Glob w) (hp : Hid (pN ≤ val 256 b)) :
    Calls Tryd.prog 27 #[.slice A 32 c] w fun e w' => ∃ r, e = .returned (.tuple #[r, .int .i64 4]) ∧ El r 0 ∧ Below w.heap.size w w' := by
  have hl0 := (Below.refl w.heap.size w).alloc (Nat.le_refl _) (o4 39 0 0 0 0)
  have hz0 := o4_new w 39 0 0 0 0
  have e0 : (w.alloc (o4 39 0 0 0 0)).heap.size = w.heap.size + 1 := by simp
  have hG0 := hG.up hl0
  have ra0 := ha.up hl0 (Nat.le_refl _)
  have g0 := hG0.p0
  have g1 := hG0.p1
  have g2 := hG0.p2
  have g3 := hG0.p3
  have szP := hG0.sizeP
  go_enter Tryd.func27, Tryd.ntmps27
  go_wp2
  change Code.wp _ _ _ _ (w.alloc (o4 39 0 0 0 0))
  generalize w.alloc (o4 39 0 0 0 0) = w0 at *
  have HR : ∀ x : World, Below w0.heap.size w0 x → Hid (Rd8 x x.heap.size A 32 b) := fun x hx => hid (ra0.up hx (Nat.le_refl _))
  have HB : ∀ x y : World, Below w0.heap.size w0 x → Below x.heap.size x y → Hid (Below w0.heap.size w0 y) := fun x y hx hy => hid (hx.trans (hy.mono hx.size))
  have E0 := hid e0
  clear ra0 e0
  go_region_with (
    (go_at_call 35
     refine (limbWords_n A 32 c b _ (HR _ (by go_grown)).out (by decide)).mono ?_
     rintro e w1 ⟨lr, rfl, hlen, hB1, hv1, hb1⟩
     have hbb := HB _ _ (by go_grown) hb1
     have q0 := (hG0.up hbb.out).p0
     have q1 := (hG0.up hbb.out).p1
     have q2 := (hG0.up hbb.out).p2
     have q3 := (hG0.up hbb.out).p3
     have q4 := (hG0.up hbb.out).sizeP
     first
     | (have hz5 : B4 w1 w0.heap.size 0 0 0 0 := B4.below (first4 w0 37) hb1 (by simp)
        have y0 := hz5.c0
        have y1 := hz5.c1
        have y2 := hz5.c2
        have y3 := hz5.c3
        have y4 := hz5.frozen
        rw [show (w0.alloc (.cells #[.int .u64 0, .int .u64 0, .int .u64 0, .int .u64 0] 37)).drew.heap.size = w0.heap.size + 1 by simp] at hB1)
     | (change BlkW w1 w0.heap.size _ _ at hB1)))
  all_goals first
    | (have hx : Hid (FB w w0.heap.size w1.heap.size (w1.alloc (o4 37 4891460686036598785 2896914383306846353 13281191951274694749 3486998266802970665)) lr (val 256 b)) :=
         hid ⟨hlen, hv1, hB1.below ((Below.refl _ _).alloc (Nat.le_refl _) _) hB1.size, o4_new w1 _ _ _ _ _, ((hz0.below hbb.out hz0.size).alloc _), (hl0.trans (hbb.out.mono hl0.size)).alloc (hl0.trans (hbb.out.mono hl0.size)).size _⟩
       change Exit.then _ _ _ _ (w1.alloc (o4 37 4891460686036598785 2896914383306846353 13281191951274694749 3486998266802970665))
       clear hB1 hb1 hbb q0 q1 q2 q3 q4 g0 g1 g2 g3 HR HB E0 hG0 hz0 hl0 szP hlen hv1
       generalize w1.alloc (o4 37 4891460686036598785 2896914383306846353 13281191951274694749 3486998266802970665) = wx at hx ⊢
       generalize w1.heap.size = bx at hx ⊢
       generalize w0.heap.size = bl at hx ⊢)
    | (have hx : Hid (FB w (w0.heap.size + 1) w0.heap.size ((((w1.setCell ⟨w0.heap.size, 0, none⟩ (.int .u64 4891460686036598785)).setCell ⟨w0.heap.size, 1, none⟩ (.int .u64 2896914383306846353)).setCell ⟨w0.heap.size, 2, none⟩ (.int .u64 13281191951274694749)).setCell ⟨w0.heap.size, 3, none⟩ (.int .u64 3486998266802970665)) lr (val 256 b)) :=
         hid ⟨hlen, hv1, hB1.others (by omega), hz5.all _ _ _ _, (hz0.below hbb.out hz0.size).others (by have := E0.out; omega), below_all (hl0.trans (hbb.out.mono hl0.size)) hl0.size _ _ _ _⟩
       change Exit.then _ _ _ _ ((((w1.setCell ⟨w0.heap.size, 0, none⟩ (.int .u64 4891460686036598785)).setCell ⟨w0.heap.size, 1, none⟩ (.int .u64 2896914383306846353)).setCell ⟨w0.heap.size, 2, none⟩ (.int .u64 13281191951274694749)).setCell ⟨w0.heap.size, 3, none⟩ (.int .u64 3486998266802970665))
       clear hB1 hb1 hbb q0 q1 q2 q3 q4 g0 g1 g2 g3 HR HB E0 hG0 hz0 hl0 szP hlen hv1 hz5 y0 y1 y2 y3 y4
       generalize ((((w1.setCell ⟨w0.heap.size, 0, none⟩ (.int .u64 4891460686036598785)).setCell ⟨w0.heap.size, 1, none⟩ (.int .u64 2896914383306846353)).setCell ⟨w0.heap.size, 2, none⟩ (.int .u64 13281191951274694749)).setCell ⟨w0.heap.size, 3, none⟩ (.int .u64 3486998266802970665)) = wx at hx ⊢
       generalize w0.heap.size + 1 = bl at hx ⊢
       generalize w0.heap.size = bx at hx ⊢)
  all_goals clear ha hG
  all_goals
    obtain ⟨hlen, hv, hL, hP, hZ, hl⟩ := hx.out
    have rl : Rd wx wx.heap.size (some ⟨bl, 0, none⟩) 4 lr := by
      have rd := hL.rd (off := 0) (n := lr.length) (B := wx.heap.size) (by omega) hL.size
      rw [List.drop_zero, List.take_length, hlen] at rd
      exact rd
    have rp := hP.rd prime4 hP.size
    have HV := hid hv
    clear hlen hv hx hL hP
    go_wp2_with fail
    refine (cmp_c _ _ 4 4 4 4 lr _ wx wx.heap.size rl rp (by omega) (by omega)).mono ?_
    rintro e w' ⟨rfl, rfl⟩
    rw [val_prime, HV.out]
    have hge : decide (0 ≤ cmpN (val 256 b) pN) = true := cmpN_ge hp.out
    have z0 := hZ.c0
    have z1 := hZ.c1
    have z2 := hZ.c2
    have z3 := hZ.c3
    have fz := hZ.frozen
    clear hZ rl rp
    go_wp2
    refine bodyPost_ret (by simp [results, Tryd.results27, go_sem, z0, z1, z2, z3]; rfl) rfl ?_
    exact ⟨_, rfl, El.zero, below_all hl (Nat.le_refl _) _ _ _ _⟩
set_option maxRecDepth 20000 in
set_option maxHeartbeats 4000000 in
theorem fromBytes_ok (A : Option Addr) (c : Nat) (b : List Nat) (w : World) (ha : Rd8 w w.heap.size A 32 b) (hG : Glob w) (hp : Hid (val 256 b < pN)) :
    Calls Tryd.prog 27 #[.slice A 32 c] w fun e w' => ∃ r, e = .returned (.tuple #[r, .int .i64 0]) ∧ El r (val 256 b) ∧ Below w.heap.size w w' := by
  have hl0 := (Below.refl w.heap.size w).alloc (Nat.le_refl _) (o4 39 0 0 0 0)
  have hz0 := o4_new w 39 0 0 0 0
  have e0 : (w.alloc (o4 39 0 0 0 0)).heap.size = w.heap.size + 1 := by simp
  have hG0 := hG.up hl0
  have ra0 := ha.up hl0 (Nat.le_refl _)
  have g0 := hG0.p0
  have g1 := hG0.p1
  have g2 := hG0.p2
  have g3 := hG0.p3
  have szP := hG0.sizeP
  go_enter Tryd.func27, Tryd.ntmps27
  go_wp2
  change Code.wp _ _ _ _ (w.alloc (o4 39 0 0 0 0))
  generalize w.alloc (o4 39 0 0 0 0) = w0 at *
  have HR : ∀ x : World, Below w0.heap.size w0 x → Hid (Rd8 x x.heap.size A 32 b) := fun x hx => hid (ra0.up hx (Nat.le_refl _))
  have HB : ∀ x y : World, Below w0.heap.size w0 x → Below x.heap.size x y → Hid (Below w0.heap.size w0 y) := fun x y hx hy => hid (hx.trans (hy.mono hx.size))
  have E0 := hid e0
  clear ra0 e0
  go_region_with (
    (go_at_call 35
     refine (limbWords_n A 32 c b _ (HR _ (by go_grown)).out (by decide)).mono ?_
     rintro e w1 ⟨lr, rfl, hlen, hB1, hv1, hb1⟩
     have hbb := HB _ _ (by go_grown) hb1
     have q0 := (hG0.up hbb.out).p0
     have q1 := (hG0.up hbb.out).p1
     have q2 := (hG0.up hbb.out).p2
     have q3 := (hG0.up hbb.out).p3
     have q4 := (hG0.up hbb.out).sizeP
     first
     | (have hz5 : B4 w1 w0.heap.size 0 0 0 0 := B4.below (first4 w0 37) hb1 (by simp)
        have y0 := hz5.c0
        have y1 := hz5.c1
        have y2 := hz5.c2
        have y3 := hz5.c3
        have y4 := hz5.frozen
        rw [show (w0.alloc (.cells #[.int .u64 0, .int .u64 0, .int .u64 0, .int .u64 0] 37)).drew.heap.size = w0.heap.size + 1 by simp] at hB1)
     | (change BlkW w1 w0.heap.size _ _ at hB1)))
  all_goals first
    | (have hx : Hid (FB w w0.heap.size w1.heap.size (w1.alloc (o4 37 4891460686036598785 2896914383306846353 13281191951274694749 3486998266802970665)) lr (val 256 b)) :=
         hid ⟨hlen, hv1, hB1.below ((Below.refl _ _).alloc (Nat.le_refl _) _) hB1.size, o4_new w1 _ _ _ _ _, ((hz0.below hbb.out hz0.size).alloc _), (hl0.trans (hbb.out.mono hl0.size)).alloc (hl0.trans (hbb.out.mono hl0.size)).size _⟩
       change Exit.then _ _ _ _ (w1.alloc (o4 37 4891460686036598785 2896914383306846353 13281191951274694749 3486998266802970665))
       clear hB1 hb1 hbb q0 q1 q2 q3 q4 g0 g1 g2 g3 HR HB E0 hG0 hz0 hl0 szP hlen hv1
       generalize w1.alloc (o4 37 4891460686036598785 2896914383306846353 13281191951274694749 3486998266802970665) = wx at hx ⊢
       generalize w1.heap.size = bx at hx ⊢
       generalize w0.heap.size = bl at hx ⊢)
    | (have hx : Hid (FB w (w0.heap.size + 1) w0.heap.size ((((w1.setCell ⟨w0.heap.size, 0, none⟩ (.int .u64 4891460686036598785)).setCell ⟨w0.heap.size, 1, none⟩ (.int .u64 2896914383306846353)).setCell ⟨w0.heap.size, 2, none⟩ (.int .u64 13281191951274694749)).setCell ⟨w0.heap.size, 3, none⟩ (.int .u64 3486998266802970665)) lr (val 256 b)) :=
         hid ⟨hlen, hv1, hB1.others (by omega), hz5.all _ _ _ _, (hz0.below hbb.out hz0.size).others (by have := E0.out; omega), below_all (hl0.trans (hbb.out.mono hl0.size)) hl0.size _ _ _ _⟩
       change Exit.then _ _ _ _ ((((w1.setCell ⟨w0.heap.size, 0, none⟩ (.int .u64 4891460686036598785)).setCell ⟨w0.heap.size, 1, none⟩ (.int .u64 2896914383306846353)).setCell ⟨w0.heap.size, 2, none⟩ (.int .u64 13281191951274694749)).setCell ⟨w0.heap.size, 3, none⟩ (.int .u64 3486998266802970665))
       clear hB1 hb1 hbb q0 q1 q2 q3 q4 g0 g1 g2 g3 HR HB E0 hG0 hz0 hl0 szP hlen hv1 hz5 y0 y1 y2 y3 y4
       generalize ((((w1.setCell ⟨w0.heap.size, 0, none⟩ (.int .u64 4891460686036598785)).setCell ⟨w0.heap.size, 1, none⟩ (.int .u64 2896914383306846353)).setCell ⟨w0.heap.size, 2, none⟩ (.int .u64 13281191951274694749)).setCell ⟨w0.heap.size, 3, none⟩ (.int .u64 3486998266802970665)) = wx at hx ⊢
       generalize w0.heap.size + 1 = bl at hx ⊢
       generalize w0.heap.size = bx at hx ⊢)
  all_goals clear ha
  all_goals
    obtain ⟨hlen, hv, hL, hP, hZ, hl⟩ := hx.out
    have rl : Rd wx wx.heap.size (some ⟨bl, 0, none⟩) 4 lr := by
      have rd := hL.rd (off := 0) (n := lr.length) (B := wx.heap.size) (by omega) hL.size
      rw [List.drop_zero, List.take_length, hlen] at rd
      exact rd
    have rp := hP.rd prime4 hP.size
    have HV := hid hv
    clear hlen hv hx hL hP
    go_wp2_with fail
    refine (cmp_c _ _ 4 4 4 4 lr _ wx wx.heap.size rl rp (by omega) (by omega)).mono ?_
    rintro e w' ⟨rfl, rfl⟩
    rw [val_prime, HV.out]
    have hge : decide (0 ≤ cmpN (val 256 b) pN) = false := cmpN_lt' hp.out
    have hGx := hG.up hl
    clear rp
    go_wp2_with fail
    refine (ofRest_c _ 4 4 lr wx rl (by omega) (hid (by rw [HV.out]; exact hp.out)) hGx).mono ?_
    rintro e w2 ⟨r, rfl, hr, hb2⟩
    rw [HV.out] at hr
    have R := hid hr
    obtain ⟨r0, r1, r2, r3, rfl, -, -, -⟩ := hr
    have hZ2 := hZ.below hb2 hZ.size
    have hl2 := hl.trans (hb2.mono hl.size)
    have z0 := hZ2.c0
    have z1 := hZ2.c1
    have z2 := hZ2.c2
    have z3 := hZ2.c3
    have fz := hZ2.frozen
    clear hZ hZ2 rl hb2 hGx
    unfold w4
    go_wp2
    refine bodyPost_ret (by simp [results, Tryd.results27, go_sem, z0, z1, z2, z3]; rfl) rfl ?_
    exact ⟨_, rfl, R.out, below_all hl2 (Nat.le_refl _) _ _ _ _⟩
end Go.Proofs.YtpjjobophplleaaDoor
