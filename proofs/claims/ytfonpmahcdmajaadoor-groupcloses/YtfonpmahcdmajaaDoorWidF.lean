import Derived.Test.YtfonpmahcdmajaaDoorWidD
import Derived.Test.YtfonpmahcdmajaaDoorPrims
/-
  (*Ring).Reduce, Read: what each call does.
-/
namespace Go.Proofs.YtfonpmahcdmajaaDoor
open Go.RowKit
set_option linter.unusedVariables false

theorem RingP.cell {w : World} {b X : Nat} (h : RingP w b X) : ∃ p, w.cell? ⟨b, 0, none⟩ = some (.pointer (some ⟨p, 0, none⟩)) ∧ ModP w p (ds X) := by
  obtain ⟨p, h1, h2, h3⟩ := h
  exact ⟨p, h1, h3⟩

set_option maxRecDepth 20000 in
set_option maxHeartbeats 2000000 in
theorem rReduce_c (b M : Nat) (A : Option Addr) (n c : Nat) (bs : List Nat) (w : World) (hR : RingP w b M) (ha : Rd8 w w.heap.size A n bs) (hn : n ≤ 1000) (hm : M < W12) :
    Calls Tryd.prog 12 #[.pointer (some ⟨b, 0, none⟩), .slice A n c] w fun e w' => e = .returned (num (val 256 bs % M)) ∧ Below w.heap.size w w' := by
  have hl0 := (Below.refl w.heap.size w).alloc (Nat.le_refl _) (z12 24)
  have hZ0 := z12_new w 24
  have hR0 := hR.up hl0
  have ra := ha.up hl0 (Nat.le_refl _)
  have VM := hid (ds_val M hm)
  have HL := hid hl0
  have HZ := hid hZ0
  obtain ⟨Z, hZ⟩ : ∃ Z, Z = val 256 bs % M := ⟨_, rfl⟩
  rw [← hZ]
  have EZ := hid hZ
  clear hl0 hZ0 hR ha hm hZ
  go_enter Tryd.func12, Tryd.ntmps12
  go_wp2_with fail
  change Code.wp _ _ _ _ (w.alloc (z12 24))
  generalize w.alloc (z12 24) = w0 at *
  have ra : Rd8 w0.drew w0.drew.heap.size A n bs := ⟨ra.len, ra.lt, ra.cells⟩
  have hR1 : RingP w0.drew b M := hR0.up ((Below.refl _ _).drew)
  have HZ1 : Hid (BlkW w0.drew w.heap.size 24 (List.replicate 12 0)) := HZ.out.drewN 1
  have HL1 : Hid (Below w.heap.size w w0.drew) := HL.out.drew
  obtain ⟨p, h1, hM⟩ := hR1.cell
  have HR1 := hid hR1
  clear hR0 HZ HL hR1
  go_region_with (first
    | (go_at_call 55
       refine (limbWords_c A n c bs _ ra hn).mono ?_
       rintro e w1 ⟨A1, c1, l1, rfl, hc1, r1, v1, b1⟩
       have h1' : w1.cell? ⟨b, 0, none⟩ = some (.pointer (some ⟨p, 0, none⟩)) := (b1.cell (p := ⟨b, 0, none⟩) (by obtain ⟨_, _, h, _⟩ := HR1.out; exact h)).trans h1
       have hM1 := hM.keep b1 hM.lt
       have HV1 := hid v1
       clear v1)
    | (go_at_call 54
       refine (reduce_c A1 _ c1 p l1 (ds M) w1 r1 hM1 (by omega)).mono ?_
       rintro e w2 ⟨A2, c2, l2, rfl, hc2, r2, v2, b2⟩
       rw [ds_len] at r2 hc2 ⊢
       rw [HV1.out, VM.out, ← EZ.out] at v2
       have HV2 := hid v2
       clear v2)
    | (go_at_call 52
       refine (numberOf_c A2 12 c2 l2 w2 r2 (by decide)).mono ?_
       rintro e w3 ⟨rfl, b3⟩
       rw [HV2.out]
       have hl1 := HL1.out.trans (b1.mono HL1.out.size)
       have hl2 := hl1.trans (b2.mono hl1.size)
       have hl3 := hl2.trans (b3.mono hl2.size)
       have hZ1 := HZ1.out.below b1 HZ1.out.size
       have hZ2 := hZ1.below b2 hZ1.size
       have hZ3 := hZ2.below b3 hZ2.size
       obtain ⟨hst, HR⟩ := num_stored (X := Z) hZ3
       have hlen := dsc_len Z
       unfold num))
  all_goals
    go_wp2
    refine bodyPost_ret (num_result Tryd.results12 rfl HR) rfl ?_
    exact ⟨rfl, below_cells (Nat.le_refl _) _ _ _ hl3⟩
end Go.Proofs.YtfonpmahcdmajaaDoor
/-
  Powers modulo a number, reckoned by squaring: plain arithmetic, nothing of the program.
-/
namespace Go.Proofs.YtfonpmahcdmajaaDoor

/-- b to the power of e modulo m, by the bits of e (at most as many as the first number says). -/
def pm (m : Nat) : Nat → Nat → Nat → Nat
  | 0, _, _ => 1 % m
  | f + 1, b, e => if e % 2 = 1 then b * pm m f (b * b % m) (e / 2) % m else pm m f (b * b % m) (e / 2)
theorem pm_eq (m : Nat) : ∀ (f b e : Nat), e < 2 ^ f → pm m f b e = b ^ e % m
  | 0, b, e, h => by
    have : e = 0 := by simpa using h
    subst this
    simp [pm]
  | f + 1, b, e, h => by
    have h2 : e / 2 < 2 ^ f := by rw [Nat.pow_succ] at h; omega
    have ih := pm_eq m f (b * b % m) (e / 2) h2
    have e1 : (b * b % m) ^ (e / 2) % m = b ^ (2 * (e / 2)) % m := by
      rw [← Nat.pow_mod, Nat.pow_mul, Nat.pow_two]
    unfold pm
    rw [ih, e1]
    split
    · rename_i ho
      rw [Nat.mul_mod_mod, ← Nat.pow_succ', show (2 * (e / 2)).succ = e by omega]
    · rename_i he
      rw [show 2 * (e / 2) = e by omega]
end Go.Proofs.YtfonpmahcdmajaaDoor
/-
  avouchlaw04.speaks: the document's example holds.
-/
namespace Go.Proofs.YtfonpmahcdmajaaDoor
open Go.RowKit
set_option linter.unusedVariables false

/-- A number of one word, as the program builds it. -/
theorem num_one (n : Nat) (h : n < 18446744073709551616) : num n = .agg #[.int .u64 (n : Int), .int .u64 0, .int .u64 0, .int .u64 0, .int .u64 0, .int .u64 0, .int .u64 0, .int .u64 0, .int .u64 0, .int .u64 0, .int .u64 0, .int .u64 0] := by
  have hd : ds n = n :: List.replicate 11 0 := by
    have hv : val 18446744073709551616 (n :: List.replicate 11 0) = n := by
      unfold val
      simp [pv]
    have h' := ds_of (l := n :: List.replicate 11 0) (by simp) (by
      intro x hx
      rcases List.mem_cons.1 hx with h' | h'
      · omega
      · have := List.eq_of_mem_replicate h'; omega)
    rw [hv] at h'
    exact h'
  unfold num
  rw [hd]
  rfl

theorem num_0 : num 0 = .agg #[.int .u64 0, .int .u64 0, .int .u64 0, .int .u64 0, .int .u64 0, .int .u64 0, .int .u64 0, .int .u64 0, .int .u64 0, .int .u64 0, .int .u64 0, .int .u64 0] := num_one 0 (by decide)
theorem num_1 : num 1 = .agg #[.int .u64 1, .int .u64 0, .int .u64 0, .int .u64 0, .int .u64 0, .int .u64 0, .int .u64 0, .int .u64 0, .int .u64 0, .int .u64 0, .int .u64 0, .int .u64 0] := num_one 1 (by decide)
theorem num_2 : num 2 = .agg #[.int .u64 2, .int .u64 0, .int .u64 0, .int .u64 0, .int .u64 0, .int .u64 0, .int .u64 0, .int .u64 0, .int .u64 0, .int .u64 0, .int .u64 0, .int .u64 0] := num_one 2 (by decide)
theorem num_3 : num 3 = .agg #[.int .u64 3, .int .u64 0, .int .u64 0, .int .u64 0, .int .u64 0, .int .u64 0, .int .u64 0, .int .u64 0, .int .u64 0, .int .u64 0, .int .u64 0, .int .u64 0] := num_one 3 (by decide)
theorem num_5 : num 5 = .agg #[.int .u64 5, .int .u64 0, .int .u64 0, .int .u64 0, .int .u64 0, .int .u64 0, .int .u64 0, .int .u64 0, .int .u64 0, .int .u64 0, .int .u64 0, .int .u64 0] := num_one 5 (by decide)
def hbits : Nat := 768
theorem two_q : 2 ^ bigQ % bigP = 1 := by
  have h : bigQ < 2 ^ hbits := by decide +kernel
  rw [← pm_eq bigP hbits 2 bigQ h]
  decide +kernel

theorem all_range_n : ∀ (xs ys : List Nat), xs.length = ys.length → ((List.range xs.length).all fun i => xs.getD i 0 == ys.getD i 0) = decide (xs = ys)
  | [], [], _ => rfl
  | x :: xs, y :: ys, h => by
    have ih := all_range_n xs ys (by simpa using h)
    rw [List.length_cons, List.range_succ_eq_map, List.all_cons, List.all_map]
    simp only [List.getD_cons_zero, Function.comp_def, List.getD_cons_succ, ih]
    rw [Bool.eq_iff_iff]
    simp
  | [], _ :: _, h => by simp at h
  | _ :: _, [], h => by simp at h
theorem run_equalIn_words {P : Program} (w : World) (d : Nat) (t e : TypeId) (n : Nat) (ht : P.underlying t = some (.array n e)) (he : P.underlying e = some (.int .u64)) (hsz : ∀ w, (sizeOf e).run P w = .ok 1 w)
    (xs ys : List Nat) (hx : xs.length = n) (hy : ys.length = n) :
    (Op.equalIn (d + 2) t (.agg (cellsOf64 xs).toArray) (.agg (cellsOf64 ys).toArray)).run P w = .ok (decide (xs = ys)) w := by
  rw [← all_range_n xs ys (hx.trans hy.symm), hx, List.range_eq_range', Op.equalIn]
  simp only [Sem.run_bind, run_underlying ht, Result.andThen_ok, hsz, Std.Legacy.Range.forIn_eq_forIn_range', Std.Legacy.Range.size, Nat.sub_zero, Nat.add_sub_cancel, Nat.div_one]
  have hl : ∀ i ∈ List.range' 0 n 1, i < n := fun i hi => by simpa using (List.mem_range'_1.1 hi).2
  generalize List.range' 0 n 1 = l at hl ⊢
  induction l with
  | nil => simp
  | cons i l ih =>
    have hi : i < n := hl i (by simp)
    have px : (part e (cellsOf64 xs).toArray (i * 1)).run P w = .ok (.int .u64 ((xs.getD i 0 : Nat) : Int)) w := by
      simp [part, isAgg, cellsOf64, run_underlying he, List.getD, List.getElem?_eq_getElem (show i < xs.length by omega)]
    have py : (part e (cellsOf64 ys).toArray (i * 1)).run P w = .ok (.int .u64 ((ys.getD i 0 : Nat) : Int)) w := by
      simp [part, isAgg, cellsOf64, run_underlying he, List.getD, List.getElem?_eq_getElem (show i < ys.length by omega)]
    have pe : (Op.equalIn (d + 1) e (.int .u64 ((xs.getD i 0 : Nat) : Int)) (.int .u64 ((ys.getD i 0 : Nat) : Int))).run P w = .ok (xs.getD i 0 == ys.getD i 0) w := by
      rw [run_equalIn_int w d e .u64 .u64 _ _ he]
      congr 1
      rw [Bool.eq_iff_iff]
      simp only [beq_iff_eq]
      omega
    simp only [List.forIn_cons, Sem.run_bind, px, py, pe, Result.andThen_ok, List.all_cons]
    cases hb : (xs.getD i 0 == ys.getD i 0)
    · simp
    · simp only [Bool.not_true, Bool.false_eq_true, if_false, Sem.run_pure, Result.andThen_ok, Bool.true_and]
      exact ih fun j hj => hl j (by simp [hj])
theorem sz64 (w : World) : (sizeOf 22).run Tryd.prog w = .ok 1 w := by kernel_rfl
/-- Numbers are compared. -/
theorem num_eq (w : World) (A B : Nat) (hA : A < W12) (hB : B < W12) : (Op.equalIn 10000 24 (num A) (num B)).run Tryd.prog w = .ok (decide (A = B)) w := by
  have h := run_equalIn_words (P := Tryd.prog) w 9998 24 22 12 Tryd.underlying24 Tryd.underlying22 sz64 (ds A) (ds B) (ds_len A) (ds_len B)
  have e : decide (ds A = ds B) = decide (A = B) := by
    rw [Bool.eq_iff_iff, decide_eq_true_iff, decide_eq_true_iff]
    refine ⟨fun h => ?_, fun h => by rw [h]⟩
    rw [← ds_val A hA, ← ds_val B hB, h]
  rw [e] at h
  exact h
theorem num_same (w : World) (A : Nat) : (Op.equalIn 10000 24 (.agg (cellsOf64 (ds A)).toArray) (.agg (cellsOf64 (ds A)).toArray)).run Tryd.prog w = .ok true w := by
  have h := run_equalIn_words (P := Tryd.prog) w 9998 24 22 12 Tryd.underlying24 Tryd.underlying22 sz64 (ds A) (ds A) (ds_len A) (ds_len A)
  rw [decide_eq_true rfl] at h
  exact h

set_option maxRecDepth 20000 in
set_option maxHeartbeats 4000000 in
theorem speaks4_c (w : World) (hG : GlobW w) : Calls Tryd.prog 9 #[] w fun e w' => e = .returned (.bool true) ∧ Below w.heap.size w w' := by
  go_enter Tryd.func9, Tryd.ntmps9
  go_wp2_with fail
  refine (group_c w hG).mono ?_
  rintro e w1 ⟨g, rfl, hg, b1⟩
  go_wp2_with fail
  refine (exponents_c w1 (hG.up b1)).mono ?_
  rintro e w2 ⟨x, rfl, hx, b2⟩
  have b12 := bchain b1 b2
  have hg := hg.up b2
  go_wp2_with fail
  refine (size_c x bigQ w2 hx bigQ_lt).mono ?_
  rintro e w3 ⟨rfl, b3⟩
  have b13 := bchain b12 b3
  have hg := hg.up b3
  go_wp2_with fail
  have hE := rExp_c g 2 bigQ bigP w3 hg (by decide) bigQ_lt bigP_lt (by decide)
  rw [num_2, two_q, num_1] at hE
  refine hE.mono ?_
  rintro e w4 ⟨rfl, b4⟩
  have b14 := bchain b13 b4
  have hg := hg.up b4
  clear hE
  have q1 : ∀ w : World, (Op.equalIn 10000 24 (.agg #[.int .u64 1, .int .u64 0, .int .u64 0, .int .u64 0, .int .u64 0, .int .u64 0, .int .u64 0, .int .u64 0, .int .u64 0, .int .u64 0, .int .u64 0, .int .u64 0]) (.agg #[.int .u64 1, .int .u64 0, .int .u64 0, .int .u64 0, .int .u64 0, .int .u64 0, .int .u64 0, .int .u64 0, .int .u64 0, .int .u64 0, .int .u64 0, .int .u64 0])).run Tryd.prog w = .ok true w := by
    intro w
    have h := num_eq w 1 1 (by decide) (by decide)
    rw [num_1] at h
    exact h
  have q5 : ∀ w : World, (Op.equalIn 10000 24 (.agg #[.int .u64 5, .int .u64 0, .int .u64 0, .int .u64 0, .int .u64 0, .int .u64 0, .int .u64 0, .int .u64 0, .int .u64 0, .int .u64 0, .int .u64 0, .int .u64 0]) (.agg #[.int .u64 5, .int .u64 0, .int .u64 0, .int .u64 0, .int .u64 0, .int .u64 0, .int .u64 0, .int .u64 0, .int .u64 0, .int .u64 0, .int .u64 0, .int .u64 0])).run Tryd.prog w = .ok true w := by
    intro w
    have h := num_eq w 5 5 (by decide) (by decide)
    rw [num_5] at h
    exact h
  go_wp2_with fail
  have hA := rAdd_c g 2 3 bigP w4 hg (by decide) (by decide) bigP_lt (by decide)
  rw [show (2 + 3) % bigP = 5 by decide, num_2, num_3, num_5] at hA
  refine hA.mono ?_
  rintro e w5 ⟨rfl, b5⟩
  have b15 := bchain b14 b5
  clear hA
  go_wp2
  go_ret
  exact ⟨rfl, b15⟩
end Go.Proofs.YtfonpmahcdmajaaDoor
