import Derived.Test.YtfonpmahcdmajaaDoorGrpF
import Derived.Test.YtfonpmahcdmajaaDoorPrm
/-
  avouchlaw05.speaks: the document's example holds.
-/
namespace Go.Proofs.YtfonpmahcdmajaaDoor
open Go.RowKit
set_option linter.unusedVariables false

/-- A new slice of one digit. -/
theorem digit_dg (w : World) (n : Nat) (h0 : 0 < n) (h : n < 4294967296) : Dg (w.alloc (.cells #[.int .u64 (n : Int)] 22)) (.slice (some ⟨w.heap.size, 0, none⟩) 1 1) n := by
  have hB := BlkW.new64 w 22 [n] (by intro x hx; simp at hx; omega)
  refine Dg.ofRd (l := [n]) (hB.rd0 hB.size rfl) (Nat.le_refl _) (by decide) (by intro x hx; simp at hx; omega) (Or.inr (by simp; omega)) (by simp [val, pv])
theorem eE_of {bs : List Nat} {X : Nat} (hl : bs.length = 96) (hv : val 256 bs = X) (hX : X < bigP) : eE bs = if X ^ bigQ % bigP = 1 then 0 else 4 := by
  have h1 : rdE true bs = 0 := by unfold rdE; rw [if_pos hl, hv, if_pos (show X < mOf true from hX)]
  have h2 : rdN true bs = X := by unfold rdN; rw [hv, if_pos ⟨hl, show X < mOf true from hX⟩]
  unfold eE
  rw [if_pos h1, h2]
theorem eN_of {bs : List Nat} {X : Nat} (hl : bs.length = 96) (hv : val 256 bs = X) (hX : X < bigP) : eN bs = if X ^ bigQ % bigP = 1 then X else 0 := by
  have h2 : rdN true bs = X := by unfold rdN; rw [hv, if_pos ⟨hl, show X < mOf true from hX⟩]
  unfold eN
  rw [eE_of hl hv hX, h2]
  by_cases h : X ^ bigQ % bigP = 1
  · rw [if_pos h, if_pos rfl, if_pos h]
  · rw [if_neg h, if_neg (by decide), if_neg h]
theorem last_q : ¬ (bigP - 1) ^ bigQ % bigP = 1 := by
  have h : bigQ < 2 ^ hbits := by decide +kernel
  rw [← pm_eq bigP hbits (bigP - 1) bigQ h]
  decide +kernel
/-- The first digit. -/
theorem first_dig (W : Nat) (hW : 0 < W) (l : List Nat) (h : ∀ x ∈ l, x < W) : l.getD 0 0 = val W l % W := by
  have e := pv_mod W hW l h 1
  rw [pv_succ, pv_zero, Nat.pow_zero, Nat.mul_one, Nat.zero_add, Nat.pow_one] at e
  exact e
/-- What is kept: an element in memory, its bytes, and the table. -/
structure EnvS (w : World) (ba bb X : Nat) (l : List Nat) (v : World) : Prop where
  a : BlkW v ba 35 (ds X)
  i : BlkB v bb 70 l
  g : GlobW v
  b : Below w.heap.size w v
theorem EnvS.up {w : World} {ba bb X : Nat} {l : List Nat} {v v' : World} (h : EnvS w ba bb X l v) (hb : Below v.heap.size v v') : EnvS w ba bb X l v' :=
  ⟨blk_up h.a hb, h.i.below hb h.i.size, h.g.up hb, bchain h.b hb⟩
set_option maxRecDepth 100000 in
set_option maxHeartbeats 8000000 in
theorem speaks5_c (w : World) (hG : GlobW w) : Calls Tryd.prog 15 #[] w fun e w' => e = .returned (.bool true) ∧ Below w.heap.size w w' := by
  go_enter Tryd.func15, Tryd.ntmps15
  go_wp2_with fail
  refine (refP_c w).mono ?_
  rintro e w1 ⟨pv, rfl, h1, b1⟩
  have a2 := (Below.refl w1.heap.size w1).alloc (Nat.le_refl _) (.cells #[.int .u64 1] 22)
  have HP := hid (h1.up a2)
  have HO := hid (one_dg w1)
  have B2 := hid (bchain b1 a2)
  clear h1 b1 a2
  go_wp2_with fail
  refine (gSub_c pv _ bigP 1 _ HP.out HO.out (by decide)).mono ?_
  rintro e w2 ⟨mv, rfl, h2, b2⟩
  have a3 := (Below.refl w2.heap.size w2).alloc (Nat.le_refl _) (.cells #[.int .u64 2] 22)
  have B3 := hid (bchain (bchain B2.out b2) a3)
  have HM := hid (h2.up a3)
  have HD := hid (digit_dg w2 2 (by decide) (by decide))
  clear HP HO B2 h2 b2 a3
  go_wp2_with fail
  refine (refBytes96_c _ 2 _ HD.out).mono ?_
  rintro e w3 ⟨A3, c3, l3, rfl, hc3, r3, v3, b3⟩
  have B4 := hid (bchain B3.out b3)
  have HM4 := hid (HM.out.up b3)
  have hl3 := r3.len
  have E3 : Hid (eE l3 = 0 ∧ eN l3 = 2) := by
    have hv : val 256 l3 = 2 := by rw [v3]; decide
    have h1 := eE_of hl3 hv (by decide)
    have h2 := eN_of hl3 hv (by decide)
    rw [if_pos two_q] at h1 h2
    exact ⟨h1, h2⟩
  clear v3 b3 HM HD B3 hl3
  go_wp2_with fail
  have CR := gRead_c A3 96 c3 l3 w3 r3 (hG.up B4.out)
  rw [E3.out.1, E3.out.2, num_2] at CR
  refine CR.mono ?_
  rintro e w4 ⟨rfl, b4⟩
  have B5 := hid (bchain B4.out b4)
  have a5 := (Below.refl w4.heap.size w4).alloc (Nat.le_refl _) (o12 35 2)
  have HA5 := hid (o12_new w4 35 2)
  have HM5 := hid ((HM4.out.up b4).up a5)
  have B6 := hid (bchain B5.out a5)
  clear CR E3 b4 a5 HM4 B4 B5 r3
  go_wp2_with fail
  change Calls _ _ _ (w4.alloc (o12 35 2)) _
  generalize hba : w4.heap.size = ba at *
  clear hba
  generalize w4.alloc (o12 35 2) = w5 at *
  refine (refBytes96_c _ (bigP - 1) _ HM5.out).mono ?_
  rintro e w6 ⟨A6, c6, l6, rfl, hc6, r6, v6, b6⟩
  have B7 := hid (bchain B6.out b6)
  have HA7 := hid (blk_up HA5.out b6)
  have E6 : Hid (eE l6 = 4 ∧ eN l6 = 0) := by
    have hv : val 256 l6 = bigP - 1 := by rw [v6]; decide
    have h1 := eE_of r6.len hv (by decide)
    have h2 := eN_of r6.len hv (by decide)
    rw [if_neg last_q] at h1 h2
    exact ⟨h1, h2⟩
  clear v6 b6 HM5 HA5 B6
  go_wp2_with fail
  have CR := gRead_c A6 96 c6 l6 w6 r6 (hG.up B7.out)
  rw [E6.out.1, E6.out.2, num_0] at CR
  refine CR.mono ?_
  rintro e w7 ⟨rfl, b7⟩
  have a8 := (Below.refl w7.heap.size w7).alloc (Nat.le_refl _) (z12 35)
  have b78 := bchain b7 a8
  have B8 := hid (bchain B7.out b78)
  have HA8 := hid (blk_up HA7.out b78)
  have HR8 := hid HA8.out.range
  have I := hid (sizeEl.trans (congrArg some (dsc_len 2).symm))
  clear CR E6 b7 a8 b78 HA7 B7 r6
  unfold z12 at *
  go_wp2_with (refine wpList_load_mid rfl 35 (.tmp 2) rfl ba 0 rfl (cellsOf64 (ds 2)) _ HR8.out Tryd.underlying35 rfl I.out ?_)
  generalize w7.alloc _ = w8 at *
  refine (elBytes_c 2 w8 (hid (by decide))).mono ?_
  rintro e w9 ⟨r, rfl, hr, b9⟩
  obtain ⟨l, rfl, hl, hlt, hv⟩ := hr
  obtain ⟨wx, hst, hBx, bx⟩ := new96 w9 l hl hlt
  have hlen : (cells8 l).length = 96 := by simp [cells8, hl]
  have b9x := bchain b9 bx
  have Bx := bchain B8.out b9x
  have Ex : Hid (EnvS w ba w9.heap.size 2 l wx.drew) := hid (EnvS.up ⟨blk_up HA8.out b9x, hBx, hG.up Bx, Bx⟩ (Below.refl _ _).drew)
  have h0 : Hid (at64 l 0 = 2) := by
    have := first_dig 256 (by decide) l hlt
    rw [hv] at this
    unfold at64
    rw [this]
    rfl
  have HLL := hid hl
  clear b9 bx b9x hBx Bx hv HA8 HR8 I B8
  go_wp2_with fail
  generalize w9.heap.size = bb at *
  have E0 := Ex.out
  clear hst hlen Ex
  go_cut [0] (fun s wx => s = .bool true ∧ EnvS w ba bb 2 l wx)
  case first =>
    obtain ⟨n12, hn12⟩ : ∃ n : Nat, n = 12 := ⟨_, rfl⟩
    have L1 : ∀ v, EnvS w ba bb 2 l v → (loadCellsFrom ⟨ba, 0, none⟩ 0 n12 #[]).run Tryd.prog v = .ok (cellsOf64 (ds 2)).toArray v := fun v h => by rw [hn12]; exact cells_numT h.a
    have CI : ∀ v, EnvS w ba bb 2 l v → v.cell? ⟨bb, 0, none⟩ = some (.int .u8 2) := fun v h => by rw [h.i.cell (by rw [HLL.out]; decide), h0.out]
    have CM : ∀ v, EnvS w ba bb 2 l v → Calls Tryd.prog 29 #[.agg (cellsOf64 (ds 2)).toArray, .agg (cellsOf64 (ds 2)).toArray] v fun e w' => e = .returned (.agg (cellsOf64 (ds 4)).toArray) ∧ Below v.heap.size v w' := fun v h => by
      have := grMul_c 2 2 v (by decide) (by decide) h.g
      rw [show 2 * 2 % bigP = 4 by decide] at this
      exact this
    have CG : ∀ v, Calls Tryd.prog 34 #[] v fun e w' => e = .returned (.agg (cellsOf64 (ds 4)).toArray) ∧ Below v.heap.size v w' := fun v => generator_c v
    have C1 : ∀ v, Calls Tryd.prog 26 #[.agg (cellsOf64 (ds 4)).toArray, .agg (cellsOf64 (ds 4)).toArray] v fun e w' => e = .returned (.bool true) ∧ Below v.heap.size v w' := fun v => grEq_c 4 4 v (by decide) (by decide)
    have C2 : ∀ v, Calls Tryd.prog 26 #[.agg (cellsOf64 (ds 2)).toArray, .agg (cellsOf64 (ds 4)).toArray] v fun e w' => e = .returned (.bool false) ∧ Below v.heap.size v w' := fun v => grEq_c 2 4 v (by decide) (by decide)
    have G1 := agg_el
    have G2 : ∀ v, (sizeOf 35).run Tryd.prog v = .ok n12 v := by rw [hn12]; exact size_el
    have G3 := fun v => run_underlying Tryd.underlying70 v
    have G4 := fun v => run_underlying Tryd.underlying5 v
    have IA : ∀ v, (Instr.indexAt 70 (.pointer (some ⟨bb, 0, none⟩)) (.int .i64 0)).run Tryd.prog v = .ok (.pointer (some ⟨bb, 0, none⟩)) v := fun v => by kernel_rfl
    have G5 : ∀ w, (sizeOf 5).run Tryd.prog w = .ok 1 w := fun w => by kernel_rfl
    have G6 : ∀ w, (isAgg 5).run Tryd.prog w = .ok false w := fun w => by kernel_rfl
    have N1 := Tryd.call29
    have N2 := Tryd.call34
    have N3 := Tryd.call26
    clear hn12
    generalize cellsOf64 (ds 4) = c4 at *
    generalize cellsOf64 (ds 2) = c2 at *
    generalize Tryd.prog = P at CM CG C1 C2 L1 IA G1 G2 G3 G4 G5 G6 N1 N2 N3 ⊢
    go_region_held3 (fun w' => EnvS w ba bb 2 l w') (with_reducible assumption) (first
      | (go_at_call 29; with_reducible refine (CM _ (by with_reducible assumption)).mono ?_; rintro e v ⟨rfl, hb⟩; have hE := EnvS.up (by with_reducible assumption) hb; dsimp only)
      | (go_at_call 34; with_reducible refine (CG _).mono ?_; rintro e v ⟨rfl, hb⟩; have hE := EnvS.up (by with_reducible assumption) hb; dsimp only)
      | (go_at_call 26; with_reducible refine (C1 _).mono ?_; rintro e v ⟨rfl, hb⟩; have hE := EnvS.up (by with_reducible assumption) hb; dsimp only)
      | (go_at_call 26; with_reducible refine (C2 _).mono ?_; rintro e v ⟨rfl, hb⟩; have hE := EnvS.up (by with_reducible assumption) hb; dsimp only))
    go_wp2_with fail
    go_meet
    exact ⟨rfl, hE⟩
  case rest =>
    obtain ⟨rfl, hE⟩ := hcut
    go_wp2
    go_ret
    exact ⟨rfl, hE.b⟩
end Go.Proofs.YtfonpmahcdmajaaDoor
/-
  Operators on sequences of numbers, and what the power of a prime makes of a sum: plain arithmetic, nothing of the program.
-/
namespace Go.Proofs.YtfonpmahcdmajaaDoor

/-- Binomial coefficients. -/
def ch : Nat → Nat → Nat
  | _, 0 => 1
  | 0, _ + 1 => 0
  | n + 1, k + 1 => ch n k + ch n (k + 1)
theorem ch_zero (n : Nat) : ch n 0 = 1 := by cases n <;> rfl
theorem ch_mul : ∀ (n k : Nat), (k + 1) * ch (n + 1) (k + 1) = (n + 1) * ch n k
  | 0, 0 => rfl
  | 0, k + 1 => by simp [ch]
  | n + 1, 0 => by
    have ih := ch_mul n 0
    rw [show ch (n + 1 + 1) (0 + 1) = ch (n + 1) 0 + ch (n + 1) (0 + 1) from rfl]
    simp only [ch_zero] at *
    omega
  | n + 1, k + 1 => by
    have ih := ch_mul n (k + 1)
    have ih2 := ch_mul n k
    rw [show ch (n + 1 + 1) (k + 1 + 1) = ch (n + 1) (k + 1) + ch (n + 1) (k + 1 + 1) from rfl, Nat.mul_add, ih, Nat.add_mul (k + 1) 1, ih2]
    rw [show ch (n + 1) (k + 1) = ch n k + ch n (k + 1) from rfl]
    simp only [Nat.add_mul, Nat.mul_add, Nat.one_mul]
    omega
theorem ch_past : ∀ (n k : Nat), n < k → ch n k = 0
  | _, 0, h => by omega
  | 0, k + 1, _ => rfl
  | n + 1, k + 1, h => by
    rw [show ch (n + 1) (k + 1) = ch n k + ch n (k + 1) from rfl, ch_past n k (by omega), ch_past n (k + 1) (by omega)]
theorem ch_self : ∀ n : Nat, ch n n = 1
  | 0 => rfl
  | n + 1 => by
    rw [show ch (n + 1) (n + 1) = ch n n + ch n (n + 1) from rfl, ch_self n, ch_past n (n + 1) (by omega)]
theorem ch_prm {r : Nat} (hr : Prm r) (k : Nat) (h0 : 0 < k) (h1 : k < r) : r ∣ ch r k := by
  have h := ch_mul (r - 1) (k - 1)
  rw [show k - 1 + 1 = k by omega, show r - 1 + 1 = r by omega] at h
  have hd : r ∣ k * ch r k := ⟨_, h⟩
  rcases hr.dvd_mul hd with h2 | h2
  · exact absurd (Nat.le_of_dvd h0 h2) (by omega)
  · exact h2

abbrev Sq := Nat → Int
/-- An operator that keeps sums and multiples. -/
structure Lin (A : Sq → Sq) : Prop where
  add : ∀ u v : Sq, A (fun n => u n + v n) = fun n => A u n + A v n
  mul : ∀ (c : Int) (u : Sq), A (fun n => c * u n) = fun n => c * A u n
/-- Alike modulo r, at each place. -/
def Alk (r : Int) (u v : Sq) : Prop := ∀ n, r ∣ u n - v n
theorem Alk.refl (r : Int) (u : Sq) : Alk r u u := fun n => by rw [Int.sub_self]; exact Int.dvd_zero r
theorem Alk.symm {r : Int} {u v : Sq} (h : Alk r u v) : Alk r v u := fun n => by
  have := (Int.dvd_neg).mpr (h n)
  rwa [Int.neg_sub] at this
theorem Alk.trans {r : Int} {u v x : Sq} (h : Alk r u v) (g : Alk r v x) : Alk r u x := fun n => by
  have := Int.dvd_add (h n) (g n)
  rwa [show u n - v n + (v n - x n) = u n - x n by omega] at this
theorem Alk.add {r : Int} {u v x y : Sq} (h : Alk r u v) (g : Alk r x y) : Alk r (fun n => u n + x n) (fun n => v n + y n) := fun n => by
  have := Int.dvd_add (h n) (g n)
  rwa [show u n - v n + (x n - y n) = u n + x n - (v n + y n) by omega] at this
theorem Alk.lin {A : Sq → Sq} (hA : Lin A) {r : Int} {u v : Sq} (h : Alk r u v) : Alk r (A u) (A v) := by
  have hx : ∃ x : Sq, ∀ n, u n - v n = r * x n := ⟨fun n => (h n).choose, fun n => (h n).choose_spec⟩
  obtain ⟨x, hx⟩ := hx
  have hu : u = fun n => v n + r * x n := funext fun n => by have := hx n; omega
  intro n
  rw [hu, hA.add v (fun n => r * x n), hA.mul r x]
  exact ⟨A x n, by simp only []; omega⟩

/-- An operator, n times. -/
def itr (A : Sq → Sq) : Nat → Sq → Sq
  | 0, u => u
  | n + 1, u => A (itr A n u)
theorem itr_lin {A : Sq → Sq} (hA : Lin A) : ∀ n, Lin (itr A n)
  | 0 => ⟨fun _ _ => rfl, fun _ _ => rfl⟩
  | n + 1 => ⟨fun u v => by simp only [itr, (itr_lin hA n).add, hA.add], fun c u => by simp only [itr, (itr_lin hA n).mul, hA.mul]⟩
theorem itr_comm {A B : Sq → Sq} (h : ∀ u, A (B u) = B (A u)) : ∀ (n : Nat) (u : Sq), itr A n (B u) = B (itr A n u)
  | 0, _ => rfl
  | n + 1, u => by simp only [itr, itr_comm h n u, h]
theorem itr_add (A : Sq → Sq) (m : Nat) (u : Sq) : ∀ n, itr A (m + n) u = itr A n (itr A m u)
  | 0 => rfl
  | n + 1 => by rw [show m + (n + 1) = (m + n) + 1 from rfl]; simp only [itr, itr_add A m u n]

/-- The sum of c k times A k times and B (n - k) times. -/
def hs (A B : Sq → Sq) (c : Nat → Int) (u : Sq) : Nat → Sq
  | 0 => fun i => c 0 * u i
  | n + 1 => fun i => B (hs A B c u n) i + c (n + 1) * itr A (n + 1) u i
/-- The coefficients, moved by one. -/
def mv (c : Nat → Int) : Nat → Int
  | 0 => 0
  | k + 1 => c k
theorem hs_A {A B : Sq → Sq} (hA : Lin A) (hB : Lin B) (hc : ∀ u, A (B u) = B (A u)) (c : Nat → Int) (u : Sq) :
    ∀ n, A (hs A B c u n) = hs A B (mv c) u (n + 1)
  | 0 => by
    funext i
    simp only [hs, mv, itr, hA.mul, hB.mul]
    omega
  | n + 1 => by
    funext i
    rw [hs, hA.add, hc, hs_A hA hB hc c u n, hA.mul]
    rfl
theorem hs_B (A B : Sq → Sq) (c : Nat → Int) (u : Sq) (n : Nat) (h : c (n + 1) = 0) : B (hs A B c u n) = hs A B c u (n + 1) := by
  funext i
  simp only [hs, h, Int.zero_mul, Int.add_zero]
theorem hs_add {A B : Sq → Sq} (hB : Lin B) (c d : Nat → Int) (u : Sq) :
    ∀ n, hs A B (fun k => c k + d k) u n = fun i => hs A B c u n i + hs A B d u n i
  | 0 => by funext i; simp only [hs, Int.add_mul]
  | n + 1 => by
    funext i
    simp only [hs, hs_add hB c d u n, hB.add, Int.add_mul]
    omega
theorem binom {A B : Sq → Sq} (hA : Lin A) (hB : Lin B) (hc : ∀ u, A (B u) = B (A u)) (u : Sq) :
    ∀ n, itr (fun x => fun i => A x i + B x i) n u = hs A B (fun k => (ch n k : Int)) u n
  | 0 => by funext i; simp [itr, hs, ch]
  | n + 1 => by
    rw [itr, binom hA hB hc u n, hs_A hA hB hc, hs_B A B _ u n (by rw [ch_past n (n + 1) (by omega)]; rfl), ← hs_add hB]
    congr 1
    funext k
    cases k with
    | zero => simp [mv, ch_zero]
    | succ k => simp [mv, ch]
theorem hs_alk {A B : Sq → Sq} (hB : Lin B) {r : Int} (c : Nat → Int) (u : Sq) :
    ∀ n, (∀ k, 0 < k → k ≤ n → r ∣ c k) → Alk r (hs A B c u n) (itr B n (fun i => c 0 * u i))
  | 0, _ => Alk.refl _ _
  | n + 1, h => by
    have ih := (hs_alk (A := A) hB c u n fun k h0 h1 => h k h0 (by omega)).lin hB
    intro i
    have h2 := Int.dvd_add (ih i) (Int.dvd_trans (h (n + 1) (by omega) (by omega)) (Int.dvd_mul_right (c (n + 1)) (itr A (n + 1) u i)))
    simp only [hs, itr]
    rwa [show ∀ a b d : Int, a - b + d = a + d - b by intros; omega] at h2
/-- The freshman's dream. -/
theorem dream {A B : Sq → Sq} (hA : Lin A) (hB : Lin B) (hc : ∀ u, A (B u) = B (A u)) {r : Nat} (hr : Prm r) (u : Sq) :
    Alk r (itr (fun x => fun i => A x i + B x i) r u) (fun i => itr B r u i + itr A r u i) := by
  obtain ⟨m, rfl⟩ : ∃ m, r = m + 1 := ⟨r - 1, by have := hr.1; omega⟩
  rw [binom hA hB hc]
  have h1 := (hs_alk (A := A) hB (fun k => (ch (m + 1) k : Int)) u m fun k h0 h1 => Int.natCast_dvd_natCast.mpr (ch_prm hr k h0 (by omega))).lin hB
  intro i
  have := h1 i
  simp only [hs, ch_self, ch_zero, itr] at *
  simp only [Int.natCast_one, Int.one_mul] at *
  rwa [show ∀ a b d : Int, a + d - (b + d) = a - b by intros; omega]
end Go.Proofs.YtfonpmahcdmajaaDoor
