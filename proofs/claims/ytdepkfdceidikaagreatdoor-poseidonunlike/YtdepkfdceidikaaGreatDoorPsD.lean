/-
  Poseidon on integers: a round, all rounds; what they make of zeros is not 0 at the first place. Plain arithmetic, ahead of stage 10.
-/
import Derived.Test.YtdepkfdceidikaaGreatDoorPsA
import Derived.Test.YtdepkfdceidikaaGreatDoorPsC
import Derived.Test.YtdepkfdceidikaaGreatDoorGnG
namespace Go.Proofs.YtdepkfdceidikaaGreatDoor
set_option linter.unusedVariables false

theorem lsF_join : ∀ (m n s s' s2 : Nat) (l l2 : List Nat), lsF m s = some (l, s') → lsF n s' = some (l2, s2) → lsF (m + n) s = some (l ++ l2, s2)
  | 0, n, s, s', s2, l, l2, e, e2 => by
    unfold lsF at e
    injection e with e
    injection e with q1 q2
    subst q1 q2
    rw [Nat.zero_add]
    exact e2
  | m + 1, n, s, s', s2, l, l2, e, e2 => by
    unfold lsF at e
    rw [Nat.add_right_comm]
    unfold lsF
    cases he : elF 12 s with
    | none => rw [he] at e; cases e
    | some q =>
      obtain ⟨v, s1⟩ := q
      rw [he] at e
      simp only at e ⊢
      cases hl : lsF m s1 with
      | none => rw [hl] at e; cases e
      | some q2 =>
        obtain ⟨l3, s3⟩ := q2
        rw [hl] at e
        injection e with e
        injection e with e3 e4
        subst e3 e4
        rw [lsF_join m n s1 s3 s2 l3 l2 hl e2]
        rfl
/-- The constants, one behind the other. -/
def pcL : List Nat := pcL0 ++ (pcL1 ++ (pcL2 ++ (pcL3 ++ (pcL4 ++ (pcL5 ++ (pcL6 ++ (pcL7 ++ (pcL8 ++ (pcL9 ++ (pcL10 ++ (pcL11 ++ pcL12)))))))))))
theorem pS_eq : gS 254 3 8 57 = 1054779284662495806955078 := by decide +kernel
theorem pc_all : lsF 195 1054779284662495806955078 = some (pcL, 1013386232571974362401034) :=
  lsF_join 15 180 _ _ _ _ _ pc0 (lsF_join 15 165 _ _ _ _ _ pc1 (lsF_join 15 150 _ _ _ _ _ pc2 (lsF_join 15 135 _ _ _ _ _ pc3 (lsF_join 15 120 _ _ _ _ _ pc4 (lsF_join 15 105 _ _ _ _ _ pc5 (lsF_join 15 90 _ _ _ _ _ pc6 (lsF_join 15 75 _ _ _ _ _ pc7 (lsF_join 15 60 _ _ _ _ _ pc8 (lsF_join 15 45 _ _ _ _ _ pc9 (lsF_join 15 30 _ _ _ _ _ pc10 (lsF_join 15 15 _ _ _ _ _ pc11 pc12)))))))))))
theorem pc_at {i : Nat} (hi : i < 195) : pcL.getD i 0 = gelK i (gS 254 3 8 57) := by
  rw [pS_eq]
  exact (lsF_ok 195 _ _ _ (pS_eq ▸ gS_gs 254 3 8 57) pc_all).2.2 i hi
/-- A round; its constants; which are full; the first r rounds. -/
def rdZ (c : Nat → Int) (full : Bool) (V : Nat → Int) : Nat → Int := mzApply mzCauchy (fun i => if full || i == 0 then pw5 (V i + c i) else V i + c i)
noncomputable def pcZ (r i : Nat) : Int := if r < 65 then ((gelK (3 * r + i) (gS 254 3 8 57) : Nat) : Int) else 0
def fullB (r : Nat) : Bool := decide (r < 4) || decide (60 < r)
noncomputable def pmZ : Nat → (Nat → Int) → Nat → Int
  | 0, V => V
  | r + 1, V => rdZ (pcZ r) (fullB r) (pmZ r V)
theorem rdZ_inj {c : Nat → Int} {full : Bool} {V W : Nat → Int} (h : ∀ i, i < 3 → rdZ c full V i % pZ = rdZ c full W i % pZ) : ∀ i, i < 3 → V i % pZ = W i % pZ := by
  have h1 := mz_inj cauchy_det h
  intro i hi
  have h2 := h1 i hi
  have key : ∀ a b k : Int, (a + k) % pZ = (b + k) % pZ → a % pZ = b % pZ := fun a b k e => by
    have := zsub_congr e (rfl : k % pZ = k % pZ)
    rw [Int.add_sub_cancel, Int.add_sub_cancel] at this
    exact this
  by_cases c0 : (full || i == 0) = true
  · rw [if_pos c0, if_pos c0] at h2
    exact key _ _ _ (pw5_inj h2)
  · rw [if_neg c0, if_neg c0] at h2
    exact key _ _ _ h2
theorem rdZ_cong {c : Nat → Int} {full : Bool} {V W : Nat → Int} (h : ∀ i, i < 3 → V i % pZ = W i % pZ) : ∀ i, i < 3 → rdZ c full V i % pZ = rdZ c full W i % pZ := by
  have h1 : ∀ i, i < 3 → (if full || i == 0 then pw5 (V i + c i) else V i + c i) % pZ = (if full || i == 0 then pw5 (W i + c i) else W i + c i) % pZ := fun i hi => by
    have h2 := zadd_congr (h i hi) (rfl : c i % pZ = c i % pZ)
    split
    · exact pw5_cong h2
    · exact h2
  intro i _
  exact zadd_congr (zadd_congr (zmul_congr _ (h1 0 (by decide))) (zmul_congr _ (h1 1 (by decide)))) (zmul_congr _ (h1 2 (by decide)))
/-- The same on numbers. -/
def p5N (x : Nat) : Nat := x * x % pN * (x * x % pN) % pN * x % pN
def mxN (a b c x y z : Nat) : Nat := (a * x + b * y + c * z) % pN
def rdN (full : Bool) (k0 k1 k2 : Nat) (v : Nat × Nat × Nat) : Nat × Nat × Nat :=
  let x := p5N ((v.1 + k0) % pN)
  let y := if full then p5N ((v.2.1 + k1) % pN) else (v.2.1 + k1) % pN
  let z := if full then p5N ((v.2.2 + k2) % pN) else (v.2.2 + k2) % pN
  (mxN 14592161914559516814830937163504850059032242933610689562465469457717205663745 16416182153879456416684804308942956316411273300312025757773653139931856371713 8755297148735710088898562298102910035419345760166413737479281674630323398247 x y z, mxN 16416182153879456416684804308942956316411273300312025757773653139931856371713 8755297148735710088898562298102910035419345760166413737479281674630323398247 18240202393199396018538671454381062573790303667013361953081836822146507079681 x y z, mxN 8755297148735710088898562298102910035419345760166413737479281674630323398247 18240202393199396018538671454381062573790303667013361953081836822146507079681 3126891838834182174606629392179610726935480628630862049099743455225115499374 x y z)
def pmN : Nat → Nat → List Nat → Nat × Nat × Nat → Nat × Nat × Nat
  | 0, _, _, v => v
  | n + 1, r, k0 :: k1 :: k2 :: l, v => pmN n (r + 1) l (rdN (fullB r) k0 k1 k2 v)
  | _ + 1, _, _, v => v
/-- The numbers are those of the integers. -/
def LikeZ (V : Nat → Int) (v : Nat × Nat × Nat) : Prop := V 0 % pZ = (v.1 : Int) % pZ ∧ V 1 % pZ = (v.2.1 : Int) % pZ ∧ V 2 % pZ = (v.2.2 : Int) % pZ
theorem z_modN (x : Nat) : ((x % pN : Nat) : Int) % pZ = (x : Int) % pZ := by rw [z_mod, Int.emod_emod]
theorem p5N_z {X : Int} {x : Nat} (h : X % pZ = (x : Int) % pZ) : pw5 X % pZ = ((p5N x : Nat) : Int) % pZ := by
  have hs : (X * X) % pZ = ((x * x % pN : Nat) : Int) % pZ := by
    rw [z_modN, Int.natCast_mul]
    exact zmul_congr2 h h
  unfold p5N pw5
  rw [z_modN, Int.natCast_mul]
  refine zmul_congr2 ?_ h
  rw [z_modN, Int.natCast_mul]
  exact zmul_congr2 hs hs
theorem add_z {X K : Int} {x k : Nat} (h : X % pZ = (x : Int) % pZ) (hk : K % pZ = (k : Int) % pZ) : (X + K) % pZ = (((x + k) % pN : Nat) : Int) % pZ := by
  rw [z_modN, Int.natCast_add]
  exact zadd_congr h hk
theorem mxN_z {A B C X Y Z : Int} {a b c x y z : Nat} (ha : A % pZ = (a : Int) % pZ) (hb : B % pZ = (b : Int) % pZ) (hc : C % pZ = (c : Int) % pZ) (hx : X % pZ = (x : Int) % pZ) (hy : Y % pZ = (y : Int) % pZ) (hz : Z % pZ = (z : Int) % pZ) :
    (A * X + B * Y + C * Z) % pZ = ((mxN a b c x y z : Nat) : Int) % pZ := by
  unfold mxN
  rw [z_modN, Int.natCast_add, Int.natCast_add, Int.natCast_mul, Int.natCast_mul, Int.natCast_mul]
  exact zadd_congr (zadd_congr (zmul_congr2 ha hx) (zmul_congr2 hb hy)) (zmul_congr2 hc hz)
theorem cz_at (i j : Nat) (hi : i < 3) (hj : j < 3) : mzCauchy i j % pZ = cz.getD (i + j) 0 % pZ := cauchy_cong i j hi hj
theorem rdN_z {V : Nat → Int} {v : Nat × Nat × Nat} (h : LikeZ V v) {c : Nat → Int} {k0 k1 k2 : Nat} (h0 : c 0 % pZ = (k0 : Int) % pZ) (h1 : c 1 % pZ = (k1 : Int) % pZ) (h2 : c 2 % pZ = (k2 : Int) % pZ) (full : Bool) : LikeZ (rdZ c full V) (rdN full k0 k1 k2 v) := by
  obtain ⟨a0, a1, a2⟩ := h
  have x0 : (if (full || (0 : Nat) == 0) = true then pw5 (V 0 + c 0) else V 0 + c 0) % pZ = ((p5N ((v.1 + k0) % pN) : Nat) : Int) % pZ := by
    rw [if_pos (by simp)]
    exact p5N_z (add_z a0 h0)
  have x1 : (if (full || (1 : Nat) == 0) = true then pw5 (V 1 + c 1) else V 1 + c 1) % pZ = (((if full then p5N ((v.2.1 + k1) % pN) else (v.2.1 + k1) % pN) : Nat) : Int) % pZ := by
    cases full
    · exact add_z a1 h1
    · exact p5N_z (add_z a1 h1)
  have x2 : (if (full || (2 : Nat) == 0) = true then pw5 (V 2 + c 2) else V 2 + c 2) % pZ = (((if full then p5N ((v.2.2 + k2) % pN) else (v.2.2 + k2) % pN) : Nat) : Int) % pZ := by
    cases full
    · exact add_z a2 h2
    · exact p5N_z (add_z a2 h2)
  exact ⟨mxN_z (cz_at 0 0 (by decide) (by decide)) (cz_at 0 1 (by decide) (by decide)) (cz_at 0 2 (by decide) (by decide)) x0 x1 x2,
    mxN_z (cz_at 1 0 (by decide) (by decide)) (cz_at 1 1 (by decide) (by decide)) (cz_at 1 2 (by decide) (by decide)) x0 x1 x2,
    mxN_z (cz_at 2 0 (by decide) (by decide)) (cz_at 2 1 (by decide) (by decide)) (cz_at 2 2 (by decide) (by decide)) x0 x1 x2⟩
theorem pcZ_at {r i : Nat} (hr : r < 65) (hi : i < 3) : pcZ r i = ((pcL.getD (3 * r + i) 0 : Nat) : Int) := by
  unfold pcZ
  rw [if_pos hr, pc_at (by omega)]
theorem pmN_z : ∀ (n r : Nat) (l : List Nat) (V : Nat → Int) (v : Nat × Nat × Nat), l.length = 3 * n → r + n = 65 → (∀ i, i < 3 * n → l.getD i 0 = pcL.getD (3 * r + i) 0) → LikeZ (pmZ r V) v → LikeZ (pmZ (r + n) V) (pmN n r l v)
  | 0, r, l, V, v, _, _, _, h => h
  | n + 1, r, [], V, v, hl, _, _, _ => by simp at hl
  | n + 1, r, [_], V, v, hl, _, _, _ => by simp at hl; omega
  | n + 1, r, [_, _], V, v, hl, _, _, _ => by simp at hl; omega
  | n + 1, r, k0 :: k1 :: k2 :: l, V, v, hl, hr, hc, h => by
    have e0 := hc 0 (by omega)
    have e1 := hc 1 (by omega)
    have e2 := hc 2 (by omega)
    have hz := rdN_z h (c := pcZ r) (k0 := k0) (k1 := k1) (k2 := k2) (by rw [pcZ_at (by omega) (by decide), ← e0]; rfl) (by rw [pcZ_at (by omega) (by decide), ← e1]; rfl) (by rw [pcZ_at (by omega) (by decide), ← e2]; rfl) (fullB r)
    have := pmN_z n (r + 1) l V _ (by simp at hl; omega) (by omega) (fun i hi => by
      have := hc (i + 3) (by omega)
      rw [show 3 * r + (i + 3) = 3 * (r + 1) + i by omega] at this
      exact this) hz
    rw [show r + (n + 1) = r + 1 + n by omega]
    exact this
theorem pm_num : pmN 65 0 pcL (0, 0, 0) = (91336413168087014636938515040233027948880448107810542058232819693275462048, 2479786189857083589969174706692720426217093828308434121393343043189052486270, 15642713663599363202441308978787740352734303634766377320826086876078100231829) := by decide +kernel
theorem pm_like : LikeZ (pmZ 65 (fun _ => 0)) (91336413168087014636938515040233027948880448107810542058232819693275462048, 2479786189857083589969174706692720426217093828308434121393343043189052486270, 15642713663599363202441308978787740352734303634766377320826086876078100231829) := by
  have h := pmN_z 65 0 pcL (fun _ => 0) (0, 0, 0) (by decide +kernel) rfl (fun i _ => by rw [Nat.mul_zero, Nat.zero_add]) ⟨rfl, rfl, rfl⟩
  rw [pm_num] at h
  exact h
/-- What all rounds make of zeros is not 0 at the first place. -/
theorem pm_zero : pmZ 65 (fun _ => 0) 0 % pZ ≠ 0 := by
  rw [pm_like.1]
  decide +kernel
end Go.Proofs.YtdepkfdceidikaaGreatDoor
