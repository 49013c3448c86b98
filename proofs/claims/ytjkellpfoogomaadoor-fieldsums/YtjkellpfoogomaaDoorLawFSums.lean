/-
  avouchlaw02.FieldSums returns true, whatever it is given, and turns nothing that was there.
-/
import Derived.Test.YtjkellpfoogomaaDoorFSumC
import Derived.Test.YtjkellpfoogomaaDoorFLaw0
import Derived.Deep.RegionHeld3
import Derived.Deep.RegionWith
import Derived.Deep.CutBlock
import Derived.Deep.DeepCutAuto
namespace Go.Proofs.YtjkellpfoogomaaDoor
open Go.RowKit
set_option linter.unusedVariables false

/-- A slice of slices of bytes. -/
structure RdR (w : World) (A : Option Addr) (n : Nat) : Prop where
  cells : 0 < n → ∃ b off, A = some ⟨b, off, none⟩ ∧ b < w.heap.size ∧ ∀ r, r < n → ∃ Ar Lr Cr lr, w.cell? ⟨b, off + r, none⟩ = some (.slice Ar Lr Cr) ∧ Rd8 w w.heap.size Ar Lr lr
structure SumRel (w1 wr : World) (va vt : Value) (k : Nat) : Prop where
  ex : ∃ L : List Qd, L.length = k ∧ (∀ q ∈ L, El (qv q) (qn q)) ∧ Two w1 wr va vt L

theorem RdE.mono {w : World} {B B' n : Nat} {A : Option Addr} {l : List Nat} (h : RdE w B A n l) (hB : B ≤ B') : RdE w B' A n l :=
  ⟨h.len, fun hp => by
    obtain ⟨b, off, e, hb, hc⟩ := h.cells hp
    exact ⟨b, off, e, Nat.lt_of_lt_of_le hb hB, hc⟩⟩
theorem RdE.rest {w : World} {B n b : Nat} {l : List Nat} (h : RdE w B (some ⟨b, 0, none⟩) n l) (k c : Nat) (hk : k ≤ n) (_ : n ≤ c) (_ : ¬ c = k) : RdE w B (some ⟨b, k * 4, none⟩) (n - k) (l.drop k) := by
  have h1 := h.drop k hk
  rw [Nat.zero_add] at h1
  exact h1
theorem RdE.none {w : World} {B n : Nat} {A : Option Addr} {l : List Nat} (h : RdE w B A n l) : RdE w B A 0 (l.drop n) :=
  ⟨by rw [List.length_drop, h.len, Nat.sub_self], fun hp => absurd hp (Nat.lt_irrefl _)⟩
theorem psum_zero_two (l m : List Nat) : (psum l 0 + psum m 0) % pN = psum l 0 % pN := rfl
structure EnvS (w0 : World) (bs : Nat) (s0 s1 s2 s3 : Int) (Aa At : Option Addr) (k : Nat) (M : List Nat) (w : World) : Prop where
  g : Glob w
  o : B4 w bs s0 s1 s2 s3
  a : RdE w w.heap.size Aa k M
  t : RdE w w.heap.size At k M.reverse
  b : Below w0.heap.size w0 w
theorem EnvS.up {w0 : World} {bs : Nat} {s0 s1 s2 s3 : Int} {Aa At : Option Addr} {k : Nat} {M : List Nat} {w w' : World} (h : EnvS w0 bs s0 s1 s2 s3 Aa At k M w) (hb : Below w.heap.size w w') : EnvS w0 bs s0 s1 s2 s3 Aa At k M w' :=
  ⟨h.g.up hb, h.o.below hb h.o.size, (h.a.below hb (Nat.le_refl _)).mono hb.size, (h.t.below hb (Nat.le_refl _)).mono hb.size, h.b.trans (hb.mono h.b.size)⟩
theorem EnvS.cells {w0 : World} {bs : Nat} {s0 s1 s2 s3 : Int} {Aa At : Option Addr} {k : Nat} {M : List Nat} {w : World} (h : EnvS w0 bs s0 s1 s2 s3 Aa At k M w) :
    w.cell? ⟨bs, 0, none⟩ = some (.int .u64 s0) ∧ w.cell? ⟨bs, 1, none⟩ = some (.int .u64 s1) ∧ w.cell? ⟨bs, 2, none⟩ = some (.int .u64 s2) ∧ w.cell? ⟨bs, 3, none⟩ = some (.int .u64 s3) :=
  ⟨h.o.c0, h.o.c1, h.o.c2, h.o.c3⟩
/-- The number of the top j of n bytes. -/
def hi256 (l : List Nat) (n : Nat) : Nat → Nat
  | 0 => 0
  | j + 1 => hi256 l n j * 256 + l.getD (n - 1 - j) 0
theorem hi256_pv (l : List Nat) (n : Nat) : ∀ j, j ≤ n → hi256 l n j * 256 ^ (n - j) + pv 256 l (n - j) = pv 256 l n := by
  intro j
  induction j with
  | zero => intro _; simp [hi256]
  | succ j ih =>
    intro h
    have h1 := ih (by omega)
    have e : n - j = (n - 1 - j) + 1 := by omega
    have e2 : n - (j + 1) = n - 1 - j := by omega
    rw [e2]
    rw [e, pv, Nat.pow_succ] at h1
    rw [← h1, hi256, Nat.add_mul, Nat.mul_assoc, Nat.mul_comm 256]
    omega
theorem hi256_all (l : List Nat) (n : Nat) (hl : l.length = n) : hi256 l n n = val 256 l := by
  have h := hi256_pv l n n (Nat.le_refl _)
  rw [Nat.sub_self, Nat.pow_zero, Nat.mul_one] at h
  rw [val, hl, ← h]
  simp [pv]
theorem hi256_mod (a z : Nat) : (a % pN * 256 % pN + z) % pN = (a * 256 + z) % pN := by
  rw [Nat.mod_add_mod, Nat.add_mod, Nat.mul_mod, Nat.mod_mod, ← Nat.mul_mod, ← Nat.add_mod]
structure EnvI (w5 : World) (bo bb ob : Nat) (o0 o1 o2 o3 z : Int) (w : World) : Prop where
  g : Glob w
  o : B4 w bo o0 o1 o2 o3
  c : w.cell? ⟨bb, ob, none⟩ = some (.int .u8 z)
  l : bb < bo
  b : Below bo w5 w
theorem EnvI.up {w5 : World} {bo bb ob : Nat} {o0 o1 o2 o3 z : Int} {w w' : World} (h : EnvI w5 bo bb ob o0 o1 o2 o3 z w) (hb : Below w.heap.size w w') : EnvI w5 bo bb ob o0 o1 o2 o3 z w' :=
  ⟨h.g.up hb, h.o.below hb h.o.size, (hb.cell (p := ⟨bb, ob, none⟩) (Nat.lt_trans h.l h.o.size)).trans h.c, h.l, h.b.trans (hb.mono (Nat.le_of_lt h.o.size))⟩
theorem EnvI.cells {w5 : World} {bo bb ob : Nat} {o0 o1 o2 o3 z : Int} {w : World} (h : EnvI w5 bo bb ob o0 o1 o2 o3 z w) :
    w.cell? ⟨bo, 0, none⟩ = some (.int .u64 o0) ∧ w.cell? ⟨bo, 1, none⟩ = some (.int .u64 o1) ∧ w.cell? ⟨bo, 2, none⟩ = some (.int .u64 o2) ∧ w.cell? ⟨bo, 3, none⟩ = some (.int .u64 o3) ∧ w.cell? ⟨bb, ob, none⟩ = some (.int .u8 z) :=
  ⟨h.o.c0, h.o.c1, h.o.c2, h.o.c3, h.c⟩
structure InRel (w5 wi : World) (lr : List Nat) (Lr j : Nat) : Prop where
  ex : ∃ o0 o1 o2 o3 : Int, B4 wi w5.heap.size o0 o1 o2 o3 ∧ Below w5.heap.size w5 wi ∧ El (w4 o0 o1 o2 o3) (hi256 lr Lr j % pN)

set_option maxRecDepth 100000 in
set_option maxHeartbeats 16000000 in
theorem fieldSums_w (A0 : Option Addr) (n0 c0 v : Nat) (w : World) (r0 : RdR w A0 n0) (hv : v < 256) (hG : Glob w) :
    Calls Tryd.prog 7 #[.slice A0 n0 c0, .int .u8 (v : Int)] w fun e w' => e = .returned (.bool true) ∧ Below w.heap.size w w' := by
  by_cases g0 : 20 < n0
  · have d0 : decide ((20 : Int) < (n0 : Int)) = true := by simp; omega
    go_enter Tryd.func7, Tryd.ntmps7
    go_wp2_with fail
    refine (speaks2_c w hG).mono ?_
    rintro e w1 ⟨rfl, b1⟩
    go_wp2_with fail
    refine (speaks2_c w1 (hG.up b1)).mono ?_
    rintro e w2 ⟨rfl, b2⟩
    go_wp2
    go_ret
    exact ⟨rfl, bchain b1 b2⟩
  have d0 : decide ((20 : Int) < (n0 : Int)) = false := by simp; omega
  go_enter Tryd.func7, Tryd.ntmps7
  go_wp2_with fail
  refine (speaks2_c w hG).mono ?_
  rintro e w1 ⟨rfl, b1⟩
  go_wp2_with fail
  clear d0
  go_loopw [5, 6, 24] (fun va vt i wr => ∃ k : Nat, k ≤ n0 ∧ i = .int .i64 k ∧ SumRel w1 wr va vt k) (fun _ _ i _ => n0 - (intOf i).toNat)
  case atStart =>
    exact ⟨0, by omega, rfl, [], rfl, fun q hq => by simp at hq, two_nil w1⟩
  case round =>
    obtain ⟨k, hk, rfl, L, hL, hel, hT⟩ := hrel
    have bw := bchain b1 hT.b
    by_cases hlt : k < n0
    · obtain ⟨b, off, rfl, hbB, hc⟩ := r0.cells (by omega)
      obtain ⟨Ar, Lr, Cr, lr, hcell, hrd⟩ := hc k hlt
      have hcell := (bw.cell (p := ⟨b, off + k, none⟩) hbB).trans hcell
      have HR0 := hid hrd
      have hrd := hrd.up bw (Nat.le_refl _)
      have k0 : (0 : Int) ≤ (k : Int) := by omega
      have k1 : (k : Int) < (n0 : Int) := by omega
      by_cases g1 : 40 < Lr
      · have d1 : decide ((40 : Int) < (Lr : Int)) = true := by simp; omega
        go_wp2_with fail
        go_ret
        exact ⟨rfl, bw⟩
      · have d1 : decide ((40 : Int) < (Lr : Int)) = false := by simp; omega
        go_wp2_with fail
        refine (fromWide_c Ar Lr Cr lr wr hrd (by omega) (hG.up bw)).mono ?_
        rintro e w2 ⟨vx, rfl, hx, b2⟩
        have HX := hid hx
        obtain ⟨e0, e1, e2, e3, rfl, -, -, -⟩ := hx
        have b3 : Below w2.heap.size w2 (w2.alloc (o4 27 e0 e1 e2 e3)) := (Below.refl _ _).alloc (Nat.le_refl _) _
        have hT3 := (hT.up b2).up b3
        have hB3 := o4_new w2 27 e0 e1 e2 e3
        have hne : ∀ i, u5.ownBlock = some i → i < w2.heap.size := fun i hi => ((hT.up b2).a.lt i hi).2
        obtain ⟨q, hq⟩ : ∃ q : Qd, q = (e0, e1, e2, e3, val 256 lr % pN) := ⟨_, rfl⟩
        unfold o4 Go.Proofs.YtjkellpfoogomaaDoor.w4 at *
        clear hcell b3 d1
        go_wp2_with (at_builtin; refine app_all rfl (.tmp 33) (.tmp 35) rfl u5 u6 L (e0, e1, e2, e3, val 256 lr % pN) w2.heap.size rfl (by simp; rfl) hT3 (by omega) hB3 hne ?_)
        intro va w3 hM
        have ce0 : w3.cell? ⟨w2.heap.size, 0, none⟩ = some (.int .u64 e0) := hM.e.c0
        have ce1 : w3.cell? ⟨w2.heap.size, 1, none⟩ = some (.int .u64 e1) := hM.e.c1
        have ce2 : w3.cell? ⟨w2.heap.size, 2, none⟩ = some (.int .u64 e2) := hM.e.c2
        have ce3 : w3.cell? ⟨w2.heap.size, 3, none⟩ = some (.int .u64 e3) := hM.e.c3
        clear hT3 hB3 hne
        go_wp2_with (at_builtin; refine app_turned rfl (.tmp 38) (.tmp 39) rfl va u6 L (e0, e1, e2, e3, val 256 lr % pN) w2.heap.size (by first | rfl | (simp; done) | (simp; rfl)) rfl hM (by omega) ?_)
        intro vt w5 hT5 hB5
        have HT5 := hid hT5
        have HB5 := hid hB5
        have b5 := bchain b1 hT5.b
        clear hM ce0 ce1 ce2 ce3 hT5 hB5 hT b2 hrd bw
        go_wp2_with fail
        go_loopw [44] (fun i wi => ∃ j : Nat, j ≤ Lr ∧ i = .int .i64 j ∧ InRel w5 wi lr Lr j) (fun i _ => Lr - (intOf i).toNat)
        case atStart =>
          exact ⟨0, by omega, rfl, 0, 0, 0, 0, o4_new w5 _ 0 0 0 0, (Below.refl _ _).alloc (Nat.le_refl _) _, El.zero⟩
        case round =>
          obtain ⟨j, hj, rfl, o0, o1, o2, o3, hO, hbI, hEl⟩ := hrel
          unfold Go.Proofs.YtjkellpfoogomaaDoor.w4 at *
          by_cases hjl : j < Lr
          · obtain ⟨bb, ob, rfl, hbb, hcb⟩ := HR0.out.cells (by omega)
            obtain ⟨m, hm⟩ : ∃ m : Nat, m = Lr - 1 - j := ⟨_, rfl⟩
            have hcm := hcb m (by omega)
            obtain ⟨zn, hzn⟩ : ∃ zn : Nat, zn = lr.getD m 0 := ⟨_, rfl⟩
            have hz : zn < 18446744073709551616 := by
              have h1 : zn < 256 := by
                rw [hzn, List.getD_eq_getElem?_getD, List.getElem?_eq_getElem (by have := HR0.out.len; omega)]
                exact HR0.out.lt _ (List.getElem_mem _)
              omega
            have HZ : Hid (hi256 lr Lr (j + 1) = hi256 lr Lr j * 256 + zn) := hid (by rw [hi256, hzn, hm])
            have bwi := b5.trans (hbI.mono b5.size)
            have E0 : EnvI w5 w5.heap.size bb (ob + m) o0 o1 o2 o3 (zn : Int) wr :=
              ⟨hG.up bwi, hO, by rw [bwi.cell (p := ⟨bb, ob + m, none⟩) hbb, hcm, hzn]; rfl, Nat.lt_of_lt_of_le hbb b5.size, hbI⟩
            have E1 := E0.up (Below.refl _ _).drew
            obtain ⟨c0, c1, c2, c3, c4⟩ := E1.cells
            have j0 : (0 : Int) ≤ (j : Int) := by omega
            have j1 : (j : Int) < (Lr : Int) := by omega
            obtain ⟨aa, haa⟩ : ∃ a : Nat, a = Lr - 1 := ⟨_, rfl⟩
            have f1 : IntKind.i64.wrap ((Lr : Int) - 1) = (aa : Int) := by rw [IntKind.wrap_i64]; omega
            have f2 : IntKind.i64.wrap ((aa : Int) - (j : Int)) = (m : Int) := by rw [IntKind.wrap_i64]; omega
            have m1 : (0 : Int) ≤ (m : Int) := by omega
            have m2 : (m : Int) < (Lr : Int) := by omega
            have hLr : Lr ≤ 40 := by omega
            have fz : IntKind.u64.wrap (zn : Int) = (zn : Int) := by rw [IntKind.wrap_u64]; omega
            clear haa
            clear hcm hzn hm hcb E0 hO bwi
            go_wp2_with fail
            go_region_with (first
              | (go_at_call 19; refine (fromUint64_c 256 _ (by decide) (EnvI.g (by with_reducible assumption))).mono ?_; rintro e v ⟨r, rfl, hr, hb⟩; have hE := EnvI.up (by with_reducible assumption) hb; obtain ⟨c0, c1, c2, c3, c4⟩ := hE.cells)
              | (go_at_call 19; refine (fromUint64_c zn _ hz (EnvI.g (by with_reducible assumption))).mono ?_; rintro e v ⟨r, rfl, hr, hb⟩; have hE := EnvI.up (by with_reducible assumption) hb; obtain ⟨c0, c1, c2, c3, c4⟩ := hE.cells)
              | (go_at_call 25; refine (emul_c _ _ _ _ _ (by with_reducible assumption) (by with_reducible assumption) (EnvI.g (by with_reducible assumption))).mono ?_; rintro e v ⟨r, rfl, hr, hb⟩; have hE := EnvI.up (by with_reducible assumption) hb; obtain ⟨c0, c1, c2, c3, c4⟩ := hE.cells)
              | (go_at_call 21; refine (eadd_c _ _ _ _ _ (by with_reducible assumption) (by with_reducible assumption) (EnvI.g (by with_reducible assumption))).mono ?_; rintro e v ⟨r, rfl, hr, hb⟩; have hE := EnvI.up (by with_reducible assumption) hb; obtain ⟨c0, c1, c2, c3, c4⟩ := hE.cells; rw [hi256_mod, ← HZ.out] at hr; have HRR := hid hr; have hEE := hid hE; have fq := hE.o.frozen; obtain ⟨q0, q1, q2, q3, rfl, -, -, -⟩ := hr; unfold Go.Proofs.YtjkellpfoogomaaDoor.w4 at *))
            all_goals
              have hO3 := hEE.out.o.all q0 q1 q2 q3
              have hl3 := below_all (c := w5.heap.size) hEE.out.b (Nat.le_refl _) q0 q1 q2 q3
              have f0 := fq 0
              have f1' := fq 1
              have f2' := fq 2
              have f3 := fq 3
              go_wp2_with fail
              go_roundw
              case rel => exact ⟨j + 1, by omega, by go_num, q0, q1, q2, q3, hO3, hl3, HRR.out⟩
              case measure => simp [intOf]; omega
          · have hje : j = Lr := by omega
            subst hje
            have HEo := hid hEl
            rw [hi256_all lr j HR0.out.len] at HEo
            have hBe : B4 wr w2.heap.size e0 e1 e2 e3 := HB5.out.below hbI HB5.out.size
            have hTf := HT5.out.up hbI
            have co0 := hO.c0
            have co1 := hO.c1
            have co2 := hO.c2
            have co3 := hO.c3
            have ce0 := hBe.c0
            have ce1 := hBe.c1
            have ce2 := hBe.c2
            have ce3 := hBe.c3
            go_wp2_with fail
            refine (eequal_c _ _ _ _ _ HEo.out HX.out).mono ?_
            rintro e w6 ⟨rfl, b6⟩
            rw [decide_eq_true rfl]
            have hT6 := hTf.up b6
            clear co0 co1 co2 co3 ce0 ce1 ce2 ce3 hBe hO hTf
            go_wp2_with fail
            go_roundw
            case rel =>
              refine ⟨k + 1, by omega, by go_num, L ++ [(e0, e1, e2, e3, val 256 lr % pN)], by simp [hL], fun p hp => ?_, hT6⟩
              rcases List.mem_append.1 hp with hp | hp
              · exact hel p hp
              · obtain rfl : p = (e0, e1, e2, e3, val 256 lr % pN) := by simpa using hp
                exact HX.out
            case measure => simp [intOf]; omega
    · obtain rfl : k = n0 := by omega
      obtain ⟨Aa, ca, hu5, hca, hcm, hra⟩ := OwnE.rd hT.a hel
      obtain ⟨At, ct, hu6, hct, htm, hrt⟩ := OwnE.rd hT.t (fun q hq => hel q (List.mem_reverse.1 hq))
      rw [hL] at hu5 hca hra
      rw [List.length_reverse, hL] at hu6 hct hrt
      subst hu5
      subst hu6
      obtain ⟨kk, hkk⟩ : ∃ kk : Nat, kk = v % (k + 1) := ⟨_, rfl⟩
      have hkl : kk ≤ k := by rw [hkk]; exact Nat.le_of_lt_succ (Nat.mod_lt v (Nat.succ_pos k))
      have hG2 := hG.up bw
      have ht : (v : Int) % ((k : Int) + 1) = (kk : Int) := by rw [hkk]; exact_mod_cast (Int.natCast_emod v (k + 1)).symm
      have hml : (L.map qn).length = k := by simp [hL]
      rw [List.map_reverse] at hrt
      have hr1 := psum_reverse (L.map qn)
      rw [hml] at hr1
      have hr2 := psum_take (L.map qn) kk
      have hr3 := psum_drop (L.map qn) kk (k - kk)
      rw [Nat.add_sub_cancel' hkl] at hr3
      generalize L.map qn = M at *
      have HR1 := hid hr1
      have HR2 := hid hr2
      have HR3 := hid hr3
      clear hr1 hr2 hr3 hkk
      go_wp2_with fail
      refine (sumE_c Aa k ca M wr hra (by omega) hG2).mono ?_
      rintro e w2 ⟨vs, rfl, hs, b2⟩
      have HS := hid hs
      obtain ⟨s0, s1, s2, s3, rfl, -, -, -⟩ := hs
      have b3 := b2.alloc b2.size (o4 27 s0 s1 s2 s3)
      have hB3 := o4_new w2 27 s0 s1 s2 s3
      have hra3 := hra.below b3 (Nat.le_refl _)
      have hrt3 := hrt.below b3 (Nat.le_refl _)
      have E3 : EnvS w w2.heap.size s0 s1 s2 s3 Aa At k M (w2.alloc (o4 27 s0 s1 s2 s3)) :=
        ⟨hG.up (bw.trans (b3.mono bw.size)), hB3, hra3.mono b3.size, hrt3.mono b3.size, bw.trans (b3.mono bw.size)⟩
      unfold o4 Go.Proofs.YtjkellpfoogomaaDoor.w4 at *
      have hAa : (Aa = none ∧ k = 0 ∧ ca = 0) ∨ ∃ g, Aa = some ⟨g, 0, none⟩ := by
        rcases hT.a.2 with ⟨h1, h2⟩ | ⟨g, cap, cur, h1, _⟩
        · simp only [Value.slice.injEq] at h1
          exact Or.inl ⟨h1.1, h1.2.1, h1.2.2⟩
        · simp only [Value.slice.injEq] at h1
          exact Or.inr ⟨g, h1.1⟩
      clear hra hrt hT hra3 hrt3 hB3 b2 b3
      go_wp2_with fail
      generalize w2.alloc (.cells #[.int .u64 s0, .int .u64 s1, .int .u64 s2, .int .u64 s3] 27) = w3 at E3 ⊢
      generalize w2.heap.size = bs at E3 ⊢
      have E4 := E3.up (Below.refl _ _).drew
      have x0 : (0 : Int) ≤ (kk : Int) := by omega
      have x1 : (kk : Int) ≤ (ca : Int) := by omega
      have x2 : (kk : Int) ≤ (k : Int) := by omega
      have x3 : (k : Int) ≤ (ca : Int) := by omega
      have hss := HS.out
      clear HS E3
      rcases hAa with ⟨rfl, hk0, hc0⟩ | ⟨g, rfl⟩
      · subst hk0 hc0
        obtain rfl : kk = 0 := by omega
        go_cut [4] (fun s wx => s = .bool true ∧ EnvS w bs s0 s1 s2 s3 none At 0 M wx)
        case first =>
          clear hel r0 hG hG2 bw b1 hml hL
          go_region_held3 (fun w' => w'.cell? ⟨bs, 0, none⟩ = some (.int .u64 s0) ∧ w'.cell? ⟨bs, 1, none⟩ = some (.int .u64 s1) ∧ w'.cell? ⟨bs, 2, none⟩ = some (.int .u64 s2) ∧ w'.cell? ⟨bs, 3, none⟩ = some (.int .u64 s3)) (exact EnvS.cells (by with_reducible assumption)) (first
          | (go_at_call 29; with_reducible refine (eequal_c _ _ _ _ _ (by with_reducible assumption) (by with_reducible assumption)).mono ?_; rintro e v ⟨rfl, hb⟩; rw [decide_eq_true rfl]; have hE := EnvS.up (by with_reducible assumption) hb; dsimp only)
          | (go_at_call 32; with_reducible refine (sumE_c At 0 ct M.reverse _ (EnvS.t (by with_reducible assumption)) (by omega) (EnvS.g (by with_reducible assumption))).mono ?_; rintro e v ⟨r, rfl, hr, hb⟩; rw [HR1.out] at hr; have hE := EnvS.up (by with_reducible assumption) hb; dsimp only)
          | (go_at_call 32; with_reducible refine (sumE_c none 0 0 M _ (EnvS.a (by with_reducible assumption)) (by omega) (EnvS.g (by with_reducible assumption))).mono ?_; rintro e v ⟨r, rfl, hr, hb⟩; have hE := EnvS.up (by with_reducible assumption) hb; dsimp only)
          | (go_at_call 21; with_reducible refine (eadd_c _ _ _ _ _ (by with_reducible assumption) (by with_reducible assumption) (EnvS.g (by with_reducible assumption))).mono ?_; rintro e v ⟨r, rfl, hr, hb⟩; rw [← Nat.add_mod, psum_zero_two] at hr; have hE := EnvS.up (by with_reducible assumption) hb; dsimp only))
          all_goals
            go_wp2_with fail
            go_meet
            exact ⟨rfl, hE⟩
        case rest =>
          obtain ⟨rfl, hE⟩ := hcut
          go_wp2_with fail
          go_ret
          exact ⟨rfl, hE.b⟩
      · by_cases hck : ca = kk
        · obtain rfl : kk = k := by omega
          subst hck
          rw [Nat.sub_self] at HR3
          go_cut [4] (fun s wx => s = .bool true ∧ EnvS w bs s0 s1 s2 s3 (some ⟨g, 0, none⟩) At ca M wx)
          case first =>
            clear hel r0 hG hG2 bw b1 hml hL
            go_region_held3 (fun w' => w'.cell? ⟨bs, 0, none⟩ = some (.int .u64 s0) ∧ w'.cell? ⟨bs, 1, none⟩ = some (.int .u64 s1) ∧ w'.cell? ⟨bs, 2, none⟩ = some (.int .u64 s2) ∧ w'.cell? ⟨bs, 3, none⟩ = some (.int .u64 s3)) (exact EnvS.cells (by with_reducible assumption)) (first
            | (go_at_call 32; with_reducible refine (sumE_c At ca ct M.reverse _ (EnvS.t (by with_reducible assumption)) (by omega) (EnvS.g (by with_reducible assumption))).mono ?_; rintro e v ⟨r, rfl, hr, hb⟩; rw [HR1.out] at hr; have hE := EnvS.up (by with_reducible assumption) hb; dsimp only)
            | (go_at_call 29; with_reducible refine (eequal_c _ _ _ _ _ (by with_reducible assumption) (by with_reducible assumption)).mono ?_; rintro e v ⟨rfl, hb⟩; rw [decide_eq_true rfl]; have hE := EnvS.up (by with_reducible assumption) hb; dsimp only)
            | (go_at_call 32; with_reducible refine (sumE_c (some ⟨g, 0, none⟩) ca ca (M.take ca) _ (RdE.take (EnvS.a (by with_reducible assumption)) ca (Nat.le_refl ca)) (by omega) (EnvS.g (by with_reducible assumption))).mono ?_; rintro e v ⟨r, rfl, hr, hb⟩; rw [HR2.out] at hr; have hE := EnvS.up (by with_reducible assumption) hb; dsimp only)
            | (go_at_call 32; with_reducible refine (sumE_c (some ⟨g, 0, none⟩) 0 0 (M.drop ca) _ (RdE.none (EnvS.a (by with_reducible assumption))) (by omega) (EnvS.g (by with_reducible assumption))).mono ?_; rintro e v ⟨r, rfl, hr, hb⟩; have hE := EnvS.up (by with_reducible assumption) hb; dsimp only)
            | (go_at_call 21; with_reducible refine (eadd_c _ _ _ _ _ (by with_reducible assumption) (by with_reducible assumption) (EnvS.g (by with_reducible assumption))).mono ?_; rintro e v ⟨r, rfl, hr, hb⟩; rw [← Nat.add_mod, HR3.out] at hr; have hE := EnvS.up (by with_reducible assumption) hb; dsimp only))
            all_goals
              go_wp2_with fail
              go_meet
              exact ⟨rfl, hE⟩
          case rest =>
            obtain ⟨rfl, hE⟩ := hcut
            go_wp2_with fail
            go_ret
            exact ⟨rfl, hE.b⟩
        · go_cut [4] (fun s wx => s = .bool true ∧ EnvS w bs s0 s1 s2 s3 (some ⟨g, 0, none⟩) At k M wx)
          case first =>
            clear hel r0 hG hG2 bw b1 hml hL
            go_region_held3 (fun w' => w'.cell? ⟨bs, 0, none⟩ = some (.int .u64 s0) ∧ w'.cell? ⟨bs, 1, none⟩ = some (.int .u64 s1) ∧ w'.cell? ⟨bs, 2, none⟩ = some (.int .u64 s2) ∧ w'.cell? ⟨bs, 3, none⟩ = some (.int .u64 s3)) (exact EnvS.cells (by with_reducible assumption)) (first
            | (go_at_call 32; with_reducible refine (sumE_c At k ct M.reverse _ (EnvS.t (by with_reducible assumption)) (by omega) (EnvS.g (by with_reducible assumption))).mono ?_; rintro e v ⟨r, rfl, hr, hb⟩; rw [HR1.out] at hr; have hE := EnvS.up (by with_reducible assumption) hb; dsimp only)
            | (go_at_call 29; with_reducible refine (eequal_c _ _ _ _ _ (by with_reducible assumption) (by with_reducible assumption)).mono ?_; rintro e v ⟨rfl, hb⟩; rw [decide_eq_true rfl]; have hE := EnvS.up (by with_reducible assumption) hb; dsimp only)
            | (go_at_call 32; with_reducible refine (sumE_c (some ⟨g, 0, none⟩) kk ca (M.take kk) _ (RdE.take (EnvS.a (by with_reducible assumption)) kk hkl) (by omega) (EnvS.g (by with_reducible assumption))).mono ?_; rintro e v ⟨r, rfl, hr, hb⟩; rw [HR2.out] at hr; have hE := EnvS.up (by with_reducible assumption) hb; dsimp only)
            | (go_at_call 32; with_reducible refine (sumE_c (some ⟨g, kk * 4, none⟩) (k - kk) (ca - kk) (M.drop kk) _ (RdE.rest (EnvS.a (by with_reducible assumption)) kk ca hkl hca hck) (by omega) (EnvS.g (by with_reducible assumption))).mono ?_; rintro e v ⟨r, rfl, hr, hb⟩; have hE := EnvS.up (by with_reducible assumption) hb; dsimp only)
            | (go_at_call 21; with_reducible refine (eadd_c _ _ _ _ _ (by with_reducible assumption) (by with_reducible assumption) (EnvS.g (by with_reducible assumption))).mono ?_; rintro e v ⟨r, rfl, hr, hb⟩; rw [← Nat.add_mod, HR3.out] at hr; have hE := EnvS.up (by with_reducible assumption) hb; dsimp only))
            all_goals
              go_wp2_with fail
              go_meet
              exact ⟨rfl, hE⟩
          case rest =>
            obtain ⟨rfl, hE⟩ := hcut
            go_wp2_with fail
            go_ret
            exact ⟨rfl, hE.b⟩
end Go.Proofs.YtjkellpfoogomaaDoor
