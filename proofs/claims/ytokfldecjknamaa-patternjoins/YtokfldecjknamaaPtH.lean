/-
  avouchref13.Parse: what the call does.
-/
import Derived.Test.YtokfldecjknamaaPtG
namespace Go.Proofs.Ytokfldecjknamaa
open Go.RowKit
set_option linter.unusedVariables false
set_option linter.unusedSimpArgs false

set_option maxRecDepth 20000 in
set_option maxHeartbeats 2000000 in
theorem rparse_c {B : Nat} (A : Option Addr) (n c : Nat) (bs : List Nat) (w : World) (ha : Rd8 w B A n bs) (hB : B ≤ w.heap.size) (hcap : n ≤ c) (hn6 : n ≤ 1000000) :
    Calls Try.prog 17 #[.slice A n c] w fun e w' => ∃ j A2 m c2, PEnd bs j ∧ e = .returned (.tuple #[.slice A2 m c2, .int .i64 (pAt bs j), .int .i64 (pE bs j : Nat)]) ∧ RdV w' w'.heap.size A2 m (pX bs j) ∧ m ≤ c2 ∧ Below w.heap.size w w' := by
  have hlt8 := ha.lt
  have HA := hid ha
  have hln := ha.len
  clear ha
  go_enter Try.func17, Try.ntmps17
  go_wp2
  go_loopw [0, 5] (fun bv lv wr => ∃ (j : Nat) (A1 : Option Addr) (m c1 : Nat), bv = .slice A1 m c1 ∧ m ≤ c1 ∧ m ≤ n ∧ Rd8 wr B A1 m (rsN bs j) ∧ OwnV 25 wr w.heap.size lv (xsN bs j) ∧ Hid (∀ i, i < j → goes bs i) ∧ Below w.heap.size w wr) (fun bv _ _ => slLen bv)
  case atStart => exact ⟨0, A, n, c, rfl, hcap, Nat.le_refl _, HA.out.below ((Below.refl _ _).alloc (Nat.le_refl _) _) hB, ownV_empty _ _, hid (fun i hi => absurd hi (by omega)), (Below.refl _ _).alloc (Nat.le_refl _) _⟩
  case round =>
    obtain ⟨j, A1, m, c1, rfl, hm1, hmn, hr, hown, HG, hb⟩ := hrel
    clear HA
    have hrl := hr.len
    obtain ⟨AL, cL, hv, hcL, rL, pL⟩ := hown.rd
    rw [xsN_len] at hv hcL
    subst hv
    by_cases h0 : 0 < m
    · have hne : rsN bs j ≠ [] := fun e => by rw [e] at hrl; have : ([] : List Nat).length = 0 := rfl; omega
      have HE := hid (goes_nE HG.out hne)
      obtain ⟨p1, p2, p3⟩ := pE_ne hne
      have HP1 := hid p1
      have HP2 := hid p2
      have HP3 := hid p3
      have hj := goes_1024 HG.out
      have HO := hid hown
      have HB := hid hb
      have HR := hid hr
      have m0 : (0 : Int) < (m : Int) := by omega
      clear p1 p2 p3 rL pL hown hb hr
      by_cases h10 : j = 1024
      · have HN : Hid (PEnd bs j) := ⟨HG.out, fun h => h.2.1 h10⟩
        have hE : nE j (rsN bs j) = 9 := by unfold nE; rw [if_pos (by omega)]
        rw [hE] at HP1
        subst h10
        clear hE HE
        go_wp2
        go_ret3
        exact ⟨1024, none, 0, 0, HN.out, by rw [HP1.out, HP2.out]; rfl, by rw [HP3.out]; exact RdV.nil _ _ _, Nat.le_refl _, HB.out⟩
      have hE : nE j (rsN bs j) = decE (rsN bs j) := by unfold nE; rw [if_neg (by omega)]
      rw [hE] at HE HP1
      have hji : ¬ (j : Int) = 1024 := by omega
      have hjd : decide (j = 1024) = false := decide_eq_false h10
      have HC := hid (rdecode_cB A1 m c1 (rsN bs j) wr HR.out (Nat.le_trans hB HB.out.size) hm1 (by omega))
      clear hE
      go_wp2_with fail
      refine HC.out.mono ?_
      rintro e w1 ⟨A2, m2, c2, rfl, r2, hm2, b1⟩
      have HO1 := hid (HO.out.up b1)
      have HB1 := hid (HB.out.trans (b1.mono HB.out.size))
      have hw1 : w.heap.size ≤ w1.heap.size := HB1.out.size
      have b2 : Below w1.heap.size w1 (w1.alloc (.cells #[.int .i64 (dK (rsN bs j) : Nat), .int .i64 (dT (rsN bs j) : Nat), .int .i64 (dC (rsN bs j) : Nat), .string (sb (dL (rsN bs j)))] 25)) := (Below.refl _ _).alloc (Nat.le_refl _) _
      have HB2 := hid (HB1.out.trans (b2.mono HB1.out.size))
      have hl2 := r2.len
      clear HO HB HR b1 HC
      by_cases hg : decE (rsN bs j) = 0
      · have hgo : goes bs j := HE.out.2 hg
        obtain ⟨q1, q2, q3⟩ := goes_next hlt8 hgo
        have HG1 : Hid (∀ i, i < j + 1 → goes bs i) := fun i hi => by
          rcases Nat.lt_or_ge i j with h | h
          · exact HG.out i h
          · obtain rfl : i = j := by omega
            exact hgo
        have hlen := dR_len (rsN_lt hlt8 j) hg
        have HX := hid q2
        obtain ⟨y, hy⟩ : ∃ y, y = ivOf (rsN bs j) := ⟨_, rfl⟩
        rw [← hy] at HX
        have y1 : ((dK (rsN bs j) : Nat) : Int) = y.k := by rw [hy]; rfl
        have y2 : ((dT (rsN bs j) : Nat) : Int) = y.t := by rw [hy]; rfl
        have y3 : ((dC (rsN bs j) : Nat) : Int) = y.c := by rw [hy]; rfl
        have y4 : sb (dL (rsN bs j)) = y.s := by rw [hy]; rfl
        have r2' : Rd8 w1 B A2 m2 (rsN bs (j + 1)) := r2
        have HO2 := hid (HO1.out.up b2)
        have HR2 := hid (r2'.below b2 (Nat.le_trans hB hw1))
        rw [hg, y1, y2, y3, y4]
        rw [y1, y2, y3, y4] at HO2 HB2 HR2
        have hsz2 : w.heap.size ≤ (w1.alloc (.cells #[.int .i64 y.k, .int .i64 y.t, .int .i64 y.c, .string y.s] 25)).heap.size := HB2.out.size
        have hkl : (xsN bs j).length + 1 ≤ 100000 := by rw [xsN_len]; omega
        clear hg q1 q2 q3 hgo HG HE HP1 HP2 HP3 b2 r2 r2' hy y1 y2 y3 y4
        have HN2 := rdV_new (w1.alloc (.cells #[.int .i64 y.k, .int .i64 y.t, .int .i64 y.c, .string y.s] 25)) 25 y
        have hs1 : (w1.alloc (.cells #[.int .i64 y.k, .int .i64 y.t, .int .i64 y.c, .string y.s] 25)).heap.size = w1.heap.size + 1 := by simp
        have b25 : Below (w1.alloc (.cells #[.int .i64 y.k, .int .i64 y.t, .int .i64 y.c, .string y.s] 25)).heap.size (w1.alloc (.cells #[.int .i64 y.k, .int .i64 y.t, .int .i64 y.c, .string y.s] 25)) ((w1.alloc (.cells #[.int .i64 y.k, .int .i64 y.t, .int .i64 y.c, .string y.s] 25)).alloc (.cells #[.int .i64 y.k, .int .i64 y.t, .int .i64 y.c, .string y.s] 25)) := (Below.refl _ _).alloc (Nat.le_refl _) _
        have HB25 := hid (HB2.out.trans (b25.mono hsz2))
        have HR25 := hid (HR2.out.below b25 (Nat.le_trans hB hsz2))
        have HO25 := hid (HO2.out.up b25)
        have hsz25 := HB25.out.size
        rw [hs1] at HN2
        have HN := hid HN2
        clear HN2 b25 hs1
        go_wp2_with (at_builtin; refine append_items itR rfl (.tmp 29) (.tmp 31) rfl w.heap.size _ (xsN bs j) rfl HO25.out (some ⟨w1.heap.size + 1, 0, none⟩) 1 1 _ [y] HN.out rfl hkl hsz25 ?_)
        intro v' w3 O3 b3
        have HO3 := hid O3
        have HB3 := hid (HB25.out.trans b3)
        have HR3 := hid (HR25.out.below b3 hB)
        clear O3 b3 HB2 HO2 HR2 HB1 HO1 HB25 HO25 HR25 HN
        go_wp2
        go_roundw
        case rel => exact ⟨j + 1, A2, m2, c2, rfl, hm2, by omega, HR3.out, by rw [HX.out]; exact HO3.out, HG1, HB3.out⟩
        case measure => show m2 < m; omega
      · have HN : Hid (PEnd bs j) := ⟨HG.out, fun h => hg (HE.out.1 h)⟩
        have hgi : (((decE (rsN bs j) : Nat) : Int) != 0) = true := by simp; omega
        clear b2 HE hg HG r2
        generalize decE (rsN bs j) = r at *
        go_wp2
        go_ret3
        exact ⟨j, none, 0, 0, HN.out, by rw [HP1.out, HP2.out]; rfl, by rw [HP3.out]; exact RdV.nil _ _ _, Nat.le_refl _, HB2.out⟩
    · obtain rfl : m = 0 := by omega
      have hne : rsN bs j = [] := List.eq_nil_of_length_eq_zero hrl
      obtain ⟨p1, p2, p3⟩ := pE_eq hne
      have HP1 := hid p1
      have HP2 := hid p2
      have HP3 := hid p3
      have HN : Hid (PEnd bs j) := ⟨HG.out, fun h => h.1 hne⟩
      have HB := hid hb
      have rL' : RdV wr wr.heap.size AL j (xsN bs j) := by have := rL; rw [xsN_len] at this; exact this
      have HR := hid rL'
      clear p1 p2 p3 pL rL rL' hown hb hr HG hne
      go_wp2
      go_ret3
      exact ⟨j, AL, j, cL, HN.out, by rw [HP1.out, HP2.out]; rfl, by rw [HP3.out]; exact HR.out, hcL, HB.out⟩
end Go.Proofs.Ytokfldecjknamaa
