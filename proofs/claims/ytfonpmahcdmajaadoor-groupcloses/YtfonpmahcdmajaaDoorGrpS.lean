/-
  avouchref05.Square: by the law of reciprocity.
-/
import Derived.Test.YtfonpmahcdmajaaDoorGrpR
import Derived.Test.YtfonpmahcdmajaaDoorJac
namespace Go.Proofs.YtfonpmahcdmajaaDoor
open Go.RowKit
set_option linter.unusedVariables false

theorem Dg.open_ {w : World} {v : Value} {X : Nat} (h : Dg w v X) (h0 : 0 < X) : ∃ b off n c d : Nat, v = .slice (some ⟨b, off, none⟩) n c ∧ 0 < n ∧ b < w.heap.size ∧ w.cell? ⟨b, off, none⟩ = some (.int .u64 (d : Int)) ∧ d = X % 4294967296 := by
  obtain ⟨A, c, l, rfl, h1, h2, h3, h4, h5, h6⟩ := h
  have hp : 0 < l.length := by
    rcases Nat.eq_zero_or_pos l.length with e | e
    · have : l = [] := List.eq_nil_of_length_eq_zero e
      subst this
      rw [val_nil] at h6
      omega
    · exact e
  obtain ⟨b, off, rfl, hb, hc⟩ := h3.cells hp
  refine ⟨b, off, l.length, c, l.getD 0 0, rfl, hp, hb, hc 0 hp, ?_⟩
  have e := pv_mod 4294967296 (by decide) l h4 1
  rw [pv_succ, pv_zero, Nat.pow_zero, Nat.mul_one, Nat.zero_add, Nat.pow_one] at e
  rw [e, h6]
theorem Dg.zero_ {w : World} {v : Value} (h : Dg w v 0) : ∃ A c, v = .slice A 0 c := by
  obtain ⟨A, c, l, rfl, h1, h2, h3, h4, h5, h6⟩ := h
  rcases h5 with e | e
  · subst e
    exact ⟨A, c, rfl⟩
  · exfalso
    rcases Nat.eq_zero_or_pos l.length with e0 | e0
    · have : l = [] := List.eq_nil_of_length_eq_zero e0
      subst this
      exact e rfl
    · have h := pv_succ 4294967296 l (l.length - 1)
      rw [Nat.sub_add_cancel e0] at h
      have hv : val 4294967296 l = pv 4294967296 l l.length := rfl
      rw [hv, h] at h6
      have hp : 0 < 4294967296 ^ (l.length - 1) := Nat.pow_pos (by decide)
      have := Nat.mul_pos (Nat.pos_of_ne_zero e) hp
      omega
/-- Where the reckoning stands: the sign so far, and what is still to be told. -/
structure SqRel (w : World) (T : Nat) (va vn : Value) (s : Bool) (A N : Nat) (wr : World) : Prop where
  a : Dg wr va A
  n : Dg wr vn N
  o : N % 2 = 1
  c : Nat.gcd N A = 1
  p : ((if s then 0 else 1) + jG A N) % 2 = T
  b : Below w.heap.size w wr
theorem gcd_half {N A : Nat} (h : A % 2 = 0) (c : Nat.gcd N A = 1) : Nat.gcd N (A / 2) = 1 := by
  have d : Nat.gcd N (A / 2) ∣ Nat.gcd N A := Nat.dvd_gcd (Nat.gcd_dvd_left _ _) (Nat.dvd_trans (Nat.gcd_dvd_right N (A / 2)) ⟨2, by omega⟩)
  rw [c] at d
  exact Nat.eq_one_of_dvd_one d
theorem flip_par (s : Bool) (x : Nat) : ((if (!s) then 0 else 1) + x) % 2 = ((if s then 0 else 1) + 1 + x) % 2 := by
  cases s <;> simp <;> omega
theorem SqRel.half_ {w : World} {T : Nat} {va vn : Value} {s : Bool} {A N : Nat} {wr wr' : World} {r : Value} (h : SqRel w T va vn s A N wr) (he : A % 2 = 0) (hb : Below wr.heap.size wr wr') (hd : Dg wr' r (A / 2)) :
    SqRel w T r vn (if N % 8 = 3 ∨ N % 8 = 5 then !s else s) (A / 2) N wr' := by
  have hg := gcd_half he h.c
  have e := jG_half (b := A / 2) h.o hg
  rw [show 2 * (A / 2) = A by omega] at e
  refine ⟨hd, h.n.up hb, h.o, hg, ?_, bchain h.b hb⟩
  have hp := h.p
  by_cases c : N % 8 = 3 ∨ N % 8 = 5
  · rw [if_pos c] at e ⊢
    rw [flip_par]
    omega
  · rw [if_neg c] at e ⊢
    omega
theorem SqRel.swap_ {w : World} {T : Nat} {va vn : Value} {s : Bool} {A N : Nat} {wr : World} (h : SqRel w T va vn s A N wr) (ho : A % 2 = 1) :
    SqRel w T vn va (if A % 4 = 3 ∧ N % 4 = 3 then !s else s) N A wr := by
  have hc : Nat.gcd A N = 1 := by rw [Nat.gcd_comm]; exact h.c
  have e := jG_swap h.o ho h.c
  refine ⟨h.n, h.a, ho, hc, ?_, h.b⟩
  have hp := h.p
  by_cases c : A % 4 = 3 ∧ N % 4 = 3
  · rw [if_pos c] at e ⊢
    rw [flip_par]
    omega
  · rw [if_neg c] at e ⊢
    omega
theorem SqRel.sub_ {w : World} {T : Nat} {va vn : Value} {s : Bool} {A N : Nat} {wr wr' : World} {r : Value} (h : SqRel w T va vn s A N wr) (hle : N ≤ A) (hb : Below wr.heap.size wr wr') (hd : Dg wr' r (A - N)) :
    SqRel w T r vn s (A - N) N wr' := by
  refine ⟨hd, h.n.up hb, h.o, ?_, ?_, bchain h.b hb⟩
  · rw [Nat.gcd_sub_self_right hle]; exact h.c
  · rw [jG_sub hle]; exact h.p
theorem SqRel.end_ {w : World} {T : Nat} {va vn : Value} {s : Bool} {N : Nat} {wr : World} (h : SqRel w T va vn s 0 N wr) : s = decide (T = 0) := by
  have h1 : N = 1 := by have := h.c; rwa [Nat.gcd_zero_right] at this
  have hp := h.p
  rw [h1, jG_one] at hp
  cases s <;> simp at hp <;> simp <;> omega
theorem tm_of {d X : Nat} (h : d = X % 4294967296) (m : Nat) (hm : m ∣ 4294967296) : ((d : Nat) : Int).tmod (m : Int) = ((X % m : Nat) : Int) := by
  rw [Int.tmod_eq_emod_of_nonneg (by omega), ← Int.natCast_emod, h, Nat.mod_mod_of_dvd _ hm]

set_option maxRecDepth 20000 in
set_option maxHeartbeats 4000000 in
theorem square_c (u : Value) (X : Nat) (w : World) (hu : Dg w u X) (hc : Nat.gcd bigP X = 1) (T : Nat) (hT : Hid (jG X bigP % 2 = T)) :
    Calls Tryd.prog 62 #[u] w fun e w' => e = .returned (.bool (decide (T = 0))) ∧ Below w.heap.size w w' := by
  have HU := hid hu
  have HC := hid hc
  obtain ⟨q, hq⟩ : ∃ q, q = decide (T = 0) := ⟨_, rfl⟩
  rw [← hq]
  have HQ := hid hq
  clear hu hc hq
  go_enter Tryd.func62, Tryd.ntmps62
  go_wp2_with fail
  refine (refP_c w).mono ?_
  rintro e w1 ⟨nv, rfl, hn, b1⟩
  have S0 : Hid (SqRel w T u nv true X bigP w1) := ⟨HU.out.up b1, hn, by decide, HC.out, by rw [← hT.out]; simp, b1⟩
  clear HU HC hn b1 hT
  go_wp2_with fail
  go_loopw [0, 3, 4] (fun a n s wr => ∃ A N b, s = .bool b ∧ SqRel w T a n b A N wr) (fun a n s wr => mval wr a + mval wr n)
  case atStart => exact ⟨_, _, _, rfl, S0.out⟩
  case round =>
    clear S0
    obtain ⟨A, N, b, rfl, hS⟩ := hrel
    have HMA := hid hS.a.mval
    have HMN := hid hS.n.mval
    have HNo := hid hS.o
    by_cases hA : A = 0
    · subst hA
      obtain ⟨Aa, ca, rfl⟩ := hS.a.zero_
      obtain rfl : b = q := by rw [hS.end_, HQ.out]
      have HB := hid hS.b
      clear hS HMA HMN HNo HQ
      go_wp2
      go_ret
      exact ⟨rfl, HB.out⟩
    · have HS := hid hS
      obtain ⟨ba, offa, na, ca, da, rfl, hn0, hb0, hca, hda⟩ := hS.a.open_ (by omega)
      have i0 : (0 : Int) < (na : Int) := by omega
      have HA := hid hA
      have HN0 := hid hn0
      clear hS hb0 hca hda hn0 hA
      go_wp2_with fail
      rw [decide_eq_true HN0.out]
      clear i0 HN0
      obtain ⟨w0, rfl⟩ : ∃ x, x = wr := ⟨wr, rfl⟩
      go_loopw [0, 4] (fun a s wi => ∃ A' b', s = .bool b' ∧ 0 < A' ∧ A' ≤ A ∧ SqRel w T a u3 b' A' N wi) (fun a s wi => mval wi a)
      case atStart => exact ⟨A, b, rfl, by have := HA.out; omega, Nat.le_refl _, HS.out⟩
      case round =>
        clear HS
        obtain ⟨A', b', rfl, h0, hle, hI⟩ := hrel
        have HI := hid hI
        have HLE := hid hle
        have H0 := hid h0
        have HMI := hid hI.a.mval
        obtain ⟨bb, offb, nb, cb, db, rfl, hb0, hb1, hcb, hdb⟩ := hI.a.open_ h0
        obtain ⟨bn, offn, nn, cn, dn, rfl, hn0, hn1, hcn, hdn⟩ := hI.n.open_ (by have := hI.o; omega)
        have i1 : (0 : Int) < (nb : Int) := by omega
        have i2 : (0 : Int) < (nn : Int) := by omega
        have x1 : (0 : Int) ≤ (db : Int) := by omega
        have x2 : (0 : Int) ≤ (dn : Int) := by omega
        by_cases he : A' % 2 = 0
        · have t2 : ((db : Nat) : Int).tmod 2 = 0 := by have := tm_of hdb 2 (by decide); rw [he] at this; exact this
          have HEv := hid he
          have HCN := hid hcn
          have HN1 := hid hn1
          have HDN := hid hdn
          clear hI hle h0 hdb he hb0 hb1 hn0 hn1 hdn hcn
          go_wp2_with fail
          refine (rHalf_c _ A' wr HI.out.a).mono ?_
          rintro e w3 ⟨r, rfl, hr, b3⟩
          have hcn : w3.cell? ⟨bn, offn, none⟩ = some (.int .u64 (dn : Int)) := (b3.cell (p := ⟨bn, offn, none⟩) HN1.out).trans HCN.out
          have HR := hid (HI.out.half_ HEv.out b3 hr)
          have HRM := hid hr.mval
          clear hr b3 t2 hcb i1 x1
          rcases (show N % 8 = 3 ∨ N % 8 = 5 ∨ ¬ (N % 8 = 3 ∨ N % 8 = 5) by omega) with c | c | c
          · have t8 : ((dn : Nat) : Int).tmod 8 = 3 := by have := tm_of HDN.out 8 (by decide); rw [c] at this; exact this
            have HR2 : Hid (SqRel w T r (.slice (some ⟨bn, offn, none⟩) nn cn) (!b') (A' / 2) N w3) := by have := HR.out; rwa [if_pos (Or.inl c)] at this
            clear HR c HCN HDN
            go_wp2
            go_roundw
            case rel => exact ⟨A' / 2, !b', rfl, by have := HEv.out; have := H0.out; omega, by have := HLE.out; omega, HR2.out⟩
            case measure => rw [HRM.out, HMI.out]; have := H0.out; omega
          · have t8 : ((dn : Nat) : Int).tmod 8 = 5 := by have := tm_of HDN.out 8 (by decide); rw [c] at this; exact this
            have HR2 : Hid (SqRel w T r (.slice (some ⟨bn, offn, none⟩) nn cn) (!b') (A' / 2) N w3) := by have := HR.out; rwa [if_pos (Or.inr c)] at this
            clear HR c HCN HDN
            go_wp2
            go_roundw
            case rel => exact ⟨A' / 2, !b', rfl, by have := HEv.out; have := H0.out; omega, by have := HLE.out; omega, HR2.out⟩
            case measure => rw [HRM.out, HMI.out]; have := H0.out; omega
          · obtain ⟨r8, hr8⟩ : ∃ r8 : Nat, r8 = N % 8 := ⟨_, rfl⟩
            have t8 : ((dn : Nat) : Int).tmod 8 = (r8 : Int) := by have := tm_of HDN.out 8 (by decide); rw [← hr8] at this; exact this
            have t3 : ((r8 : Int) == 3) = false := by simp; omega
            have t5 : ((r8 : Int) == 5) = false := by simp; omega
            have HR2 : Hid (SqRel w T r (.slice (some ⟨bn, offn, none⟩) nn cn) b' (A' / 2) N w3) := by have := HR.out; rwa [if_neg c] at this
            clear HR c HCN HDN hr8
            go_wp2
            go_roundw
            case rel => exact ⟨A' / 2, b', rfl, by have := HEv.out; have := H0.out; omega, by have := HLE.out; omega, HR2.out⟩
            case measure => rw [HRM.out, HMI.out]; have := H0.out; omega
        · have t2 : ((db : Nat) : Int).tmod 2 = 1 := by have := tm_of hdb 2 (by decide); rw [show A' % 2 = 1 by omega] at this; exact this
          have HO : Hid (A' % 2 = 1) := hid (by omega)
          have HDB := hid hdb
          have HDN := hid hdn
          have HNP : Hid (0 < N) := hid (by have := hI.o; omega)
          clear hI hle h0 hdb he hb0 hb1 hn0 hn1 hdn
          go_wp2_with fail
          refine (gCmp_c _ _ A' N wr HI.out.a HI.out.n).mono ?_
          rintro e w' ⟨rfl, rfl⟩
          by_cases hlt : A' < N
          · rw [cmpN_lt hlt]
            have HLT := hid hlt
            clear hlt t2
            by_cases ca4 : A' % 4 = 3
            · have t4 : ((db : Nat) : Int).tmod 4 = 3 := by have := tm_of HDB.out 4 (by decide); rw [ca4] at this; exact this
              by_cases cn4 : N % 4 = 3
              · have t5 : ((dn : Nat) : Int).tmod 4 = 3 := by have := tm_of HDN.out 4 (by decide); rw [cn4] at this; exact this
                have HW : Hid (SqRel w T (.slice (some ⟨bn, offn, none⟩) nn cn) (.slice (some ⟨bb, offb, none⟩) nb cb) (!b') N A' wr) := by have := HI.out.swap_ HO.out; rwa [if_pos ⟨ca4, cn4⟩] at this
                clear ca4 cn4 HDB HDN
                go_wp2_with fail
                refine (gSub_c _ _ N A' wr HW.out.a HW.out.n (Nat.le_of_lt HLT.out)).mono ?_
                rintro e w4 ⟨r, rfl, hr, b4⟩
                have HF := hid (HW.out.sub_ (Nat.le_of_lt HLT.out) b4 hr)
                clear hr b4 hcb hcn t4 t5
                go_wp2
                go_roundw
                case rel => exact ⟨_, _, _, rfl, HF.out⟩
                case measure => rw [HF.out.a.mval, HF.out.n.mval, HMA.out, HMN.out]; have := HLT.out; have := HA.out; omega
              · obtain ⟨r4, hr4⟩ : ∃ r4 : Nat, r4 = N % 4 := ⟨_, rfl⟩
                have t5 : ((dn : Nat) : Int).tmod 4 = (r4 : Int) := by have := tm_of HDN.out 4 (by decide); rw [← hr4] at this; exact this
                have t6 : ((r4 : Int) == 3) = false := by simp; omega
                have HW : Hid (SqRel w T (.slice (some ⟨bn, offn, none⟩) nn cn) (.slice (some ⟨bb, offb, none⟩) nb cb) b' N A' wr) := by have := HI.out.swap_ HO.out; rwa [if_neg (fun h => cn4 h.2)] at this
                clear ca4 cn4 HDB HDN hr4
                go_wp2_with fail
                refine (gSub_c _ _ N A' wr HW.out.a HW.out.n (Nat.le_of_lt HLT.out)).mono ?_
                rintro e w4 ⟨r, rfl, hr, b4⟩
                have HF := hid (HW.out.sub_ (Nat.le_of_lt HLT.out) b4 hr)
                clear hr b4 hcb hcn t4 t5 t6
                go_wp2
                go_roundw
                case rel => exact ⟨_, _, _, rfl, HF.out⟩
                case measure => rw [HF.out.a.mval, HF.out.n.mval, HMA.out, HMN.out]; have := HLT.out; have := HA.out; omega
            · obtain ⟨r4, hr4⟩ : ∃ r4 : Nat, r4 = A' % 4 := ⟨_, rfl⟩
              have t4 : ((db : Nat) : Int).tmod 4 = (r4 : Int) := by have := tm_of HDB.out 4 (by decide); rw [← hr4] at this; exact this
              have t6 : ((r4 : Int) == 3) = false := by simp; omega
              have HW : Hid (SqRel w T (.slice (some ⟨bn, offn, none⟩) nn cn) (.slice (some ⟨bb, offb, none⟩) nb cb) b' N A' wr) := by have := HI.out.swap_ HO.out; rwa [if_neg (fun h => ca4 h.1)] at this
              clear ca4 HDB HDN hr4
              go_wp2_with fail
              refine (gSub_c _ _ N A' wr HW.out.a HW.out.n (Nat.le_of_lt HLT.out)).mono ?_
              rintro e w4 ⟨r, rfl, hr, b4⟩
              have HF := hid (HW.out.sub_ (Nat.le_of_lt HLT.out) b4 hr)
              clear hr b4 hcb hcn t4 t6
              go_wp2
              go_roundw
              case rel => exact ⟨_, _, _, rfl, HF.out⟩
              case measure => rw [HF.out.a.mval, HF.out.n.mval, HMA.out, HMN.out]; have := HLT.out; have := HA.out; omega
          · obtain ⟨cz, hcz⟩ : ∃ cz, cz = cmpN A' N := ⟨_, rfl⟩
            have hd : decide (cz < 0) = false := by
              rw [hcz]; unfold cmpN; rw [if_neg hlt]; split <;> decide
            rw [← hcz]
            have HLT : Hid (N ≤ A') := hid (by omega)
            clear hlt t2 hcz
            go_wp2_with fail
            refine (gSub_c _ _ A' N wr HI.out.a HI.out.n HLT.out).mono ?_
            rintro e w4 ⟨r, rfl, hr, b4⟩
            have HF := hid (HI.out.sub_ HLT.out b4 hr)
            clear hr b4 hcb hcn hd
            go_wp2
            go_roundw
            case rel => exact ⟨_, _, _, rfl, HF.out⟩
            case measure => rw [HF.out.a.mval, HF.out.n.mval, HMA.out, HMN.out]; have := HLT.out; have := HLE.out; have := HNP.out; omega
end Go.Proofs.YtfonpmahcdmajaaDoor
