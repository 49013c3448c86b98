/-
  avouchlaw02.FieldReads returns true, whatever it is given, and turns nothing that was there.
-/
import Derived.Test.YtjkellpfoogomaaDoorFldK
import Derived.Test.YtjkellpfoogomaaDoorRef2B
import Derived.Deep.RegionWith
import Derived.Deep.CutBlock
import Derived.Deep.DeepCutAuto
namespace Go.Proofs.YtjkellpfoogomaaDoor
open Go.RowKit
set_option linter.unusedVariables false

/-- What FieldReads keeps: the tables, the bytes that came in, the element, the digits, the prime's bytes. -/
structure EnvR (w0 : World) (A0 : Option Addr) (n0 : Nat) (l0 : List Nat) (w : World) : Prop where
  g : Glob w
  r : Rd8 w w.heap.size A0 n0 l0
  b : Below w0.heap.size w0 w
theorem EnvR.up {w0 : World} {A0 : Option Addr} {n0 : Nat} {l0 : List Nat} {w w' : World} (h : EnvR w0 A0 n0 l0 w) (hb : Below w.heap.size w w') : EnvR w0 A0 n0 l0 w' :=
  ⟨h.g.up hb, h.r.up hb (Nat.le_refl _), h.b.trans (hb.mono h.b.size)⟩
structure EnvP (be bp : Nat) (a0 a1 a2 a3 : Int) (lp : List Nat) (vd : Value) (x : Nat) (w : World) : Prop where
  e : B4 w be a0 a1 a2 a3
  p : Rd8 w w.heap.size (some ⟨bp, 0, none⟩) 32 lp
  d : Dg w vd x
theorem EnvP.up {be bp : Nat} {a0 a1 a2 a3 : Int} {lp : List Nat} {vd : Value} {x : Nat} {w w' : World} (h : EnvP be bp a0 a1 a2 a3 lp vd x w) (hb : Below w.heap.size w w') : EnvP be bp a0 a1 a2 a3 lp vd x w' :=
  ⟨h.e.below hb h.e.size, h.p.up hb (Nat.le_refl _), h.d.up hb⟩

/-- What FromBytes and Read answer of the same bytes. -/
theorem both_read (A0 : Option Addr) (n0 c0 : Nat) (l0 : List Nat) (hl : l0.length = n0) : ∃ (k : Int) (x : Nat), x < pN ∧ (k = 0 → n0 = 32 ∧ x = val 256 l0) ∧
    (∀ w, Rd8 w w.heap.size A0 n0 l0 → Glob w → Calls Tryd.prog 9 #[.slice A0 n0 c0] w fun e w' => ∃ r, e = .returned (.tuple #[r, .int .i64 k]) ∧ El r x ∧ Below w.heap.size w w') ∧
    (∀ w, Rd8 w w.heap.size A0 n0 l0 → Calls Tryd.prog 10 #[.slice A0 n0 c0] w fun e w' => ∃ r, e = .returned (.tuple #[r, .int .i64 k]) ∧ Dg w' r x ∧ Below w.heap.size w w') := by
  by_cases h32 : n0 = 32
  · subst h32
    by_cases hp : val 256 l0 < pN
    · exact ⟨0, _, hp, fun _ => ⟨rfl, rfl⟩, fun w hr hG => fromBytes_ok A0 c0 l0 w hr hG (hid hp), fun w hr => dRead_ok A0 c0 l0 w hr (hid hp)⟩
    · refine ⟨4, 0, by decide, fun h => by omega, fun w hr hG => fromBytes_canon A0 c0 l0 w hr hG (hid (Nat.le_of_not_lt hp)), fun w hr => ?_⟩
      refine (dRead_canon A0 c0 l0 w hr (hid (Nat.le_of_not_lt hp))).mono ?_
      rintro e w' ⟨rfl, hb⟩
      exact ⟨_, rfl, Dg.nil w', hb⟩
  · refine ⟨1, 0, by decide, fun h => by omega, fun w hr hG => fromBytes_len A0 n0 c0 w h32, fun w hr => ?_⟩
    refine (dRead_len A0 n0 c0 w h32).mono ?_
    rintro e w' ⟨rfl, rfl⟩
    exact ⟨_, rfl, Dg.nil w, Below.refl _ _⟩

set_option maxRecDepth 100000 in
set_option maxHeartbeats 16000000 in
theorem fieldReads_w (A0 : Option Addr) (n0 c0 : Nat) (l0 : List Nat) (v : Nat) (w : World) (r0 : Rd8 w w.heap.size A0 n0 l0) (hv : v < 18446744073709551616) (hG : Glob w) :
    Calls Tryd.prog 3 #[.slice A0 n0 c0, .int .u64 (v : Int)] w fun e w' => e = .returned (.bool true) ∧ Below w.heap.size w w' := by
  by_cases g0 : 100 < n0
  · have d0 : decide ((100 : Int) < (n0 : Int)) = true := by simp; omega
    go_enter Tryd.func3, Tryd.ntmps3
    go_wp2_with fail
    refine (speaks2_c w hG).mono ?_
    rintro e w1 ⟨rfl, b1⟩
    go_wp2_with fail
    refine (speaks2_c w1 (hG.up b1)).mono ?_
    rintro e w2 ⟨rfl, b2⟩
    go_wp2
    go_ret
    exact ⟨rfl, bchain b1 b2⟩
  have d0 : decide ((100 : Int) < (n0 : Int)) = false := by simp; omega
  obtain ⟨k, x, hxp, hk, hFB, hRD⟩ := both_read A0 n0 c0 l0 r0.len
  have HXP := hid hxp
  have HK := hid hk
  have FB := hid hFB
  have RD := hid hRD
  have HBIG : Hid (val 256 l0 < 4294967296 ^ 30) := by
    have h1 := val_lt 256 (by decide) l0 r0.lt
    rw [r0.len] at h1
    refine hid (Nat.lt_of_lt_of_le h1 ?_)
    rw [show (4294967296 : Nat) = 256 ^ 4 by decide, ← Nat.pow_mul]
    exact Nat.pow_le_pow_right (by decide) (by omega)
  have E0 : EnvR w A0 n0 l0 w := ⟨hG, r0, Below.refl _ _⟩
  clear hxp hk hFB hRD
  go_enter Tryd.func3, Tryd.ntmps3
  go_wp2_with fail
  refine (speaks2_c w hG).mono ?_
  rintro e w1 ⟨rfl, b1⟩
  have E1 := E0.up b1
  go_wp2_with fail
  refine (FB.out w1 E1.r E1.g).mono ?_
  rintro e w2 ⟨ve, rfl, he, b2⟩
  have E2 := E1.up b2
  have HEL := hid he
  obtain ⟨a0, a1, a2, a3, rfl, -, -, -⟩ := he
  have b3 : Below w2.heap.size w2 (w2.alloc (o4 27 a0 a1 a2 a3)) := (Below.refl _ _).alloc (Nat.le_refl _) _
  have E3 := E2.up b3
  have hB3 := hid (o4_new w2 27 a0 a1 a2 a3)
  clear E0 E1 E2 b1 b2 b3
  unfold o4 Go.Proofs.YtjkellpfoogomaaDoor.w4 at *
  go_wp2_with fail
  refine (RD.out _ E3.r).mono ?_
  rintro e w4' ⟨vd, rfl, hd, b4⟩
  have E4 := E3.up b4
  have hB4 := hid (hB3.out.below b4 hB3.out.size)
  clear hB3 E3 b4
  go_wp2_with fail
  refine (prime_c _ E4.g).mono ?_
  rintro e w5 ⟨vp, rfl, hp, b5⟩
  have E5 := E4.up b5
  obtain ⟨lp, rfl, hlp, hltp, hvp⟩ := hp
  obtain ⟨wx, hst, rx, bx⟩ := new32 w5 lp hlp hltp
  have E6 := E5.up bx
  have P6 : EnvP w2.heap.size w5.heap.size a0 a1 a2 a3 lp vd x wx := ⟨(hB4.out.below b5 hB4.out.size).below bx (by have := b5.size; have := hB4.out.size; omega), rx, (hd.up b5).up bx⟩
  have hlen : (cells8 lp).length = 32 := by simp [cells8, hlp]
  have HVP := hid hvp
  clear hvp hd b5 bx rx hB4 E4 E5
  go_wp2_with fail
  clear hst hlen
  have E7 := E6.up ((Below.refl _ wx).drew)
  have P7 := P6.up ((Below.refl _ wx).drew)
  have cv0 := conv8l P7.p (by decide) 32
  have ce0 := P7.e.c0
  have ce1 := P7.e.c1
  have ce2 := P7.e.c2
  have ce3 := P7.e.c3
  go_cut [46] (fun s wc => s = .bool false ∧ EnvR w A0 n0 l0 wc ∧ EnvP w2.heap.size w5.heap.size a0 a1 a2 a3 lp vd x wc)
  case first =>
    go_region_with (first
      | (go_at_call 12; refine (is_c _ _ x x _ HEL.out P7.d (Nat.lt_trans HXP.out (by decide)) E7.g).mono ?_; rintro e v1 ⟨rfl, q1⟩; rw [decide_eq_true rfl]; have F1 := E7.up q1; have G1 := P7.up q1; have cv1 := conv8l G1.p (by decide) 32)
      | (go_at_call 14; refine (p2_c _).mono ?_; rintro e v2 ⟨r2, rfl, h2, q2⟩; have F2 := F1.up q2; have G2 := G1.up q2; have cv2 := conv8l G2.p (by decide) 32)
      | (go_at_call 13; refine (ref2Bytes_c r2 _ _ h2).mono ?_; rintro e v3 ⟨A3, c3, l3, rfl, hc3, r3, hv3, q3⟩; have F3 := F2.up q3; have G3 := G2.up q3; have cv3 := conv8l G3.p (by decide) 32; have cv4 := conv8l r3 (by decide) c3
         have hse := str_val (hlp.trans r3.len.symm) hltp r3.lt
         rw [HVP.out, hv3, Nat.mod_eq_of_lt (by decide), decide_eq_true rfl] at hse
         clear hv3))
    all_goals
      go_wp2_with fail
      go_meet
      exact ⟨by simp_all, F3, G3⟩
  case rest =>
    obtain ⟨rfl, HE, HP⟩ := hcut
    clear E6 P6 E7 P7 cv0 ce0 ce1 ce2 ce3
    by_cases hk0 : k = 0
    · obtain ⟨h32, hxv⟩ := HK.out hk0
      subst hk0
      have H32 := hid h32
      clear h32
      have HXV := hid hxv
      have ce0 := HP.e.c0
      have ce1 := HP.e.c1
      have ce2 := HP.e.c2
      have ce3 := HP.e.c3
      clear hxv HK RD FB
      go_wp2_with fail
      refine (ebytes_c _ x wc HEL.out HE.g).mono ?_
      rintro e w8 ⟨vb, rfl, hb8, b8⟩
      have HE8 := HE.up b8
      obtain ⟨lb, rfl, hlb, hltb, hvb⟩ := hb8
      obtain ⟨wy, hst, ry, by8⟩ := new32 w8 lb hlb hltb
      have HE9 := HE8.up by8
      have hlen : (cells8 lb).length = 32 := by simp [cells8, hlb]
      have HVB := hid hvb
      clear hvb b8 by8 HE HE8 HP ce0 ce1 ce2 ce3
      go_wp2_with fail
      clear hst hlen
      have HE := HE9.up ((Below.refl _ wy).drew)
      have ryd : Rd8 wy.drew wy.drew.heap.size (some ⟨w8.heap.size, 0, none⟩) 32 lb := ⟨ry.len, ry.lt, ry.cells⟩
      have cv1 := conv8l ryd (by decide) 32
      have cv2 := conv8l HE.r (by rw [H32.out]; decide) c0
      have hse := str_val (hlb.trans (HE.r.len.trans H32.out).symm) hltb HE.r.lt
      rw [HVB.out, HXV.out, decide_eq_true rfl] at hse
      clear HE9 ryd ry
      go_cut [55] (fun s wz => s = .bool false ∧ EnvR w A0 n0 l0 wz)
      case first =>
        go_region_with (fail)
        all_goals
          go_wp2_with fail
          go_meet
          exact ⟨by simp_all, HE⟩
      case rest =>
        clear HE cv1 cv2 hse
        obtain ⟨rfl, HE⟩ := hcut
        go_wp2_with fail
        refine (fromWide_c A0 n0 c0 l0 _ HE.r (by omega) HE.g).mono ?_
        rintro e u1 ⟨vw, rfl, hw1, d1⟩
        have HE1 := HE.up d1
        go_wp2_with fail
        refine (dOfBytes_c A0 n0 c0 l0 _ HE1.r (by omega)).mono ?_
        rintro e u2 ⟨vd, rfl, hd2, d2⟩
        have HE2 := HE1.up d2
        go_wp2_with fail
        refine (dMod_c vd _ _ hd2 HBIG.out).mono ?_
        rintro e u3 ⟨vm, rfl, hm3, d3⟩
        have HE3 := HE2.up d3
        go_wp2_with fail
        refine (is_c vw vm _ _ _ hw1 hm3 (Nat.lt_trans hw1.lt (by decide)) HE3.g).mono ?_
        rintro e u4 ⟨rfl, d4⟩
        have HE4 := HE3.up d4
        rw [decide_eq_true rfl]
        go_wp2_with fail
        refine (fromUint64_c v _ hv HE4.g).mono ?_
        rintro e u5 ⟨vu, rfl, hu5, d5⟩
        have HE5 := HE4.up d5
        go_wp2_with fail
        refine (dOf_c v _ hv).mono ?_
        rintro e u6 ⟨vo, rfl, ho6, d6⟩
        have HE6 := HE5.up d6
        go_wp2_with fail
        refine (is_c vu vo _ _ _ hu5 ho6 (Nat.lt_trans hv (by decide)) HE6.g).mono ?_
        rintro e u7 ⟨rfl, d7⟩
        have HE7 := HE6.up d7
        rw [decide_eq_true rfl]
        clear HE HE1 HE2 HE3 HE4 HE5 HE6 hd2 hm3 ho6 d1 d2 d3 d4 d5 d6 d7
        go_wp2_with fail
        go_ret
        exact ⟨rfl, HE7.b⟩
    · have hk0' : (k == 0) = false := by simpa using hk0
      go_wp2_with fail
      refine (fromWide_c A0 n0 c0 l0 _ HE.r (by omega) HE.g).mono ?_
      rintro e u1 ⟨vw, rfl, hw1, d1⟩
      have HE1 := HE.up d1
      go_wp2_with fail
      refine (dOfBytes_c A0 n0 c0 l0 _ HE1.r (by omega)).mono ?_
      rintro e u2 ⟨vd, rfl, hd2, d2⟩
      have HE2 := HE1.up d2
      go_wp2_with fail
      refine (dMod_c vd _ _ hd2 HBIG.out).mono ?_
      rintro e u3 ⟨vm, rfl, hm3, d3⟩
      have HE3 := HE2.up d3
      go_wp2_with fail
      refine (is_c vw vm _ _ _ hw1 hm3 (Nat.lt_trans hw1.lt (by decide)) HE3.g).mono ?_
      rintro e u4 ⟨rfl, d4⟩
      have HE4 := HE3.up d4
      rw [decide_eq_true rfl]
      go_wp2_with fail
      refine (fromUint64_c v _ hv HE4.g).mono ?_
      rintro e u5 ⟨vu, rfl, hu5, d5⟩
      have HE5 := HE4.up d5
      go_wp2_with fail
      refine (dOf_c v _ hv).mono ?_
      rintro e u6 ⟨vo, rfl, ho6, d6⟩
      have HE6 := HE5.up d6
      go_wp2_with fail
      refine (is_c vu vo _ _ _ hu5 ho6 (Nat.lt_trans hv (by decide)) HE6.g).mono ?_
      rintro e u7 ⟨rfl, d7⟩
      have HE7 := HE6.up d7
      rw [decide_eq_true rfl]
      clear HE HE1 HE2 HE3 HE4 HE5 HE6 hd2 hm3 ho6 d1 d2 d3 d4 d5 d6 d7
      go_wp2_with fail
      go_ret
      exact ⟨rfl, HE7.b⟩
end Go.Proofs.YtjkellpfoogomaaDoor
