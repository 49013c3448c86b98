/-
  avouchlaw08.GrainBits: the walk.
-/
import Derived.Test.YtpjjobophplleaaGnS
import Derived.Test.YtpjjobophplleaaHrN
import Derived.Test.YtpjjobophplleaaFrameI
namespace Go.Proofs.Ytpjjobophplleaa
open Go.RowKit
set_option linter.unusedVariables false

theorem four_cells {w : World} {b : Nat} {t : TypeId} {a0 a1 a2 a3 : Int} (h : BlkV w b t [.int .i64 a0, .int .i64 a1, .int .i64 a2, .int .i64 a3]) :
    w.cell? ⟨b, 0, none⟩ = some (.int .i64 a0) ∧ w.cell? ⟨b, 1, none⟩ = some (.int .i64 a1) ∧ w.cell? ⟨b, 2, none⟩ = some (.int .i64 a2) ∧ w.cell? ⟨b, 3, none⟩ = some (.int .i64 a3) :=
  ⟨h.cell (i := 0) (by simp), h.cell (i := 1) (by simp), h.cell (i := 2) (by simp), h.cell (i := 3) (by simp)⟩
/-- A source, made above B, and a variable of the document's. -/
structure TwoM (B : Nat) (w : World) (p m x y : Nat) (wr : World) : Prop where
  gp : G8 wr p 45 x
  gm : RG wr m y
  hp : B ≤ p
  hm : B ≤ m
  hne : p ≠ m
  hB : B ≤ w.heap.size
  b : Below B w wr
theorem TwoM.left {B : Nat} {w wr w' : World} {p m x y x' : Nat} (h : TwoM B w p m x y wr) (o : Only p wr w') (g : G8 w' p 45 x') : TwoM B w p m x' y w' :=
  ⟨g, o.blk h.gm (Ne.symm h.hne), h.hp, h.hm, h.hne, h.hB, h.b.trans (o.below h.hp (Nat.le_trans h.hB h.b.size))⟩
theorem TwoM.up {B : Nat} {w wr w' : World} {p m x y : Nat} (h : TwoM B w p m x y wr) (hb : Below wr.heap.size wr w') : TwoM B w p m x y w' :=
  ⟨BlkV.up h.gp hb, BlkV.up h.gm hb, h.hp, h.hm, h.hne, h.hB, h.b.trans (hb.mono (Nat.le_trans h.hB h.b.size))⟩
theorem TwoM.put {B : Nat} {w wr : World} {p m x y : Nat} (h : TwoM B w p m x y wr) (z : Nat) : TwoM B w p m x z (wr.setCells m 0 (bcell 80 z.testBit)) :=
  ⟨BlkV.put h.hne _ _ _ h.gp, RG.put z h.gm, h.hp, h.hm, h.hne, h.hB, below_cells h.hm _ _ _ h.b⟩
theorem TwoM.store {B : Nat} {w wr : World} {p m x y : Nat} (h : TwoM B w p m x y wr) (z : Nat) : (storeCells ⟨m, 0, none⟩ (bcell 80 z.testBit)).run Try.prog wr = .ok () (wr.setCells m 0 (bcell 80 z.testBit)) := oR_store z h.gm
theorem gOk_nat {a b c d : Int} (h : gOk a b c d) : ∃ a' b' c' d' : Nat, a = a' ∧ b = b' ∧ c = c' ∧ d = d' := by
  unfold gOk at h
  exact ⟨a.toNat, b.toNat, c.toNat, d.toNat, by omega, by omega, by omega, by omega⟩
/-- A new source of the document's, stored into a new variable. -/
theorem TwoM.start {w w1 w2 : World} {p x : Nat} (hp : w.heap.size ≤ p) (g1 : G8 w1 p 45 x) (b1 : Below w.heap.size w w1) (b2 : Below w1.heap.size w1 w2) (y : Nat) :
    (storeCells ⟨w2.heap.size, 0, none⟩ (bcell 80 y.testBit)).run Try.prog (w2.alloc (oR 0)) = .ok () ((w2.alloc (oR 0)).setCells w2.heap.size 0 (bcell 80 y.testBit)) ∧ TwoM w.heap.size w p w2.heap.size x y ((w2.alloc (oR 0)).setCells w2.heap.size 0 (bcell 80 y.testBit)) := by
  obtain ⟨h1, h2, h3⟩ := newR w2 y
  have gp2 := BlkV.up g1 b2
  have b12 := b1.trans (b2.mono b1.size)
  exact ⟨h1, ⟨BlkV.up gp2 h3, h2, hp, b12.size, by have := BlkV.size gp2; omega, Nat.le_refl _, b12.trans (h3.mono b12.size)⟩⟩

set_option maxRecDepth 100000 in
set_option maxHeartbeats 4000000 in
theorem grainBits_w (a b c d : Int) (A : Option Addr) (n cp : Nat) (l : List Int) (w : World) (hr : RdI w w.heap.size A n l) :
    Calls Try.prog 3 #[four a b c d, .slice A n cp] w fun e w' => e = .returned (.bool true) ∧ Below w.heap.size w w' := by
  have b0 : Below w.heap.size w (w.alloc (.cells #[.int .i64 a, .int .i64 b, .int .i64 c, .int .i64 d] 22)) := (Below.refl _ _).alloc (Nat.le_refl _) _
  have k0 := BlkV.new w 22 [.int .i64 a, .int .i64 b, .int .i64 c, .int .i64 d]
  unfold four
  by_cases hn : n ≤ 40
  case neg =>
    have i1 : (40 : Int) < (n : Int) := by omega
    have B0 := hid b0
    clear hn b0 k0 hr
    go_enter Try.func3, Try.ntmps3
    go_wp2_with fail
    refine (speaks8_c _).mono ?_
    rintro e w1 ⟨rfl, b1⟩
    have B1 := hid (B0.out.trans (b1.mono B0.out.size))
    clear b1 B0
    go_wp2_with fail
    refine (speaks8_c _).mono ?_
    rintro e w2 ⟨rfl, b2⟩
    have B2 := hid (B1.out.trans (b2.mono B1.out.size))
    clear b2 B1
    go_wp2
    go_ret
    exact ⟨rfl, B2.out⟩
  have i1 : decide ((40 : Int) < (n : Int)) = false := decide_eq_false (by omega)
  have B0 := hid b0
  have K0 := hid k0
  have HRD := hid hr
  clear b0 k0 hr
  by_cases hok : gOk a b c d
  case neg =>
    go_enter Try.func3, Try.ntmps3
    go_wp2_with fail
    refine (speaks8_c _).mono ?_
    rintro e w1 ⟨rfl, b1⟩
    have B1 := hid (B0.out.trans (b1.mono B0.out.size))
    have K1 := BlkV.up K0.out b1
    obtain ⟨c0, c1, c2, c3⟩ := four_cells K1
    have K1' := hid K1
    clear b1 B0 K0 K1 i1
    go_wp2_with fail
    refine (new_err a b c d w1 hok).mono ?_
    rintro e v1 ⟨rfl, rfl⟩
    go_wp2_with fail
    refine (rnew_err a b c d v1 hok).mono ?_
    rintro e w2 ⟨rfl, b2⟩
    obtain ⟨hst, hn2, hb2⟩ := newR w2 0
    have hlz := rg_len 0
    have hz := zeroR
    have B2 := hid (B1.out.trans ((b2.trans (hb2.mono b2.size)).mono B1.out.size))
    clear b2 hn2 hb2 c0 c1 c2 c3
    unfold rg oR at *
    go_wp2_with fail
    go_ret
    exact ⟨rfl, B2.out⟩
  obtain ⟨a, b, c, d, rfl, rfl, rfl, rfl⟩ := gOk_nat hok
  have HGS := hid (gS_gs a b c d)
  have HN1 := hid (fun v => new_ok a b c d v hok)
  have HN2 := hid (fun v => rnew_ok a b c d v hok)
  generalize gS a b c d = S at *
  clear hok
  go_enter Try.func3, Try.ntmps3
  go_wp2_with fail
  refine (speaks8_c _).mono ?_
  rintro e w1 ⟨rfl, b1⟩
  have B1 := hid (B0.out.trans (b1.mono B0.out.size))
  have K1 := BlkV.up K0.out b1
  obtain ⟨c0, c1, c2, c3⟩ := four_cells K1
  have K1' := hid K1
  clear b1 B0 K0 K1
  go_wp2_with fail
  refine (HN1.out w1).mono ?_
  rintro e v1 ⟨p, rfl, hp, g1, bp⟩
  clear c0 c1 c2 c3
  obtain ⟨c0, c1, c2, c3⟩ := four_cells (BlkV.up K1'.out bp)
  go_wp2_with fail
  refine (HN2.out v1).mono ?_
  rintro e w2 ⟨rfl, b2⟩
  obtain ⟨hst, hM⟩ := TwoM.start hp g1 bp b2 S
  have R0 := hid hM
  have hlS := rg_len S
  have hlz := rg_len 0
  have hz := zeroR
  clear c0 c1 c2 c3 hp g1 bp b2 hM HN1 HN2 K1'
  unfold rg oR at *
  go_wp2_with fail
  clear hst hlS hlz hz
  generalize ((w2.alloc _).setCells _ _ _) = w3 at *
  generalize w2.heap.size = m at *
  go_loopw [59] (fun i wr => ∃ (k x : Nat), k ≤ n ∧ Hid (GS x) ∧ i = .int .i64 k ∧ TwoM w1.heap.size w1 p m x x wr) (fun i _ => n - (intOf i).toNat)
  case atStart => exact ⟨0, S, Nat.zero_le _, HGS, rfl, R0.out⟩
  case round =>
    clear R0 HGS
    obtain ⟨k, x, hk, HX, rfl, hrel⟩ := hrel
    have HR := hid hrel
    clear hrel
    by_cases hlt : k < n
    · have i2 : (k : Int) < (n : Int) := by omega
      obtain ⟨ba, off, rfl, _, c1⟩ := (HRD.out.below (B1.out.trans (HR.out.b.mono B1.out.size))).at_ hlt
      have hm := gmany_eq (l.getD k 0)
      have hm64 := gmany_le (l.getD k 0)
      have HNB : Hid (∀ v, G8 v p 45 x → Calls Try.prog 9 #[.pointer (some ⟨p, 0, none⟩), .int .i64 (l.getD k 0)] v fun e w' => e = .returned (.int .u64 (gval (gmany (l.getD k 0)) x : Nat)) ∧ G8 w' p 45 (gns (gmany (l.getD k 0)) x) ∧ Only p v w') := fun v hv => gnumber_c x p (l.getD k 0) 45 v HX.out hv
      generalize gmany (l.getD k 0) = M at *
      generalize l.getD k 0 = z at *
      go_wp2_with fail
      obtain ⟨w4, hw4⟩ : ∃ v, v = wr := ⟨wr, rfl⟩
      rw [← hw4] at HR ⊢
      clear hw4 c1
      go_loopw [11, 12, 66] (fun u bt j wr => ∃ (i : Nat) (tb : Bool), i ≤ M ∧ u = .int .u64 (gval i x : Nat) ∧ bt = .bool tb ∧ j = .int .i64 i ∧ TwoM w1.heap.size w1 p m x (gns i x) wr) (fun _ _ j _ => M - (intOf j).toNat)
      case atStart => exact ⟨0, false, Nat.zero_le _, rfl, rfl, rfl, HR.out⟩
      case round =>
        clear HR
        obtain ⟨i, tb, hi, rfl, rfl, rfl, hrel⟩ := hrel
        have HR := hid hrel
        have HXi := hid (GS.ns i HX.out)
        have HO := hid hrel.gm.range
        have HSz := hid (sizeR_s (gns i x))
        clear hrel
        by_cases hlti : i < M
        · have j2 : (i : Int) < (M : Int) := by omega
          have hv := gval_lt i x
          have h63 : (2 : Nat) ^ i ≤ 2 ^ 63 := Nat.pow_le_pow_right (by decide) (by omega)
          have hv2 : gval i x < 9223372036854775808 := Nat.lt_of_lt_of_le hv h63
          have HV := hid (gval_last i x)
          have HNS := hid (gns_succ i x)
          obtain ⟨v, hvv⟩ : ∃ v, v = gval i x := ⟨_, rfl⟩
          rw [← hvv] at hv2 HV ⊢
          clear hv h63 hvv
          generalize gns i x = y at *
          go_wp2_with (with_reducible refine wpList_load_mid rfl 30 (.tmp 7) rfl m 0 rfl (bcell 80 y.testBit) _ (by with_reducible exact HO.out) Try.underlying30 rfl HSz.out ?_)
          refine (rbit_c y wr HXi.out).mono ?_
          rintro e w5 ⟨rfl, b5⟩
          have hst := (HR.out.up b5).store (gnext y)
          have HN := hid ((HR.out.up b5).put (gnext y))
          rw [← HNS.out] at hst HN ⊢
          have hl5 := rg_len (gns (i + 1) x)
          obtain ⟨z1, hz1⟩ : ∃ z1, z1 = gns (i + 1) x := ⟨_, rfl⟩
          rw [← hz1] at hst HN hl5 ⊢
          have HZ1 := hid hz1
          clear hz1 b5 HO HSz
          unfold rg
          cases hb : gbit y
          · rw [hb] at HV
            have HV2 : Hid (gval (i + 1) x = 2 * v) := HV
            clear HV hb
            go_wp2
            go_roundw
            case rel => exact ⟨i + 1, false, by omega, by rw [HV2.out]; go_num, rfl, by go_num, by rw [← HZ1.out]; exact HN.out⟩
            case measure => simp [intOf]; omega
          · rw [hb] at HV
            have HV2 : Hid (gval (i + 1) x = 2 * v + 1) := HV
            clear HV hb
            go_wp2
            go_roundw
            case rel => exact ⟨i + 1, true, by omega, by rw [HV2.out]; go_num, rfl, by go_num, by rw [← HZ1.out]; exact HN.out⟩
            case measure => simp [intOf]; omega
        · have eM : i = M := by omega
          rw [eM] at HR HXi HO HSz ⊢
          have j2 : decide ((M : Int) < (M : Int)) = false := by simp
          have HNS := hid (gns_succ M x)
          have HNB2 := hid (HNB.out wr HR.out.gp)
          clear eM hlti hi
          generalize gval M x = v at *
          generalize gns M x = y at *
          go_wp2_with fail
          refine HNB2.out.mono ?_
          rintro e w5 ⟨rfl, g5, o5⟩
          have HR5 := hid (HR.out.left o5 g5)
          have HO5 := hid HR5.out.gm.range
          clear g5 o5 HO HNB HNB2
          go_wp2_with (with_reducible refine wpList_load_mid rfl 30 (.tmp 7) rfl m 0 rfl (bcell 80 y.testBit) _ (by with_reducible exact HO5.out) Try.underlying30 rfl HSz.out ?_)
          refine (rbit_c y w5 HXi.out).mono ?_
          rintro e w6 ⟨rfl, b6⟩
          have hst := (HR5.out.up b6).store (gnext y)
          have HN := hid ((HR5.out.up b6).put (gnext y))
          have hl6 := rg_len (gnext y)
          have HXn := hid HXi.out.next
          have HB6 := hid (fun v (hv : G8 v p 45 y) => gbit_c y p 45 v HXi.out hv)
          generalize gnext y = y2 at *
          generalize gbit y = tb2 at *
          clear b6 HO5 HSz
          unfold rg
          go_wp2_with fail
          refine (HB6.out _ HN.out.gp).mono ?_
          rintro e w7 ⟨rfl, g7, o7⟩
          have HR7 := hid (HN.out.left o7 g7)
          clear g7 o7 hst
          go_wp2
          go_roundw
          case rel => exact ⟨k + 1, y2, by omega, HXn, by go_num, HR7.out⟩
          case measure => simp [intOf]; omega
    · have j2 : decide ((k : Int) < (n : Int)) = false := by simp; omega
      go_wp2
      go_ret
      exact ⟨rfl, B1.out.trans (HR.out.b.mono B1.out.size)⟩
end Go.Proofs.Ytpjjobophplleaa
