/-
  Two sources beside one another; avouchlaw08.speaks: what the call does.
-/
import Derived.Test.YtpjjobophplleaaDoorHrB
import Derived.Test.YtpjjobophplleaaDoorGnG
namespace Go.Proofs.YtpjjobophplleaaDoor
open Go.RowKit
set_option linter.unusedVariables false

/-- The register of the pair that counts, looked for among the first f pairs. -/
def gfind : Nat → Nat → Nat
  | 0, s => s
  | f + 1, s => if gtap s = true then s else gfind f (gIt 2 s)
theorem gfind_hd : ∀ (f s : Nat), GS s → gtap (gfind f s) = true → ghd s = gfind f s
  | 0, s, h, h1 => ghd_zero h h1
  | f + 1, s, h, h1 => by
    unfold gfind at h1 ⊢
    by_cases c : gtap s = true
    · rw [if_pos c]
      exact ghd_zero h c
    · rw [if_neg c] at h1 ⊢
      have c' : gtap s = false := by
        cases e : gtap s
        · rfl
        · exact absurd e c
      rw [← ghd_succ h c']
      exact gfind_hd f _ (h.it 2) h1
def gex : Nat := 1054779284662495806955078
theorem gex_eq : gS 254 3 8 57 = gex := by decide +kernel
theorem gex_gs : GS gex := by rw [← gex_eq]; exact gS_gs 254 3 8 57
theorem gex_0 : gbit (gns 0 gex) = false := by
  show gtap (gT (ghd gex)) = false
  rw [gfind_hd 9 gex gex_gs (by decide +kernel)]
  decide +kernel
theorem gex_n1 : gnext gex = 368155160195063281611236 := by
  show gIt 2 (ghd gex) = _
  rw [gfind_hd 9 gex gex_gs (by decide +kernel)]
  decide +kernel
theorem gex_n2 : gnext 368155160195063281611236 = 476356879867677395615518 := by
  have h : GS 368155160195063281611236 := by rw [← gex_n1]; exact gex_gs.next
  show gIt 2 (ghd 368155160195063281611236) = _
  rw [gfind_hd 9 _ h (by decide +kernel)]
  decide +kernel
theorem gex_2 : gbit (gns 2 gex) = true := by
  have e : gns 2 gex = 476356879867677395615518 := by
    show gnext (gnext gex) = _
    rw [gex_n1, gex_n2]
  have h : GS 476356879867677395615518 := by rw [← e]; exact GS.ns 2 gex_gs
  rw [e]
  show gtap (gT (ghd 476356879867677395615518)) = true
  rw [gfind_hd 9 _ h (by decide +kernel)]
  decide +kernel
/-- How many of the first k bits are 1. -/
noncomputable def gones (s : Nat) : Nat → Nat
  | 0 => 0
  | k + 1 => gones s k + (gbit (gns k s)).toNat
theorem gones_le (s : Nat) : ∀ k, gones s k ≤ k
  | 0 => Nat.le_refl _
  | k + 1 => by
    show gones s k + (gbit (gns k s)).toNat ≤ k + 1
    have := gones_le s k
    have := bool_le (gbit (gns k s))
    omega
theorem gones_pos {s i : Nat} (h : gbit (gns i s) = true) : ∀ k, i < k → 0 < gones s k
  | 0, hk => by omega
  | k + 1, hk => by
    show 0 < gones s k + (gbit (gns k s)).toNat
    by_cases c : i = k
    · rw [← c, h]
      show 0 < gones s i + 1
      omega
    · have := gones_pos h k (by omega)
      omega
theorem gones_lt {s j : Nat} (h : gbit (gns j s) = false) : ∀ k, j < k → gones s k < k
  | 0, hk => by omega
  | k + 1, hk => by
    show gones s k + (gbit (gns k s)).toNat < k + 1
    by_cases c : j = k
    · rw [← c, h]
      have := gones_le s j
      show gones s j + 0 < j + 1
      omega
    · have := gones_lt h k (by omega)
      have := bool_le (gbit (gns k s))
      omega

/-- Two sources, made above B. -/
structure TwoS (B : Nat) (w : World) (p q x y : Nat) (wr : World) : Prop where
  gp : G8 wr p 51 x
  gq : G8 wr q 51 y
  hp : B ≤ p
  hq : B ≤ q
  hne : p ≠ q
  hB : B ≤ w.heap.size
  b : Below B w wr
theorem TwoS.left {B : Nat} {w wr w' : World} {p q x y x' : Nat} (h : TwoS B w p q x y wr) (o : Only p wr w') (g : G8 w' p 51 x') : TwoS B w p q x' y w' :=
  ⟨g, o.blk h.gq (Ne.symm h.hne), h.hp, h.hq, h.hne, h.hB, h.b.trans (o.below h.hp (Nat.le_trans h.hB h.b.size))⟩
theorem TwoS.right {B : Nat} {w wr w' : World} {p q x y y' : Nat} (h : TwoS B w p q x y wr) (o : Only q wr w') (g : G8 w' q 51 y') : TwoS B w p q x y' w' :=
  ⟨o.blk h.gp h.hne, g, h.hp, h.hq, h.hne, h.hB, h.b.trans (o.below h.hq (Nat.le_trans h.hB h.b.size))⟩
theorem TwoS.up {B : Nat} {w wr w' : World} {p q x y : Nat} (h : TwoS B w p q x y wr) (hb : Below wr.heap.size wr w') : TwoS B w p q x y w' :=
  ⟨BlkV.up h.gp hb, BlkV.up h.gq hb, h.hp, h.hq, h.hne, h.hB, h.b.trans (hb.mono (Nat.le_trans h.hB h.b.size))⟩
theorem TwoS.start {w w1 w2 : World} {p q x y : Nat} (hp : w.heap.size ≤ p) (g1 : G8 w1 p 51 x) (b1 : Below w.heap.size w w1) (hq : w1.heap.size ≤ q) (g2 : G8 w2 q 51 y) (b2 : Below w1.heap.size w1 w2) : TwoS w.heap.size w p q x y w2 :=
  ⟨BlkV.up g1 b2, g2, hp, Nat.le_trans b1.size hq, by have := BlkV.size g1; omega, Nat.le_refl _, b1.trans (b2.mono b1.size)⟩
theorem gns_succ (k s : Nat) : gns (k + 1) s = gnext (gns k s) := gns_add k 1 s

set_option maxRecDepth 20000 in
set_option maxHeartbeats 2000000 in
theorem speaks8_c (w : World) :
    Calls Tryd.prog 5 #[] w fun e w' => e = .returned (.bool true) ∧ Below w.heap.size w w' := by
  have hok : gOk ((254 : Nat) : Int) ((3 : Nat) : Int) ((8 : Nat) : Int) ((57 : Nat) : Int) := by unfold gOk; omega
  have N1 := fun (v : World) => new_ok 254 3 8 57 v hok
  rw [gex_eq] at N1
  have HG := hid gex_gs
  have HP := hid (gones_pos gex_2 64 (by decide))
  have HLt := hid (gones_lt gex_0 64 (by decide))
  generalize gex = S at *
  have HN := hid N1
  clear N1 hok
  go_enter Tryd.func5, Tryd.ntmps5
  go_wp2_with fail
  refine (HN.out w).mono ?_
  rintro e w1 ⟨p, rfl, hp, g1, b1⟩
  go_wp2_with fail
  refine (HN.out w1).mono ?_
  rintro e w2 ⟨q, rfl, hq, g2, b2⟩
  have R0 : Hid (TwoS w.heap.size w p q (gns 0 S) (gns 0 S) w2) := TwoS.start hp g1 b1 hq g2 b2
  clear hp hq g1 g2 b1 b2 HN
  go_wp2_with fail
  go_loopw [5, 29] (fun n i wr => ∃ k : Nat, k ≤ 64 ∧ n = .int .i64 (gones S k : Nat) ∧ i = .int .i64 k ∧ TwoS w.heap.size w p q (gns k S) (gns k S) wr) (fun _ i _ => 64 - (intOf i).toNat)
  case atStart => exact ⟨0, Nat.zero_le _, rfl, rfl, R0.out⟩
  case round =>
    clear R0
    obtain ⟨k, hk, rfl, rfl, hrel⟩ := hrel
    have HR := hid hrel
    clear hrel
    have HK := hid (gones_le S k)
    by_cases hlt : k < 64
    · have i2 : (k : Int) < 64 := by omega
      have HS : Hid (gones S (k + 1) = gones S k + (gbit (gns k S)).toNat) := rfl
      go_wp2_with fail
      refine (gbit_c (gns k S) p 51 wr (GS.ns k HG.out) HR.out.gp).mono ?_
      rintro e v1 ⟨rfl, h1, o1⟩
      have HR1 := hid (HR.out.left o1 h1)
      clear h1 o1
      go_wp2_with fail
      refine (gbit_c (gns k S) q 51 v1 (GS.ns k HG.out) HR1.out.gq).mono ?_
      rintro e v2 ⟨rfl, h2, o2⟩
      have HR2 := hid (HR1.out.right o2 h2)
      rw [← gns_succ] at HR2
      clear h2 o2 HR1
      obtain ⟨n, hn⟩ : ∃ n, n = gones S k := ⟨_, rfl⟩
      rw [← hn] at HS HK ⊢
      have hn64 : n ≤ 64 := Nat.le_trans HK.out hk
      clear hn
      cases hb : gbit (gns k S)
      · rw [hb] at HS
        have HS2 : Hid (gones S (k + 1) = n) := HS
        clear HS hb
        go_wp2
        go_roundw
        case rel => exact ⟨k + 1, by omega, by rw [HS2.out], by go_num, HR2.out⟩
        case measure => simp [intOf]; omega
      · rw [hb] at HS
        have HS2 : Hid (gones S (k + 1) = n + 1) := HS
        clear HS hb
        go_wp2
        go_roundw
        case rel => exact ⟨k + 1, by omega, by rw [HS2.out]; go_num, by go_num, HR2.out⟩
        case measure => simp [intOf]; omega
    · obtain rfl : k = 64 := by omega
      generalize gones S 64 = n at *
      have i1 : (0 : Int) < (n : Int) := by have := HP.out; omega
      have i2 : (n : Int) < 64 := by have := HLt.out; omega
      go_wp2
      go_ret
      exact ⟨rfl, HR.out.b⟩
end Go.Proofs.YtpjjobophplleaaDoor
