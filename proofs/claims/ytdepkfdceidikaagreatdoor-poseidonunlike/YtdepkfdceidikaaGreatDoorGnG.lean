import Derived.Test.YtdepkfdceidikaaGreatDoorHrB
import Derived.StillTailTactics
/-
  grain.fits, filled: what each call does.
-/
namespace Go.Proofs.YtdepkfdceidikaaGreatDoor
open Go.RowKit
set_option linter.unusedVariables false

set_option maxRecDepth 20000 in
theorem fits12_c (n : Int) (w : World) :
    Calls Tryz.prog 92 #[.int .i64 n, .int .i64 1, .int .i64 12] w fun e w' => e = .returned (.bool (decide (1 ≤ n ∧ n < 4096))) ∧ w' = w := by
  by_cases h1 : 1 ≤ n
  · by_cases h2 : n < 4096
    · have e : decide (1 ≤ n ∧ n < 4096) = true := decide_eq_true ⟨h1, h2⟩
      rw [e]
      clear e
      go_enter Tryz.func92, Tryz.ntmps92
      go_wp2
      go_ret
      exact ⟨rfl, rfl⟩
    · have e : decide (1 ≤ n ∧ n < 4096) = false := decide_eq_false (by omega)
      rw [e]
      have h3 : decide (n < 4096) = false := decide_eq_false h2
      clear e h2
      go_enter Tryz.func92, Tryz.ntmps92
      go_wp2
      go_ret
      exact ⟨rfl, rfl⟩
  · have e : decide (1 ≤ n ∧ n < 4096) = false := decide_eq_false (by omega)
    rw [e]
    have h3 : decide (1 ≤ n) = false := decide_eq_false h1
    clear e h1
    go_enter Tryz.func92, Tryz.ntmps92
    go_wp2
    go_ret
    exact ⟨rfl, rfl⟩
set_option maxRecDepth 20000 in
theorem fits10_c (n : Int) (w : World) :
    Calls Tryz.prog 92 #[.int .i64 n, .int .i64 0, .int .i64 10] w fun e w' => e = .returned (.bool (decide (0 ≤ n ∧ n < 1024))) ∧ w' = w := by
  by_cases h1 : 0 ≤ n
  · by_cases h2 : n < 1024
    · have e : decide (0 ≤ n ∧ n < 1024) = true := decide_eq_true ⟨h1, h2⟩
      rw [e]
      clear e
      go_enter Tryz.func92, Tryz.ntmps92
      go_wp2
      go_ret
      exact ⟨rfl, rfl⟩
    · have e : decide (0 ≤ n ∧ n < 1024) = false := decide_eq_false (by omega)
      rw [e]
      have h3 : decide (n < 1024) = false := decide_eq_false h2
      clear e h2
      go_enter Tryz.func92, Tryz.ntmps92
      go_wp2
      go_ret
      exact ⟨rfl, rfl⟩
  · have e : decide (0 ≤ n ∧ n < 1024) = false := decide_eq_false (by omega)
    rw [e]
    have h3 : decide (0 ≤ n) = false := decide_eq_false h1
    clear e h1
    go_enter Tryz.func92, Tryz.ntmps92
    go_wp2
    go_ret
    exact ⟨rfl, rfl⟩

theorem shr_bit (n i : Nat) (hn : n < 4294967296) : IntKind.u8.wrap (bits .and .i64 ((n : Int) / 2 ^ i) 1) = (((n.testBit i).toNat : Nat) : Int) := by
  have e1 : ((n : Int) / 2 ^ i) = ((n / 2 ^ i : Nat) : Int) := by
    rw [show (2 : Int) ^ i = ((2 ^ i : Nat) : Int) by simp, ← Int.natCast_ediv]
  have hlt : n / 2 ^ i < 4294967296 := Nat.lt_of_le_of_lt (Nat.div_le_self _ _) hn
  rw [e1, Nat.testBit_eq_decide_div_mod_eq]
  generalize n / 2 ^ i = a at *
  have h1 : (BitVec.ofInt 64 (a : Int)).toNat = a := by
    rw [BitVec.ofInt_natCast, BitVec.toNat_ofNat]; exact Nat.mod_eq_of_lt (by omega)
  have h2 : bits .and .i64 (a : Int) 1 = ((a % 2 : Nat) : Int) := by
    show IntKind.i64.wrap ((BitVec.ofInt 64 (a : Int) &&& BitVec.ofInt 64 1).toNat : Int) = _
    rw [BitVec.toNat_and, h1, show (BitVec.ofInt 64 1).toNat = 1 by decide, Nat.and_one_is_mod, IntKind.wrap_i64]
    omega
  rw [h2, show IntKind.u8.wrap ((a % 2 : Nat) : Int) = ((a % 2 : Nat) : Int) by rw [IntKind.wrap_u8]; omega]
  rcases Nat.mod_two_eq_zero_or_one a with e | e <;> rw [e] <;> rfl
/-- The register's bytes when the bits M are laid. -/
def mB (M : List Bool) : List Nat := M.map Bool.toNat ++ List.replicate (80 - M.length) 0
theorem mB_len {M : List Bool} (h : M.length ≤ 80) : (mB M).length = 80 := by
  unfold mB
  rw [List.length_append, List.length_map, List.length_replicate]
  omega
theorem mB_set {M : List Bool} (h : M.length < 80) (v : Bool) : (mB M).set M.length v.toNat = mB (M ++ [v]) := by
  unfold mB
  rw [List.set_append_right _ _ (by rw [List.length_map]; exact Nat.le_refl _), List.length_map, Nat.sub_self, List.length_append, List.length_singleton, show 80 - M.length = (80 - (M.length + 1)) + 1 by omega, List.replicate_succ, List.set_cons_zero, List.map_append, List.append_assoc]
  rfl
theorem mB_nil : mB [] = List.replicate 80 0 := rfl
theorem mB_lt (M : List Bool) : allLt8 (mB M) := by
  intro x hx
  unfold mB at hx
  rcases List.mem_append.1 hx with h | h
  · obtain ⟨y, _, rfl⟩ := List.mem_map.1 h
    have := bool_le y
    omega
  · have := List.eq_of_mem_replicate h
    omega
theorem cell_other {v : World} {q r i j : Nat} {x : Value} (h : r ≠ q) : (v.setCell ⟨r, i, none⟩ x).cell? ⟨q, j, none⟩ = v.cell? ⟨q, j, none⟩ := by
  simp only [World.cell?, World.setCell]
  rw [Array.getElem?_modify, if_neg (by omega)]
theorem frozen_any {v : World} {b i : Nat} {p : Addr} {x : Value} (h : v.frozen? p = false) : (v.setCell ⟨b, i, none⟩ x).frozen? p = false := by
  rw [World.frozen?_setCell]
  exact h
/-- The two variables of filled, the bits M laid. -/
structure FiR (w : World) (B r q : Nat) (M : List Bool) (wr : World) : Prop where
  r : BlkV wr r 133 (cells8 (mB M))
  q : BlkV wr q 3 [.int .i64 (M.length : Nat)]
  b : Below B w wr
theorem FiR.set {w wr : World} {B r q : Nat} {M : List Bool} (h : FiR w B r q M wr) (hr : B ≤ r) (hq : B ≤ q) (hne : r ≠ q) (hl : M.length < 80) (v : Bool) :
    FiR w B r q (M ++ [v]) ((wr.setCell ⟨r, M.length, none⟩ (.int .u8 (v.toNat : Nat))).setCell ⟨q, 0, none⟩ (.int .i64 ((M.length + 1 : Nat) : Int))) := by
  refine ⟨?_, ?_, (h.b.setCell (p := ⟨r, M.length, none⟩) hr _).setCell (p := ⟨q, 0, none⟩) hq _⟩
  · have h1 := h.r.set M.length (.int .u8 (v.toNat : Nat))
    rw [cells8_set, mB_set hl] at h1
    exact h1.other hne
  · have h2 := (h.q.other (c := r) (i := M.length) (v := .int .u8 (v.toNat : Nat)) (Ne.symm hne)).set 0 (.int .i64 ((M.length + 1 : Nat) : Int))
    rw [List.length_append]
    exact h2
theorem FiR.drew {w wr : World} {B r q : Nat} {M : List Bool} (h : FiR w B r q M wr) : FiR w B r q M wr.drew := ⟨BlkV.drew h.r, BlkV.drew h.q, h.b.drew⟩
set_option maxRecDepth 20000 in
set_option maxHeartbeats 1000000 in
theorem lay8_c (n k B r q : Nat) (M : List Bool) (w0 w : World) (hR : FiR w0 B r q M w) (hr : B ≤ r) (hq : B ≤ q) (hne : r ≠ q) (hn : n < 4294967296) (hk : k ≤ 64) (hl : M.length + k ≤ 80) :
    Calls Tryz.prog 117 #[.int .i64 (n : Int), .int .i64 (k : Int), .pointer (some ⟨r, 0, none⟩), .pointer (some ⟨q, 0, none⟩)] w fun e w' => e = .returned (.tuple #[]) ∧ FiR w0 B r q (M ++ layP n k k) w' := by
  have R0 : Hid (FiR w0 B r q (M ++ layP n k 0) w) := by
    show FiR w0 B r q (M ++ []) w
    rw [List.append_nil]
    exact hR
  have HN := hid hn
  clear hR hn
  go_enter Tryz.func117, Tryz.ntmps117
  go_wp2
  go_loopw [6] (fun i wr => ∃ (m : Nat) (i' : Int), m ≤ k ∧ Hid (i' = (k : Int) - 1 - m) ∧ i = .int .i64 i' ∧ FiR w0 B r q (M ++ layP n k m) wr) (fun i _ => (intOf i + 1).toNat)
  case atStart => exact ⟨0, (k : Int) - 1, Nat.zero_le _, by show _ = _; omega, by go_num, R0.out⟩
  case round =>
    clear R0
    obtain ⟨m, i', hm, HI, rfl, hrel⟩ := hrel
    by_cases hlt : m < k
    · obtain ⟨i, hi⟩ : ∃ i : Nat, i = k - 1 - m := ⟨_, rfl⟩
      obtain rfl : i' = (i : Int) := by have := HI.out; omega
      have i0 : (0 : Int) ≤ (i : Int) := by omega
      have HIN := hid hi
      have hi64 : i < 64 := by omega
      obtain ⟨L, hL⟩ : ∃ L, L = M ++ layP n k m := ⟨_, rfl⟩
      have HL : Hid (L ++ [n.testBit i] = M ++ layP n k (m + 1)) := by
        show _ = _
        rw [layP_succ, hL, hi, List.append_assoc]
      have hLl : L.length = M.length + m := by rw [hL, List.length_append, layP_len]
      rw [← hL] at hrel
      have hl80 : L.length < 80 := by omega
      obtain ⟨p, hp⟩ : ∃ p, p = L.length := ⟨_, rfl⟩
      have hrel := hrel.drew
      have HS := hid (hrel.set hr hq hne hl80 (n.testBit i))
      rw [← shr_bit n i HN.out] at HS
      have c1 := hrel.q.cell (i := 0) (Nat.zero_lt_one)
      have f1 := hrel.q.frozen 0
      have c2 := BlkV.cell8 hrel.r (i := p) (by rw [mB_len (by omega)]; omega)
      have f2 := hrel.r.frozen p
      simp only [List.getElem_cons_zero] at c1
      rw [← hp] at c1 HS hl80
      have p80 : (p : Int) < 80 := by omega
      generalize at64 (mB L) p = u at *
      clear hrel HI hi hL hLl hp
      have c3 := cell_other (v := wr.drew) (x := .int .u8 (IntKind.u8.wrap (bits .and .i64 ((n : Int) / 2 ^ i) 1))) (i := p) (j := 0) hne
      have f3 := frozen_any (v := wr.drew) (x := .int .u8 (IntKind.u8.wrap (bits .and .i64 ((n : Int) / 2 ^ i) 1))) (b := r) (i := p) f1
      rw [c1] at c3
      have c1' : wr.cell? ⟨q, 0, none⟩ = some (.int .i64 (p : Int)) := c1
      go_wp2
      go_still_tail 7, (by kernel_rfl)
      change wpList _ _ _ _ _ wr.drew
      clear c1'
      generalize wr.drew = wd at *
      go_wp2
      go_roundw
      case rel => exact ⟨m + 1, (k : Int) - 1 - (m + 1 : Nat), by omega, rfl, by have := HIN.out; first | go_num | (congr 1; omega), by rw [← HL.out]; exact HS.out⟩
      case measure => simp [intOf] <;> omega
    · obtain rfl : m = k := by omega
      obtain rfl : i' = -1 := by have := HI.out; omega
      have HR := hid hrel
      clear HI hrel
      go_wp2
      exact ⟨rfl, _, results_none7 Tryz.results117, rfl, HR.out⟩

/-- The register at first, as bits. -/
def gL (a b c d : Nat) : List Bool := layP 1 2 2 ++ layP 0 4 4 ++ layP a 12 12 ++ layP b 12 12 ++ layP c 10 10 ++ layP d 10 10 ++ layP 1073741823 30 30
theorem gL_len (a b c d : Nat) : (gL a b c d).length = 80 := by
  unfold gL
  simp only [List.length_append, layP_len]
/-- The number of bits, the lowest one first. -/
def gof : List Bool → Nat
  | [] => 0
  | x :: r => x.toNat + 2 * gof r
theorem gof_bit : ∀ (l : List Bool) (i : Nat), (gof l).testBit i = l.getD i false
  | [], i => by
    rw [show gof [] = 0 from rfl, Nat.zero_testBit]
    rfl
  | x :: r, 0 => by
    show (x.toNat + 2 * gof r).testBit 0 = x
    rw [Nat.testBit_zero]
    cases x <;> simp <;> omega
  | x :: r, i + 1 => by
    show (x.toNat + 2 * gof r).testBit (i + 1) = r.getD i false
    have := bool_le x
    rw [Nat.testBit_succ, show (x.toNat + 2 * gof r) / 2 = gof r by omega, gof_bit r i]
theorem gof_lt : ∀ (l : List Bool), gof l < 2 ^ l.length
  | [] => by show 0 < 2 ^ 0; decide
  | x :: r => by
    show x.toNat + 2 * gof r < 2 ^ (r.length + 1)
    have := gof_lt r
    have := bool_le x
    rw [Nat.pow_succ]
    omega
/-- The register at first. -/
def gS0 (a b c d : Nat) : Nat := gof (gL a b c d)
theorem gS0_bit (a b c d i : Nat) : (gS0 a b c d).testBit i = (gL a b c d).getD i false := gof_bit _ _
theorem gS0_gs (a b c d : Nat) : GS (gS0 a b c d) := by
  refine ⟨?_, fun e => ?_⟩
  · have h := gof_lt (gL a b c d)
    rw [gL_len, ← g80_eq] at h
    exact h
  · have h := gS0_bit a b c d 79
    rw [e, Nat.zero_testBit] at h
    unfold gL at h
    rw [List.getD_eq_getElem?_getD, List.getElem?_append_right (by simp only [List.length_append, layP_len]; decide)] at h
    simp only [List.length_append, layP_len] at h
    revert h
    decide
theorem mB_end (a b c d : Nat) : mB (gL a b c d) = g8 (gS0 a b c d) := by
  apply List.ext_getElem?
  intro i
  rcases Nat.lt_or_ge i 80 with hi | hi
  · unfold mB g8
    rw [List.getElem?_append_left (by rw [List.length_map, gL_len]; exact hi), List.getElem?_map, List.getElem?_map, List.getElem?_range hi]
    show _ = some ((gS0 a b c d).testBit i).toNat
    rw [gS0_bit, List.getD_eq_getElem?_getD, List.getElem?_eq_getElem (by rw [gL_len]; exact hi)]
    rfl
  · rw [List.getElem?_eq_none (by rw [mB_len (by rw [gL_len]; omega)]; exact hi), List.getElem?_eq_none (by rw [g8_len]; exact hi)]
def z80 : List Nat := List.replicate 80 0
theorem zeroG (v : World) : (zeroValue 133).run Tryz.prog v = .ok (.agg (cells8 z80).toArray) v := by kernel_rfl
theorem sizeG : (Tryz.prog.info? 133).map (·.size) = some 80 := by kernel_rfl
theorem sizeG_s (s : Nat) : (Tryz.prog.info? 133).map (·.size) = some (cells8 (g8 s)).length := sizeG.trans (congrArg some (c8_leng s).symm)
def zG : Obj := .cells (cells8 z80).toArray 133
/-- The result's place, the two variables, at first. -/
theorem FiR.start (w : World) : FiR w w.heap.size (w.heap.size + 1) (w.heap.size + 1 + 1) [] (((w.alloc zG).alloc zG).alloc (.cells #[.int .i64 0] 3)) ∧ BlkV (((w.alloc zG).alloc zG).alloc (.cells #[.int .i64 0] 3)) w.heap.size 133 (cells8 z80) := by
  have e1 : (w.alloc zG).heap.size = w.heap.size + 1 := by simp
  have e2 : ((w.alloc zG).alloc zG).heap.size = w.heap.size + 1 + 1 := by simp
  have h0 := BlkV.new w 133 (cells8 z80)
  have h1 := BlkV.new (w.alloc zG) 133 (cells8 z80)
  have h2 := BlkV.new ((w.alloc zG).alloc zG) 3 [.int .i64 0]
  rw [e1] at h1
  rw [e2] at h2
  exact ⟨⟨h1.alloc _, h2, (((Below.refl _ _).alloc (Nat.le_refl _) _).alloc (by omega) _).alloc (by omega) _⟩, (h0.alloc _).alloc _⟩
set_option maxRecDepth 20000 in
set_option maxHeartbeats 1000000 in
theorem gfilled_c (a b c d : Nat) (w : World) (ha : a < 4096) (hb : b < 4096) (hc : c < 1024) (hd : d < 1024) :
    Calls Tryz.prog 93 #[.int .i64 (a : Int), .int .i64 (b : Int), .int .i64 (c : Int), .int .i64 (d : Int)] w fun e w' => e = .returned (.agg (cells8 (g8 (gS0 a b c d))).toArray) ∧ Below w.heap.size w w' := by
  have hME := congrArg cells8 (mB_end a b c d)
  have hlen := c8_leng (gS0 a b c d)
  have hone : ∀ v ∈ cells8 (g8 (gS0 a b c d)), v.oneCell' = true := by intro v hv; unfold cells8 at hv; obtain ⟨x, _, rfl⟩ := List.mem_map.1 hv; rfl
  obtain ⟨cs, hcs⟩ : ∃ cs, cs = cells8 (g8 (gS0 a b c d)) := ⟨_, rfl⟩
  rw [← hcs] at hME hlen hone ⊢
  have HME := hid hME
  have HL := hid hlen
  have HONE := hid hone
  clear hME hlen hone hcs
  have hmf : ∀ (fn : Fn) (first cap : Array Value) (w : World), (Instr.makeFunc fn first cap).run Tryz.prog w = .ok (.func fn first cap) w := fun _ _ _ _ => rfl
  have hz := zeroG
  have hlz : (cells8 z80).length = 80 := rfl
  have R0 := hid (FiR.start w)
  unfold zG at R0
  go_enter Tryz.func93, Tryz.ntmps93
  go_wp2_with fail
  have HB0 := hid R0.out.1.b
  have HZ := hid R0.out.2
  have hF0 : FiR _ (w.heap.size + 1) (w.heap.size + 1) (w.heap.size + 1 + 1) [] _ := ⟨R0.out.1.r, R0.out.1.q, Below.refl _ _⟩
  clear R0 hz hlz
  generalize (((w.alloc _).alloc _).alloc _) = w0 at *
  refine (lay8_c 1 2 (w.heap.size + 1) (w.heap.size + 1) (w.heap.size + 1 + 1) ([]) w0 _ hF0 (by omega) (by omega) (by omega) (by omega) (by omega) (by decide)).mono ?_
  rintro e w1 ⟨rfl, hF1⟩
  go_wp2_with fail
  refine (lay8_c 0 4 (w.heap.size + 1) (w.heap.size + 1) (w.heap.size + 1 + 1) ([] ++ layP 1 2 2) w0 _ hF1 (by omega) (by omega) (by omega) (by omega) (by omega) (by decide)).mono ?_
  rintro e w2 ⟨rfl, hF2⟩
  go_wp2_with fail
  refine (lay8_c a 12 (w.heap.size + 1) (w.heap.size + 1) (w.heap.size + 1 + 1) ([] ++ layP 1 2 2 ++ layP 0 4 4) w0 _ hF2 (by omega) (by omega) (by omega) (by omega) (by omega) (by simp only [List.length_append, List.length_nil, layP_len]; decide)).mono ?_
  rintro e w3 ⟨rfl, hF3⟩
  go_wp2_with fail
  refine (lay8_c b 12 (w.heap.size + 1) (w.heap.size + 1) (w.heap.size + 1 + 1) ([] ++ layP 1 2 2 ++ layP 0 4 4 ++ layP a 12 12) w0 _ hF3 (by omega) (by omega) (by omega) (by omega) (by omega) (by simp only [List.length_append, List.length_nil, layP_len]; decide)).mono ?_
  rintro e w4 ⟨rfl, hF4⟩
  go_wp2_with fail
  refine (lay8_c c 10 (w.heap.size + 1) (w.heap.size + 1) (w.heap.size + 1 + 1) ([] ++ layP 1 2 2 ++ layP 0 4 4 ++ layP a 12 12 ++ layP b 12 12) w0 _ hF4 (by omega) (by omega) (by omega) (by omega) (by omega) (by simp only [List.length_append, List.length_nil, layP_len]; decide)).mono ?_
  rintro e w5 ⟨rfl, hF5⟩
  go_wp2_with fail
  refine (lay8_c d 10 (w.heap.size + 1) (w.heap.size + 1) (w.heap.size + 1 + 1) ([] ++ layP 1 2 2 ++ layP 0 4 4 ++ layP a 12 12 ++ layP b 12 12 ++ layP c 10 10) w0 _ hF5 (by omega) (by omega) (by omega) (by omega) (by omega) (by simp only [List.length_append, List.length_nil, layP_len]; decide)).mono ?_
  rintro e w6 ⟨rfl, hF6⟩
  go_wp2_with fail
  refine (lay8_c 1073741823 30 (w.heap.size + 1) (w.heap.size + 1) (w.heap.size + 1 + 1) ([] ++ layP 1 2 2 ++ layP 0 4 4 ++ layP a 12 12 ++ layP b 12 12 ++ layP c 10 10 ++ layP d 10 10) w0 _ hF6 (by omega) (by omega) (by omega) (by omega) (by omega) (by simp only [List.length_append, List.length_nil, layP_len]; decide)).mono ?_
  rintro e w7 ⟨rfl, hF7⟩
  have HM := HME.out
  unfold gL at HM
  have hr := hF7.r
  rw [List.nil_append, HM] at hr
  have hz7 := HZ.out.below hF7.b (Nat.lt_succ_self _)
  have HB := hid (HB0.out.trans (hF7.b.mono (Nat.le_succ _)))
  have hlen := HL.out
  have hlz : (cells8 z80).length = 80 := rfl
  have hst : (storeCells ⟨w.heap.size, 0, none⟩ cs).run Tryz.prog w7 = .ok () (w7.setCells w.heap.size 0 cs) :=
    storeV cs 0 hz7 (by rw [hlen, hlz]; decide) HONE.out
  have HR := hid (BlkV.whole cs hz7 (by rw [hlen, hlz])).range
  have HO := hid hr.range
  have HSz : Hid ((Tryz.prog.info? 133).map (·.size) = some cs.length) := sizeG.trans (congrArg some hlen.symm)
  clear hF0 hF1 hF2 hF3 hF4 hF5 hF6 hF7 HM hr hz7 HZ HB0 hlz hmf
  go_wp2_with (with_reducible refine wpList_load_mid rfl 133 (.tmp 9) rfl (w.heap.size + 1) 0 rfl cs _ (by with_reducible exact HO.out) Tryz.underlying133 rfl HSz.out ?_)
  refine bodyPost_ret (results_cell1 Tryz.results93 ⟨w.heap.size, 0, none⟩ _ rfl (run_loadVar_mid _ w.heap.size 0 133 cs _ HR.out Tryz.underlying133 rfl HSz.out)) rfl ?_
  exact ⟨rfl, below_cells (Nat.le_refl _) _ _ _ HB.out⟩
end Go.Proofs.YtdepkfdceidikaaGreatDoor
/-
  grain.New: what the call does.
-/
namespace Go.Proofs.YtdepkfdceidikaaGreatDoor
open Go.RowKit
set_option linter.unusedVariables false

theorem results_tmps2 {fn : Func} {p q : Tmp} {P : Program} {w : World} {tmps : Array Value} {u v : Value} (h : fn.results = #[.tmp p, .tmp q]) (hp : tmps.getD p undef = u) (hq : tmps.getD q undef = v) :
    (results fn tmps).run P w = .ok (.tuple #[u, v]) w := by
  have hp' : tmps[p]?.getD undef = u := by simpa using hp
  have hq' : tmps[q]?.getD undef = v := by simpa using hq
  simp only [results, h]
  simp [hp', hq']
/-- Which four numbers a source may have. -/
def gOk (a b c d : Int) : Prop := 1 ≤ a ∧ a < 4096 ∧ 1 ≤ b ∧ b < 4096 ∧ 0 ≤ c ∧ c < 1024 ∧ 0 ≤ d ∧ d < 1024
/-- The register behind its first turns. -/
def gS (a b c d : Nat) : Nat := gIt 160 (gS0 a b c d)
theorem gS_gs (a b c d : Nat) : GS (gS a b c d) := (gS0_gs a b c d).it 160
theorem fold_zip : ∀ (cs : List Value) (k : Nat) (A : Array Value), A.size = k + cs.length → List.foldl (fun (a : Array Value) x => a.setIfInBounds x.snd x.fst) A (cs.zipIdx k) = (A.toList.take k ++ cs).toArray
  | [], k, A, h => by
    have e : A.toList.take k = A.toList := List.take_of_length_le (by simp at h; simp [h])
    rw [e]
    simp
  | x :: r, k, A, h => by
    have h1 := fold_zip r (k + 1) (A.setIfInBounds k x) (by simp at h ⊢; omega)
    rw [List.zipIdx_cons, List.foldl_cons, h1]
    have hk : k < A.toList.length := by simp at h ⊢; omega
    rw [Array.toList_setIfInBounds, List.take_succ_eq_append_getElem (by simpa using hk), List.getElem_set_self, List.take_set_of_le (Nat.le_refl k), List.append_assoc]
    rfl
theorem gIt_succ (k s : Nat) : gIt (k + 1) s = gT (gIt k s) := gIt_add k 1 s
structure NwR (w : World) (p s k : Nat) (wr : World) : Prop where
  g : G8 wr p 136 (gIt k s)
  b : Below w.heap.size w wr
theorem zeroS (v : World) : (zeroValue 136).run Tryz.prog v = .ok (.agg (cells8 z80).toArray) v := by kernel_rfl
set_option maxRecDepth 20000 in
set_option maxHeartbeats 1000000 in
theorem new_ok (a b c d : Nat) (w : World) (h : gOk a b c d) :
    Calls Tryz.prog 65 #[.int .i64 (a : Int), .int .i64 (b : Int), .int .i64 (c : Int), .int .i64 (d : Int)] w fun e w' => ∃ p, e = .returned (.tuple #[.pointer (some ⟨p, 0, none⟩), .int .i64 0]) ∧ w.heap.size ≤ p ∧ G8 w' p 136 (gS a b c d) ∧ Below w.heap.size w w' := by
  obtain ⟨a1, a2, b1, b2, c1, c2, d1, d2⟩ := h
  have e1 : decide (1 ≤ (a : Int) ∧ (a : Int) < 4096) = true := decide_eq_true ⟨a1, a2⟩
  have e2 : decide (1 ≤ (b : Int) ∧ (b : Int) < 4096) = true := decide_eq_true ⟨b1, b2⟩
  have e3 : decide (0 ≤ (c : Int) ∧ (c : Int) < 1024) = true := decide_eq_true ⟨c1, c2⟩
  have e4 : decide (0 ≤ (d : Int) ∧ (d : Int) < 1024) = true := decide_eq_true ⟨d1, d2⟩
  obtain ⟨S, hS⟩ : ∃ S, S = gS a b c d := ⟨_, rfl⟩
  rw [← hS]
  have HE : Hid (S = gIt 160 (gS0 a b c d)) := hS
  clear hS
  go_enter Tryz.func65, Tryz.ntmps65
  go_wp2_with fail
  refine (fits12_c a w).mono ?_
  rintro e v ⟨rfl, rfl⟩
  rw [e1]
  go_wp2_with fail
  refine (fits12_c b v).mono ?_
  rintro e w ⟨rfl, rfl⟩
  rw [e2]
  go_wp2_with fail
  refine (fits10_c c w).mono ?_
  rintro e v ⟨rfl, rfl⟩
  rw [e3]
  go_wp2_with fail
  refine (fits10_c d v).mono ?_
  rintro e w ⟨rfl, rfl⟩
  rw [e4]
  go_wp2_with fail
  refine (gfilled_c a b c d w (by omega) (by omega) (by omega) (by omega)).mono ?_
  rintro e w1 ⟨rfl, hb1⟩
  have HB1 := hid hb1
  have HG0 := hid (gS0_gs a b c d)
  generalize gS0 a b c d = s at *
  have HBK := hid (BlkV.new w1 136 (cells8 (g8 s)))
  have HF := fold_zip (cells8 (g8 s)) 0 (cells8 z80).toArray (by rw [c8_leng]; rfl)
  have hlen := c8_leng s
  obtain ⟨cs, hcs⟩ : ∃ cs, cs = cells8 (g8 s) := ⟨_, rfl⟩
  rw [← hcs] at HF hlen HBK ⊢
  have HCS := hid hcs
  rw [List.take_zero, List.nil_append] at HF
  have hlz : (cells8 z80).length = 80 := rfl
  have hz := zeroS
  clear hcs hb1
  generalize cells8 z80 = zs at *
  go_wp2_with fail
  have R0 : Hid (NwR w w1.heap.size s 0 (w1.alloc (.cells cs.toArray 136))) := ⟨by rw [show gIt 0 s = s from rfl]; unfold G8; rw [← HCS.out]; exact HBK.out, HB1.out.alloc HB1.out.size _⟩
  have hp := HB1.out.size
  clear HB1 HBK HF hlen HCS hlz hz
  generalize w1.alloc _ = w2 at *
  generalize w1.heap.size = p at *
  go_loopw [36] (fun i wr => ∃ k : Nat, k ≤ 160 ∧ i = .int .i64 k ∧ NwR w p s k wr) (fun i _ => 160 - (intOf i).toNat)
  case atStart => exact ⟨0, Nat.zero_le _, rfl, R0.out⟩
  case round =>
    clear R0
    obtain ⟨k, hk, rfl, hrel⟩ := hrel
    have HR := hid hrel
    clear hrel
    by_cases hlt : k < 160
    · have i2 : (k : Int) < 160 := by omega
      go_wp2_with fail
      refine (gturn_c (gIt k s) p 136 wr (gIt_lt k HG0.out.lt) HR.out.g).mono ?_
      rintro e w3 ⟨rfl, g3, o3⟩
      have HN : Hid (NwR w p s (k + 1) w3) := ⟨by rw [gIt_succ]; exact g3, HR.out.b.trans (o3.below hp HR.out.b.size)⟩
      clear g3 o3
      generalize ((gtap (gIt k s)).toNat) = y
      go_wp2
      go_roundw
      case rel => exact ⟨k + 1, by omega, by go_num, HN.out⟩
      case measure => simp [intOf]; omega
    · obtain rfl : k = 160 := by omega
      go_wp2
      refine bodyPost_ret (results_tmps2 Tryz.results65 rfl rfl) rfl ?_
      exact ⟨p, rfl, hp, by rw [HE.out]; exact HR.out.g, HR.out.b⟩
set_option maxRecDepth 20000 in
set_option maxHeartbeats 1000000 in
theorem new_err (a b c d : Int) (w : World) (h : ¬ gOk a b c d) :
    Calls Tryz.prog 65 #[.int .i64 a, .int .i64 b, .int .i64 c, .int .i64 d] w fun e w' => e = .returned (.tuple #[.pointer none, .int .i64 1]) ∧ w' = w := by
  by_cases h1 : 1 ≤ a ∧ a < 4096
  case neg =>
    have e1 : decide (1 ≤ a ∧ a < 4096) = false := decide_eq_false h1
    go_enter Tryz.func65, Tryz.ntmps65
    go_wp2_with fail
    refine (fits12_c a w).mono ?_
    rintro e v ⟨rfl, rfl⟩
    rw [e1]
    go_wp2_with fail
    refine bodyPost_ret (results_tmps2 Tryz.results65 rfl rfl) rfl ?_
    exact ⟨rfl, rfl⟩
  have e1 : decide (1 ≤ a ∧ a < 4096) = true := decide_eq_true h1
  by_cases h2 : 1 ≤ b ∧ b < 4096
  case neg =>
    have e2 : decide (1 ≤ b ∧ b < 4096) = false := decide_eq_false h2
    go_enter Tryz.func65, Tryz.ntmps65
    go_wp2_with fail
    refine (fits12_c a w).mono ?_
    rintro e v ⟨rfl, rfl⟩
    rw [e1]
    go_wp2_with fail
    refine (fits12_c b v).mono ?_
    rintro e w ⟨rfl, rfl⟩
    rw [e2]
    go_wp2_with fail
    refine bodyPost_ret (results_tmps2 Tryz.results65 rfl rfl) rfl ?_
    exact ⟨rfl, rfl⟩
  have e2 : decide (1 ≤ b ∧ b < 4096) = true := decide_eq_true h2
  by_cases h3 : 0 ≤ c ∧ c < 1024
  case neg =>
    have e3 : decide (0 ≤ c ∧ c < 1024) = false := decide_eq_false h3
    go_enter Tryz.func65, Tryz.ntmps65
    go_wp2_with fail
    refine (fits12_c a w).mono ?_
    rintro e v ⟨rfl, rfl⟩
    rw [e1]
    go_wp2_with fail
    refine (fits12_c b v).mono ?_
    rintro e w ⟨rfl, rfl⟩
    rw [e2]
    go_wp2_with fail
    refine (fits10_c c w).mono ?_
    rintro e v ⟨rfl, rfl⟩
    rw [e3]
    go_wp2_with fail
    refine bodyPost_ret (results_tmps2 Tryz.results65 rfl rfl) rfl ?_
    exact ⟨rfl, rfl⟩
  have e3 : decide (0 ≤ c ∧ c < 1024) = true := decide_eq_true h3
  by_cases h4 : 0 ≤ d ∧ d < 1024
  · exact absurd ⟨h1.1, h1.2, h2.1, h2.2, h3.1, h3.2, h4.1, h4.2⟩ h
  · have e4 : decide (0 ≤ d ∧ d < 1024) = false := decide_eq_false h4
    go_enter Tryz.func65, Tryz.ntmps65
    go_wp2_with fail
    refine (fits12_c a w).mono ?_
    rintro e v ⟨rfl, rfl⟩
    rw [e1]
    go_wp2_with fail
    refine (fits12_c b v).mono ?_
    rintro e w ⟨rfl, rfl⟩
    rw [e2]
    go_wp2_with fail
    refine (fits10_c c w).mono ?_
    rintro e v ⟨rfl, rfl⟩
    rw [e3]
    go_wp2_with fail
    refine (fits10_c d v).mono ?_
    rintro e w ⟨rfl, rfl⟩
    rw [e4]
    go_wp2_with fail
    refine bodyPost_ret (results_tmps2 Tryz.results65 rfl rfl) rfl ?_
    exact ⟨rfl, rfl⟩
end Go.Proofs.YtdepkfdceidikaaGreatDoor
