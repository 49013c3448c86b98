/-
  avouchref01's and avouchref02's small functions, by the numbers that their digits are (Dg).
-/
import Derived.Test.YtjkellpfoogomaaDoorRef2A
import Derived.Test.YtjkellpfoogomaaDoorRefG
import Derived.Test.YtjkellpfoogomaaDoorBytesC
namespace Go.Proofs.YtjkellpfoogomaaDoor
open Go.RowKit
set_option linter.unusedVariables false

theorem lt_big {X : Nat} (h : X < 4294967296 ^ 20) : X < 4294967296 ^ bigE := Nat.lt_of_lt_of_le h (Nat.pow_le_pow_right (by decide) (by decide))
theorem p_big {X : Nat} (h : X < pN) : X < 4294967296 ^ 20 := Nat.lt_of_lt_of_le h (Nat.le_of_lt (by decide))
theorem Dg.nil (w : World) : Dg w (.slice none 0 0) 0 := ⟨none, 0, [], rfl, Nat.le_refl _, by decide, Rd.nil _ _ _, by intro x hx; simp at hx, Or.inl rfl, rfl⟩

def pL : List Nat := [4026531841, 1138881939, 2042196113, 674490440, 2172737629, 3092268470, 3778125865, 811880050]
theorem p2_c (w : World) : Calls Tryd.prog 14 #[] w fun e w' => ∃ r, e = .returned r ∧ Dg w' r pN ∧ Below w.heap.size w w' := by
  have R : Hid (Dg (w.alloc (.cells #[.int .u64 4026531841, .int .u64 1138881939, .int .u64 2042196113, .int .u64 674490440, .int .u64 2172737629, .int .u64 3092268470, .int .u64 3778125865, .int .u64 811880050] 23)) (.slice (some ⟨w.heap.size, 0, none⟩) 8 8) pN) := by
    refine ⟨some ⟨w.heap.size, 0, none⟩, 8, pL, rfl, by decide, by decide, ?_, ?_, Or.inr (by decide), by decide⟩
    · have hB : BlkW (w.alloc (.cells #[.int .u64 4026531841, .int .u64 1138881939, .int .u64 2042196113, .int .u64 674490440, .int .u64 2172737629, .int .u64 3092268470, .int .u64 3778125865, .int .u64 811880050] 23)) w.heap.size 23 pL :=
        ⟨heap_alloc_new w _, by intro x hx; simp only [pL, List.mem_cons, List.not_mem_nil, or_false] at hx; omega⟩
      have rd := hB.rd (off := 0) (n := pL.length) (by omega) hB.size
      rw [List.drop_zero, List.take_length] at rd
      exact rd
    · intro x hx; simp only [pL, List.mem_cons, List.not_mem_nil, or_false] at hx; omega
  go_enter Tryd.func14, Tryd.ntmps14
  go_wp2
  go_ret
  exact ⟨_, rfl, R.out, by go_grown⟩

theorem dAdd_c (u v : Value) (X Y : Nat) (w : World) (hu : Dg w u X) (hv : Dg w v Y) (hR : X + Y < 4294967296 ^ 20) :
    Calls Tryd.prog 51 #[u, v] w fun e w' => ∃ r, e = .returned r ∧ Dg w' r (X + Y) ∧ Below w.heap.size w w' := by
  obtain ⟨A, c, l, rfl, h1, h2, h3, h4, h5, h6⟩ := hu
  obtain ⟨A', c', l', rfl, k1, k2, k3, k4, k5, k6⟩ := hv
  refine (refAdd_c A A' l.length l'.length c c' l l' w h3 k3 h4 k4 (by omega) (by omega)).mono ?_
  intro e w' h
  rw [h6, k6] at h
  exact Dg.of h (lt_big hR)
theorem dSub_c (u v : Value) (X Y : Nat) (w : World) (hu : Dg w u X) (hv : Dg w v Y) (hle : Y ≤ X) (hR : X < 4294967296 ^ 20) :
    Calls Tryd.prog 52 #[u, v] w fun e w' => ∃ r, e = .returned r ∧ Dg w' r (X - Y) ∧ Below w.heap.size w w' := by
  obtain ⟨A, c, l, rfl, h1, h2, h3, h4, h5, h6⟩ := hu
  obtain ⟨A', c', l', rfl, k1, k2, k3, k4, k5, k6⟩ := hv
  refine (refSub_c A A' l.length l'.length c c' l l' w h3 k3 h4 k4 (by omega) (by rw [h6, k6]; exact hle)).mono ?_
  intro e w' h
  rw [h6, k6] at h
  exact Dg.of h (lt_big (Nat.lt_of_le_of_lt (Nat.sub_le _ _) hR))
theorem dCmp_c (u v : Value) (X Y : Nat) (w : World) (hu : Dg w u X) (hv : Dg w v Y) :
    Calls Tryd.prog 42 #[u, v] w fun e w' => e = .returned (.int .i64 (cmpN X Y)) ∧ w = w' := by
  obtain ⟨A, c, l, rfl, h1, h2, h3, h4, h5, h6⟩ := hu
  obtain ⟨A', c', l', rfl, k1, k2, k3, k4, k5, k6⟩ := hv
  refine (refCmp_c A A' l.length l'.length c c' l l' w _ h3 k3 h4 k4 (by omega) (by omega)).mono ?_
  rintro e w' ⟨rfl, rfl⟩
  rw [h6, k6]
  exact ⟨rfl, rfl⟩
theorem dMod_c (u : Value) (X : Nat) (w : World) (hu : Dg w u X) (hX : X < 4294967296 ^ 30) :
    Calls Tryd.prog 17 #[u] w fun e w' => ∃ r, e = .returned r ∧ Dg w' r (X % pN) ∧ Below w.heap.size w w' := by
  obtain ⟨A, c, l, rfl, h1, h2, h3, h4, h5, h6⟩ := hu
  have hl : l.length ≤ 1000 := Nat.le_trans (len_of_lt (n := 30) h4 h5 (by rw [h6]; exact hX)) (by decide)
  have HX := hid h6
  clear h6 hX
  go_enter Tryd.func17, Tryd.ntmps17
  go_wp2_with fail
  refine (p2_c w).mono ?_
  rintro e w1 ⟨r, rfl, hr, b1⟩
  obtain ⟨A', c', l', rfl, k1, k2, k3, k4, k5, k6⟩ := hr
  have hl' : l'.length ≤ 1000 := Nat.le_trans (len_of_lt (n := 20) k4 k5 (by rw [k6]; decide)) (by decide)
  have K6 := hid k6
  clear k6
  go_wp2_with fail
  refine (mod_c A A' l.length l'.length c c' l l' w1 (h3.up b1 (Nat.le_refl _)) k3 h4 k4 hl hl' (by rw [K6.out]; decide)).mono ?_
  intro e w2 h
  rw [HX.out, K6.out] at h
  obtain ⟨v, rfl, hv, b2⟩ := Dg.of h (lt_big (p_big (Nat.mod_lt _ pN_pos)))
  have R := hid hv
  clear hv h
  go_wp2
  go_ret
  exact ⟨_, rfl, R.out, bchain b1 b2⟩
theorem dOf_c (v : Nat) (w : World) (hv : v < 18446744073709551616) :
    Calls Tryd.prog 20 #[.int .u64 (v : Int)] w fun e w' => ∃ r, e = .returned r ∧ Dg w' r v ∧ Below w.heap.size w w' := by
  have r1 := rdw_one w v hv
  have hs : (w.alloc (.cells #[.int .u64 (v : Int)] 23)).heap.size = w.heap.size + 1 := by simp
  rw [← hs] at r1
  have b1 : Below w.heap.size w (w.alloc (.cells #[.int .u64 (v : Int)] 23)) := (Below.refl _ _).alloc (Nat.le_refl _) _
  have hval : val 18446744073709551616 [v] = v := by simp [val, pv]
  have B1 := hid b1
  have HV := hid hval
  clear hs b1 hval
  go_enter Tryd.func20, Tryd.ntmps20
  go_wp2_with fail
  refine (digits_c _ 1 1 [v] _ r1 (by decide)).mono ?_
  intro e w2 h
  rw [HV.out] at h
  obtain ⟨r, rfl, hr, b2⟩ := Dg.of h (lt_big (Nat.lt_trans hv (by decide)))
  have R := hid hr
  have b12 := bchain B1.out b2
  clear hr h r1
  go_wp2
  go_ret
  exact ⟨_, rfl, R.out, b12⟩
theorem dOfBytes_c (A : Option Addr) (n c : Nat) (b : List Nat) (w : World) (ha : Rd8 w w.heap.size A n b) (hn : n ≤ 1000) :
    Calls Tryd.prog 18 #[.slice A n c] w fun e w' => ∃ r, e = .returned r ∧ Dg w' r (val 256 b) ∧ Below w.heap.size w w' := by
  refine (ofBytes_c A n c b w ha hn).mono ?_
  intro e w' h
  refine Dg.of h ?_
  have h1 := val_lt 256 (by decide) b ha.lt
  rw [ha.len] at h1
  refine Nat.lt_of_lt_of_le h1 ?_
  rw [show (4294967296 : Nat) = 256 ^ 4 by decide, ← Nat.pow_mul]
  exact Nat.pow_le_pow_right (by decide) (by unfold bigE; omega)
theorem cmpN_zero_iff (X Y : Nat) : (cmpN X Y == 0) = decide (X = Y) := by
  rcases Nat.lt_trichotomy X Y with h | h | h
  · rw [cmpN_lt h, decide_eq_false (by omega)]; rfl
  · rw [h, cmpN_eq, decide_eq_true rfl]; rfl
  · rw [cmpN_gt h, decide_eq_false (by omega)]; rfl
theorem dSame_c (u v : Value) (X Y : Nat) (w : World) (hu : Dg w u X) (hv : Dg w v Y) :
    Calls Tryd.prog 30 #[u, v] w fun e w' => e = .returned (.bool (decide (X = Y))) ∧ w = w' := by
  have hq := cmpN_zero_iff X Y
  obtain ⟨q, hq'⟩ : ∃ q, q = decide (X = Y) := ⟨_, rfl⟩
  rw [← hq'] at hq ⊢
  clear hq'
  go_enter Tryd.func30, Tryd.ntmps30
  go_wp2_with fail
  refine (dCmp_c u v X Y w hu hv).mono ?_
  rintro e w' ⟨rfl, rfl⟩
  go_wp2
  go_ret
  exact ⟨rfl, rfl⟩

/-- avouchref02.Read, of what there is none. -/
theorem dRead_len (A : Option Addr) (n c : Nat) (w : World) (hn : n ≠ 32) :
    Calls Tryd.prog 10 #[.slice A n c] w fun e w' => e = .returned (.tuple #[.slice none 0 0, .int .i64 1]) ∧ w = w' := by
  have h : ((n : Int) != 32) = true := by simp; omega
  go_enter Tryd.func10, Tryd.ntmps10
  go_wp2
  go_ret2
  exact ⟨rfl, rfl⟩
theorem dRead_canon (A : Option Addr) (c : Nat) (b : List Nat) (w : World) (ha : Rd8 w w.heap.size A 32 b) (hp : Hid (pN ≤ val 256 b)) :
    Calls Tryd.prog 10 #[.slice A 32 c] w fun e w' => e = .returned (.tuple #[.slice none 0 0, .int .i64 4]) ∧ Below w.heap.size w w' := by
  have hge : decide (0 ≤ cmpN (val 256 b) pN) = true := cmpN_ge hp.out
  go_enter Tryd.func10, Tryd.ntmps10
  go_wp2_with fail
  refine (dOfBytes_c A 32 c b w ha (by decide)).mono ?_
  rintro e w1 ⟨r, rfl, hr, b1⟩
  go_wp2_with fail
  refine (p2_c w1).mono ?_
  rintro e w2 ⟨rp, rfl, hrp, b2⟩
  go_wp2_with fail
  refine (dCmp_c r rp _ _ w2 (hr.up b2) hrp).mono ?_
  rintro e w' ⟨rfl, rfl⟩
  have R := hid (bchain b1 b2)
  clear hr hrp
  go_wp2
  go_ret2
  exact ⟨rfl, R.out⟩
theorem dRead_ok (A : Option Addr) (c : Nat) (b : List Nat) (w : World) (ha : Rd8 w w.heap.size A 32 b) (hp : Hid (val 256 b < pN)) :
    Calls Tryd.prog 10 #[.slice A 32 c] w fun e w' => ∃ r, e = .returned (.tuple #[r, .int .i64 0]) ∧ Dg w' r (val 256 b) ∧ Below w.heap.size w w' := by
  have hge : decide (0 ≤ cmpN (val 256 b) pN) = false := cmpN_lt' hp.out
  go_enter Tryd.func10, Tryd.ntmps10
  go_wp2_with fail
  refine (dOfBytes_c A 32 c b w ha (by decide)).mono ?_
  rintro e w1 ⟨r, rfl, hr, b1⟩
  go_wp2_with fail
  refine (p2_c w1).mono ?_
  rintro e w2 ⟨rp, rfl, hrp, b2⟩
  go_wp2_with fail
  refine (dCmp_c r rp _ _ w2 (hr.up b2) hrp).mono ?_
  rintro e w' ⟨rfl, rfl⟩
  have R := hid (And.intro (hr.up b2) (bchain b1 b2))
  clear hr hrp
  go_wp2
  go_ret2
  exact ⟨_, rfl, R.out.1, R.out.2⟩
end Go.Proofs.YtjkellpfoogomaaDoor
