import Derived.Test.YtfonpmahcdmajaaDoorFldI
import Derived.Test.YtfonpmahcdmajaaDoorFNum
import Derived.Test.YtfonpmahcdmajaaDoorLBits
import Derived.Test.YtfonpmahcdmajaaDoorLawLib
import Derived.Deep.RegionWith
import Derived.Laws.BytesArg
import Derived.Test.YtfonpmahcdmajaaDoorRefG
import Derived.Test.YtfonpmahcdmajaaDoorLawGScal
import Derived.Test.YtfonpmahcdmajaaDoorFrameS5
/-
  avouchlaw02.speaks: the document's example holds.
-/
namespace Go.Proofs.YtfonpmahcdmajaaDoor
open Go.RowKit
set_option linter.unusedVariables false

/-- 32 bytes of a value that came back, laid into a new variable. -/
theorem new32 (w : World) (l : List Nat) (hl : l.length = 32) (hlt : allLt8 l) :
    ∃ wx, (storeCells ⟨w.heap.size, 0, none⟩ (cells8 l)).run Tryd.prog (w.alloc (.cells #[.int .u8 0, .int .u8 0, .int .u8 0, .int .u8 0, .int .u8 0, .int .u8 0, .int .u8 0, .int .u8 0, .int .u8 0, .int .u8 0, .int .u8 0, .int .u8 0, .int .u8 0, .int .u8 0, .int .u8 0, .int .u8 0, .int .u8 0, .int .u8 0, .int .u8 0, .int .u8 0, .int .u8 0, .int .u8 0, .int .u8 0, .int .u8 0, .int .u8 0, .int .u8 0, .int .u8 0, .int .u8 0, .int .u8 0, .int .u8 0, .int .u8 0, .int .u8 0] 94)) = .ok () wx ∧ Rd8 wx wx.heap.size (some ⟨w.heap.size, 0, none⟩) 32 l ∧ Below w.heap.size w wx := by
  have hB := o32_new w 94
  have hth := hB.there
  have hb : Below w.heap.size w ((w.alloc (o32 94)).setCells w.heap.size 0 (cells8 l)) := below_cells (Nat.le_refl _) _ _ _ ((Below.refl _ _).alloc (Nat.le_refl _) _)
  refine ⟨(w.alloc (o32 94)).setCells w.heap.size 0 (cells8 l), store8 w.heap.size l (w.alloc (o32 94)) (by rw [hl]; exact hth), ?_, hb⟩
  have hr := World.rangeAt_setCells_same (w.alloc (o32 94)) w.heap.size 0 (cells8 l) (by rw [show (cells8 l).length = 32 by simp [cells8, hl]]; exact hth)
  have hs : w.heap.size < ((w.alloc (o32 94)).setCells w.heap.size 0 (cells8 l)).heap.size := by
    have h1 := (below_cells (B := 0) (b := w.heap.size) (Nat.zero_le _) (cells8 l) 0 _ (Below.refl 0 (w.alloc (o32 94)))).size
    have h2 : (w.alloc (o32 94)).heap.size = w.heap.size + 1 := by simp
    omega
  have := rd8_range hr hlt hs
  rw [hl] at this
  exact this

end Go.Proofs.YtfonpmahcdmajaaDoor
/-
  avouchref02.Bytes, avouchlaw02.Is: what each call does.
-/
namespace Go.Proofs.YtfonpmahcdmajaaDoor
open Go.RowKit
set_option linter.unusedVariables false

end Go.Proofs.YtfonpmahcdmajaaDoor
/-
  avouchref01's and avouchref02's small functions, by the numbers that their digits are (Dg).
-/
namespace Go.Proofs.YtfonpmahcdmajaaDoor
open Go.RowKit
set_option linter.unusedVariables false

theorem lt_big {X : Nat} (h : X < 4294967296 ^ 20) : X < 4294967296 ^ bigE := Nat.lt_of_lt_of_le h (Nat.pow_le_pow_right (by decide) (by decide))
theorem p_big {X : Nat} (h : X < pN) : X < 4294967296 ^ 20 := Nat.lt_of_lt_of_le h (Nat.le_of_lt (by decide))
def pL : List Nat := [4026531841, 1138881939, 2042196113, 674490440, 2172737629, 3092268470, 3778125865, 811880050]
theorem p2_c (w : World) : Calls Tryd.prog 81 #[] w fun e w' => ∃ r, e = .returned r ∧ Dg w' r pN ∧ Below w.heap.size w w' := by
  have R : Hid (Dg (w.alloc (.cells #[.int .u64 4026531841, .int .u64 1138881939, .int .u64 2042196113, .int .u64 674490440, .int .u64 2172737629, .int .u64 3092268470, .int .u64 3778125865, .int .u64 811880050] 22)) (.slice (some ⟨w.heap.size, 0, none⟩) 8 8) pN) := by
    refine ⟨some ⟨w.heap.size, 0, none⟩, 8, pL, rfl, by decide, by decide, ?_, ?_, Or.inr (by decide), by decide⟩
    · have hB : BlkW (w.alloc (.cells #[.int .u64 4026531841, .int .u64 1138881939, .int .u64 2042196113, .int .u64 674490440, .int .u64 2172737629, .int .u64 3092268470, .int .u64 3778125865, .int .u64 811880050] 22)) w.heap.size 22 pL :=
        ⟨heap_alloc_new w _, by intro x hx; simp only [pL, List.mem_cons, List.not_mem_nil, or_false] at hx; omega⟩
      have rd := hB.rd (off := 0) (n := pL.length) (by omega) hB.size
      rw [List.drop_zero, List.take_length] at rd
      exact rd
    · intro x hx; simp only [pL, List.mem_cons, List.not_mem_nil, or_false] at hx; omega
  go_enter Tryd.func81, Tryd.ntmps81
  go_wp2
  go_ret
  exact ⟨_, rfl, R.out, by go_grown⟩

theorem dAdd_c (u v : Value) (X Y : Nat) (w : World) (hu : Dg w u X) (hv : Dg w v Y) (hR : X + Y < 4294967296 ^ 20) :
    Calls Tryd.prog 36 #[u, v] w fun e w' => ∃ r, e = .returned r ∧ Dg w' r (X + Y) ∧ Below w.heap.size w w' := by
  obtain ⟨A, c, l, rfl, h1, h2, h3, h4, h5, h6⟩ := hu
  obtain ⟨A', c', l', rfl, k1, k2, k3, k4, k5, k6⟩ := hv
  refine (refAdd_c A A' l.length l'.length c c' l l' w h3 k3 h4 k4 (by omega) (by omega)).mono ?_
  intro e w' h
  rw [h6, k6] at h
  exact Dg.of h (lt_big hR)
theorem dSub_c (u v : Value) (X Y : Nat) (w : World) (hu : Dg w u X) (hv : Dg w v Y) (hle : Y ≤ X) (hR : X < 4294967296 ^ 20) :
    Calls Tryd.prog 38 #[u, v] w fun e w' => ∃ r, e = .returned r ∧ Dg w' r (X - Y) ∧ Below w.heap.size w w' := by
  obtain ⟨A, c, l, rfl, h1, h2, h3, h4, h5, h6⟩ := hu
  obtain ⟨A', c', l', rfl, k1, k2, k3, k4, k5, k6⟩ := hv
  refine (refSub_c A A' l.length l'.length c c' l l' w h3 k3 h4 k4 (by omega) (by rw [h6, k6]; exact hle)).mono ?_
  intro e w' h
  rw [h6, k6] at h
  exact Dg.of h (lt_big (Nat.lt_of_le_of_lt (Nat.sub_le _ _) hR))
theorem dCmp_c (u v : Value) (X Y : Nat) (w : World) (hu : Dg w u X) (hv : Dg w v Y) :
    Calls Tryd.prog 65 #[u, v] w fun e w' => e = .returned (.int .i64 (cmpN X Y)) ∧ w = w' := by
  obtain ⟨A, c, l, rfl, h1, h2, h3, h4, h5, h6⟩ := hu
  obtain ⟨A', c', l', rfl, k1, k2, k3, k4, k5, k6⟩ := hv
  refine (refCmp_c A A' l.length l'.length c c' l l' w _ h3 k3 h4 k4 (by omega) (by omega)).mono ?_
  rintro e w' ⟨rfl, rfl⟩
  rw [h6, k6]
  exact ⟨rfl, rfl⟩
theorem dMod_c (u : Value) (X : Nat) (w : World) (hu : Dg w u X) (hX : X < 4294967296 ^ 30) :
    Calls Tryd.prog 44 #[u] w fun e w' => ∃ r, e = .returned r ∧ Dg w' r (X % pN) ∧ Below w.heap.size w w' := by
  obtain ⟨A, c, l, rfl, h1, h2, h3, h4, h5, h6⟩ := hu
  have hl : l.length ≤ 1000 := Nat.le_trans (len_of_lt (n := 30) h4 h5 (by rw [h6]; exact hX)) (by decide)
  have HX := hid h6
  clear h6 hX
  go_enter Tryd.func44, Tryd.ntmps44
  go_wp2_with fail
  refine (p2_c w).mono ?_
  rintro e w1 ⟨r, rfl, hr, b1⟩
  obtain ⟨A', c', l', rfl, k1, k2, k3, k4, k5, k6⟩ := hr
  have hl' : l'.length ≤ 1000 := Nat.le_trans (len_of_lt (n := 20) k4 k5 (by rw [k6]; decide)) (by decide)
  have K6 := hid k6
  clear k6
  go_wp2_with fail
  refine (mod_c A A' l.length l'.length c c' l l' w1 (h3.up b1 (Nat.le_refl _)) k3 h4 k4 hl hl' (by rw [K6.out]; decide)).mono ?_
  intro e w2 h
  rw [HX.out, K6.out] at h
  obtain ⟨v, rfl, hv, b2⟩ := Dg.of h (lt_big (p_big (Nat.mod_lt _ pN_pos)))
  have R := hid hv
  clear hv h
  go_wp2
  go_ret
  exact ⟨_, rfl, R.out, bchain b1 b2⟩
theorem dOfBytes_c (A : Option Addr) (n c : Nat) (b : List Nat) (w : World) (ha : Rd8 w w.heap.size A n b) (hn : n ≤ 1000) :
    Calls Tryd.prog 45 #[.slice A n c] w fun e w' => ∃ r, e = .returned r ∧ Dg w' r (val 256 b) ∧ Below w.heap.size w w' := by
  refine (ofBytes_c A n c b w ha hn).mono ?_
  intro e w' h
  refine Dg.of h ?_
  have h1 := val_lt 256 (by decide) b ha.lt
  rw [ha.len] at h1
  refine Nat.lt_of_lt_of_le h1 ?_
  rw [show (4294967296 : Nat) = 256 ^ 4 by decide, ← Nat.pow_mul]
  exact Nat.pow_le_pow_right (by decide) (by unfold bigE; omega)
theorem dSame_c (u v : Value) (X Y : Nat) (w : World) (hu : Dg w u X) (hv : Dg w v Y) :
    Calls Tryd.prog 27 #[u, v] w fun e w' => e = .returned (.bool (decide (X = Y))) ∧ w = w' := by
  have hq := cmpN_zero_iff X Y
  obtain ⟨q, hq'⟩ : ∃ q, q = decide (X = Y) := ⟨_, rfl⟩
  rw [← hq'] at hq ⊢
  clear hq'
  go_enter Tryd.func27, Tryd.ntmps27
  go_wp2_with fail
  refine (dCmp_c u v X Y w hu hv).mono ?_
  rintro e w' ⟨rfl, rfl⟩
  go_wp2
  go_ret
  exact ⟨rfl, rfl⟩

end Go.Proofs.YtfonpmahcdmajaaDoor
/-
  avouchlaw05.GroupScalars: the walk, with what the field's calls do.
-/
namespace Go.Proofs.YtfonpmahcdmajaaDoor
open Go.RowKit
set_option linter.unusedVariables false

theorem bytes40 {w : World} {B n : Nat} {A : Option Addr} {l : List Nat} (h : Rd8 w B A n l) (hn : n ≤ 40) : val 256 l < 4294967296 ^ 30 := by
  have h1 := val_lt 256 (by decide) l h.lt
  rw [h.len] at h1
  refine Nat.lt_of_lt_of_le h1 ?_
  rw [show (4294967296 : Nat) = 256 ^ 4 by decide, ← Nat.pow_mul]
  exact Nat.pow_le_pow_right (by decide) (by omega)
theorem fieldC_of (w : World) (A : Option Addr) (n c : Nat) (cb : List Nat) (ha : Rd8 w w.heap.size A n cb) (hG : Glob w) (hn : n ≤ 40) : FieldC w A n c cb pN := by
  refine ⟨by decide, by decide, fun v hb => ?_, fun v u hu => ?_⟩
  · refine (fromWide_c A n c cb v (ha.up hb (Nat.le_refl _)) (by omega) (hG.up hb)).mono ?_
    rintro e w' ⟨r, rfl, hr, b1⟩
    have hr' := hr
    obtain ⟨a0, a1, a2, a3, rfl, -, -, -⟩ := hr
    refine ⟨a0, a1, a2, a3, rfl, b1, fun v' hv' => ?_⟩
    refine (ebytes_c _ _ v' hr' ((hG.up hb).up (b1.trans (hv'.mono b1.size)))).mono ?_
    rintro e w'' ⟨s, rfl, hs, b2⟩
    obtain ⟨l, rfl, hl, hlt, hv⟩ := hs
    exact ⟨_, rfl, ⟨l, rfl, hl, hlt, hv⟩, b2⟩
  · exact dMod_c u (val 256 cb) v hu (bytes40 ha hn)
theorem groupScalars_w (X Y : Nat) (A : Option Addr) (n c : Nat) (cb : List Nat) (w : World) (hX : X < W12) (hY : Y < W12) (ha : Rd8 w w.heap.size A n cb) (hG : GlobS w) :
    Calls Tryd.prog 6 #[num X, num Y, .slice A n c] w fun e w' => e = .returned (.bool true) ∧ Below w.heap.size w w' :=
  groupScalars_gen X Y A n c cb pN w hX hY ha hG.g fun hn => fieldC_of w A n c cb ha hG.f hn
end Go.Proofs.YtfonpmahcdmajaaDoor
