import Derived.Test.YtjohbepdmnigcaaDoorFLaw0
import Derived.Deep.RegionWith
import Derived.Laws.BytesArg
import Derived.Test.YtjohbepdmnigcaaDoorRefH
import Derived.Test.YtjohbepdmnigcaaDoorSpeaks
/-
  avouchref02.Bytes, avouchlaw02.Is: what each call does.
-/
namespace Go.Proofs.YtjohbepdmnigcaaDoor
open Go.RowKit
set_option linter.unusedVariables false

/-- More digits than there ever are. -/
def bigE : Nat := 2000
/-- Digits of base 2^32, as they are handed on: the number X. -/
structure Dg (w : World) (v : Value) (X : Nat) : Prop where
  ex : ∃ A c l, v = .slice A l.length c ∧ l.length ≤ c ∧ l.length ≤ 2000 ∧ Rd w w.heap.size A l.length l ∧ D32 l ∧ Tr l ∧ val 4294967296 l = X
theorem Dg.up {w w' : World} {v : Value} {X : Nat} (h : Dg w v X) (hb : Below w.heap.size w w') : Dg w' v X := by
  obtain ⟨A, c, l, rfl, h1, h2, h3, h4⟩ := h
  exact ⟨A, c, l, rfl, h1, h2, h3.up hb (Nat.le_refl _), h4⟩
/-- A number below B^n has at most n digits. -/
theorem len_of_lt {l : List Nat} {n : Nat} (hd : D32 l) (ht : Tr l) (h : val 4294967296 l < 4294967296 ^ n) : l.length ≤ n := by
  rcases Nat.lt_or_ge n l.length with h' | h'
  · exfalso
    have e := ht
    unfold Tr at e
    obtain ⟨m, hm⟩ : ∃ m, l.length = m + 1 := ⟨l.length - 1, by omega⟩
    have hz : l.getD m 0 ≠ 0 := by
      rcases e with e | e
      · subst e; simp at hm
      · rw [hm] at e; exact e
    have : val 4294967296 l = pv 4294967296 l m + l.getD m 0 * 4294967296 ^ m := by unfold val; rw [hm, pv_succ]
    have h2 : 1 * 4294967296 ^ m ≤ l.getD m 0 * 4294967296 ^ m := Nat.mul_le_mul_right _ (by omega)
    have h3 : 4294967296 ^ n ≤ 4294967296 ^ m := Nat.pow_le_pow_right (by decide) (by omega)
    omega
  · exact h'
theorem Dg.of {w w' : World} {e : Ending} {X : Nat} (h : Dig w e w' X) (hX : X < 4294967296 ^ bigE) : ∃ v, e = .returned v ∧ Dg w' v X ∧ Below w.heap.size w w' := by
  obtain ⟨A, c, l, rfl, h1, h2, h3, h4, h5, h6⟩ := h
  exact ⟨_, rfl, ⟨A, c, l, rfl, h1, len_of_lt (n := bigE) h3 h4 (by rw [h5]; exact hX), h2, h3, h4, h5⟩, h6⟩

theorem ref2Bytes_c (v : Value) (X : Nat) (w : World) (hv : Dg w v X) :
    Calls Tryd.prog 22 #[v] w fun e w' => Bts w e w' 32 (X % 115792089237316195423570985008687907853269984665640564039457584007913129639936) := by
  obtain ⟨A, c, l, rfl, h1, h2, h3, h4, h5, h6⟩ := hv
  go_enter Tryd.func22, Tryd.ntmps22
  go_wp2_with fail
  refine (words_c A l.length c l 4 4 rfl w h3 h4 (by decide)).mono ?_
  rintro e w1 ⟨A1, c1, l1, rfl, hc1, r1, v1, b1⟩
  go_wp2_with fail
  refine (refBytes_c A1 4 c1 l1 w1 r1 (by decide)).mono ?_
  rintro e w2 ⟨A2, c2, l2, rfl, hc2, r2, v2, b2⟩
  rw [v1, h6, show (18446744073709551616 : Nat) ^ 4 = 115792089237316195423570985008687907853269984665640564039457584007913129639936 by decide] at v2
  have R : Hid (Bts w (.returned (.slice A2 (8 * 4) c2)) w2 (8 * 4) (X % 115792089237316195423570985008687907853269984665640564039457584007913129639936)) := hid ⟨A2, c2, l2, rfl, hc2, r2, v2, bchain b1 b2⟩
  clear v1 v2 h6 h4 h5 r1 r2 hc2
  go_wp2
  go_ret
  exact R.out

theorem conv8l {w : World} {B n : Nat} {A : Option Addr} {l : List Nat} (h : Rd8 w B A n l) (h0 : 0 < n) (c : Nat) :
    (convert 64 9 (.slice A n c)).run Tryd.prog w = .ok (.string (strOfNums (l.map fun (x : Nat) => (x : Int)))) w := by
  obtain ⟨b, off, rfl, hb, hc⟩ := h.cells h0
  refine run_convert_bytes_arg w _ 5 Tryd.underlying64 Tryd.underlying5 b off n c _ (by simp [h.len]) (fun i hi => ?_) _ Tryd.underlying9
  rw [hc i hi]
  have hi' : i < l.length := by rw [h.len]; exact hi
  simp [at64, List.getD_eq_getElem?_getD, List.getElem?_eq_getElem hi']
theorem str_list (l : List Nat) : (strOfNums (l.map fun (x : Nat) => (x : Int))).toList = l.map fun (x : Nat) => UInt8.ofNat x := by
  rw [ByteArray.toList_eq]
  show ((l.map fun (x : Nat) => (x : Int)).map fun n => UInt8.ofNat n.toNat) = _
  rw [List.map_map]
  rfl
theorem u8_inj {a b : Nat} (ha : a < 256) (hb : b < 256) (h : UInt8.ofNat a = UInt8.ofNat b) : a = b := by
  have := congrArg UInt8.toNat h
  simp at this
  omega
theorem map_u8_inj : ∀ {l l' : List Nat}, allLt8 l → allLt8 l' → (l.map fun (x : Nat) => UInt8.ofNat x) = (l'.map fun (x : Nat) => UInt8.ofNat x) → l = l'
  | [], [], _, _, _ => rfl
  | [], _ :: _, _, _, h => by simp at h
  | _ :: _, [], _, _, h => by simp at h
  | a :: l, b :: l', h1, h2, h => by
    simp only [List.map_cons, List.cons.injEq] at h
    rw [u8_inj (h1 a (by simp)) (h2 b (by simp)) h.1, map_u8_inj (fun x hx => h1 x (by simp [hx])) (fun x hx => h2 x (by simp [hx])) h.2]
/-- Two texts of as many bytes are the same just if their numbers are. -/
theorem str_val {l l' : List Nat} (hl : l.length = l'.length) (h : allLt8 l) (h' : allLt8 l') : ((strOfNums (l.map fun (x : Nat) => (x : Int))).toList == (strOfNums (l'.map fun (x : Nat) => (x : Int))).toList) = decide (val 256 l = val 256 l') := by
  rw [str_list, str_list]
  by_cases e : val 256 l = val 256 l'
  · have : l = l' := val_inj 256 (by decide) l l' h h' hl e
    subst this
    simp
  · rw [decide_eq_false e]
    simp only [beq_eq_false_iff_ne]
    intro h2
    exact e (by rw [map_u8_inj h h' h2])
set_option maxRecDepth 20000 in
set_option maxHeartbeats 4000000 in
theorem is_c (u v : Value) (x X : Nat) (w : World) (hu : El u x) (hv : Dg w v X) (hX : X < 115792089237316195423570985008687907853269984665640564039457584007913129639936) (hG : Glob w) :
    Calls Tryd.prog 12 #[u, v] w fun e w' => e = .returned (.bool (decide (x = X))) ∧ Below w.heap.size w w' := by
  have HU := hid hu
  obtain ⟨a0, a1, a2, a3, rfl, -, -, -⟩ := hu
  have hl0 := (Below.refl w.heap.size w).alloc (Nat.le_refl _) (o4 40 a0 a1 a2 a3)
  have hG0 := hG.up hl0
  have HL := hid hl0
  have HV := hid hv
  have HX := hid hX
  obtain ⟨q, hq⟩ : ∃ q, q = decide (x = X) := ⟨_, rfl⟩
  rw [← hq]
  have HQ := hid hq
  clear hl0 hv hX hq
  unfold w4
  go_enter Tryd.func12, Tryd.ntmps12
  go_wp2_with fail
  refine (ebytes_c _ x _ HU.out hG0).mono ?_
  rintro e w1 ⟨r, rfl, hr, b1⟩
  obtain ⟨l, rfl, hl, hlt, hval⟩ := hr
  have b01 := HL.out.trans (Below.mono (B' := w.heap.size) b1 HL.out.size)
  obtain ⟨wx, hst, rx, bx⟩ := new32 w1 l hl hlt
  have b0x := b01.trans (bx.mono b01.size)
  have hlen : (cells8 l).length = 32 := by simp [cells8, hl]
  have HVL := hid hval
  have hvx := HV.out.up b0x
  clear hval b1 HL hG0 bx b01
  go_wp2_with fail
  have rxd : Rd8 wx.drew wx.drew.heap.size (some ⟨w1.heap.size, 0, none⟩) 32 l := ⟨rx.len, rx.lt, rx.cells⟩
  have cv1 := conv8l rxd (by decide) 32
  have hvd : Dg wx.drew v X := hvx.up (Below.refl _ _).drew
  clear hst hlen hvx
  go_region_with (
    (go_at_call 22
     refine (ref2Bytes_c v X _ hvd).mono ?_
     rintro e w2 ⟨A2, c2, l2, rfl, hc2, r2, v2, b2⟩
     have cv2 := conv8l r2 (by decide) c2
     have cv3 := conv8l (rxd.up b2 (Nat.le_refl _)) (by decide) 32
     have hse := str_val (hl.trans r2.len.symm) hlt r2.lt
     rw [HVL.out, v2, Nat.mod_eq_of_lt HX.out, ← HQ.out] at hse
     clear v2))
  all_goals
    have R := hid (bchain b0x (Below.trans ((Below.refl _ wx).drew) b2))
    go_wp2
    go_ret
    exact ⟨rfl, R.out⟩
end Go.Proofs.YtjohbepdmnigcaaDoor
/-
  avouchref01's and avouchref02's small functions, by the numbers that their digits are (Dg).
-/
namespace Go.Proofs.YtjohbepdmnigcaaDoor
open Go.RowKit
set_option linter.unusedVariables false

theorem lt_big {X : Nat} (h : X < 4294967296 ^ 20) : X < 4294967296 ^ bigE := Nat.lt_of_lt_of_le h (Nat.pow_le_pow_right (by decide) (by decide))
theorem p_big {X : Nat} (h : X < pN) : X < 4294967296 ^ 20 := Nat.lt_of_lt_of_le h (Nat.le_of_lt (by decide))
theorem Dg.nil (w : World) : Dg w (.slice none 0 0) 0 := ⟨none, 0, [], rfl, Nat.le_refl _, by decide, Rd.nil _ _ _, by intro x hx; simp at hx, Or.inl rfl, rfl⟩

def pL : List Nat := [4026531841, 1138881939, 2042196113, 674490440, 2172737629, 3092268470, 3778125865, 811880050]
theorem p2_c (w : World) : Calls Tryd.prog 59 #[] w fun e w' => ∃ r, e = .returned r ∧ Dg w' r pN ∧ Below w.heap.size w w' := by
  have R : Hid (Dg (w.alloc (.cells #[.int .u64 4026531841, .int .u64 1138881939, .int .u64 2042196113, .int .u64 674490440, .int .u64 2172737629, .int .u64 3092268470, .int .u64 3778125865, .int .u64 811880050] 37)) (.slice (some ⟨w.heap.size, 0, none⟩) 8 8) pN) := by
    refine ⟨some ⟨w.heap.size, 0, none⟩, 8, pL, rfl, by decide, by decide, ?_, ?_, Or.inr (by decide), by decide⟩
    · have hB : BlkW (w.alloc (.cells #[.int .u64 4026531841, .int .u64 1138881939, .int .u64 2042196113, .int .u64 674490440, .int .u64 2172737629, .int .u64 3092268470, .int .u64 3778125865, .int .u64 811880050] 37)) w.heap.size 37 pL :=
        ⟨heap_alloc_new w _, by intro x hx; simp only [pL, List.mem_cons, List.not_mem_nil, or_false] at hx; omega⟩
      have rd := hB.rd (off := 0) (n := pL.length) (by omega) hB.size
      rw [List.drop_zero, List.take_length] at rd
      exact rd
    · intro x hx; simp only [pL, List.mem_cons, List.not_mem_nil, or_false] at hx; omega
  go_enter Tryd.func59, Tryd.ntmps59
  go_wp2
  go_ret
  exact ⟨_, rfl, R.out, by go_grown⟩

theorem dAdd_c (u v : Value) (X Y : Nat) (w : World) (hu : Dg w u X) (hv : Dg w v Y) (hR : X + Y < 4294967296 ^ 20) :
    Calls Tryd.prog 58 #[u, v] w fun e w' => ∃ r, e = .returned r ∧ Dg w' r (X + Y) ∧ Below w.heap.size w w' := by
  obtain ⟨A, c, l, rfl, h1, h2, h3, h4, h5, h6⟩ := hu
  obtain ⟨A', c', l', rfl, k1, k2, k3, k4, k5, k6⟩ := hv
  refine (refAdd_c A A' l.length l'.length c c' l l' w h3 k3 h4 k4 (by omega) (by omega)).mono ?_
  intro e w' h
  rw [h6, k6] at h
  exact Dg.of h (lt_big hR)
theorem dSub_c (u v : Value) (X Y : Nat) (w : World) (hu : Dg w u X) (hv : Dg w v Y) (hle : Y ≤ X) (hR : X < 4294967296 ^ 20) :
    Calls Tryd.prog 57 #[u, v] w fun e w' => ∃ r, e = .returned r ∧ Dg w' r (X - Y) ∧ Below w.heap.size w w' := by
  obtain ⟨A, c, l, rfl, h1, h2, h3, h4, h5, h6⟩ := hu
  obtain ⟨A', c', l', rfl, k1, k2, k3, k4, k5, k6⟩ := hv
  refine (refSub_c A A' l.length l'.length c c' l l' w h3 k3 h4 k4 (by omega) (by rw [h6, k6]; exact hle)).mono ?_
  intro e w' h
  rw [h6, k6] at h
  exact Dg.of h (lt_big (Nat.lt_of_le_of_lt (Nat.sub_le _ _) hR))
theorem dCmp_c (u v : Value) (X Y : Nat) (w : World) (hu : Dg w u X) (hv : Dg w v Y) :
    Calls Tryd.prog 56 #[u, v] w fun e w' => e = .returned (.int .i64 (cmpN X Y)) ∧ w = w' := by
  obtain ⟨A, c, l, rfl, h1, h2, h3, h4, h5, h6⟩ := hu
  obtain ⟨A', c', l', rfl, k1, k2, k3, k4, k5, k6⟩ := hv
  refine (refCmp_c A A' l.length l'.length c c' l l' w _ h3 k3 h4 k4 (by omega) (by omega)).mono ?_
  rintro e w' ⟨rfl, rfl⟩
  rw [h6, k6]
  exact ⟨rfl, rfl⟩
theorem dOf_c (v : Nat) (w : World) (hv : v < 18446744073709551616) :
    Calls Tryd.prog 16 #[.int .u64 (v : Int)] w fun e w' => ∃ r, e = .returned r ∧ Dg w' r v ∧ Below w.heap.size w w' := by
  have r1 := rdw_one w v hv
  have hs : (w.alloc (.cells #[.int .u64 (v : Int)] 37)).heap.size = w.heap.size + 1 := by simp
  rw [← hs] at r1
  have b1 : Below w.heap.size w (w.alloc (.cells #[.int .u64 (v : Int)] 37)) := (Below.refl _ _).alloc (Nat.le_refl _) _
  have hval : val 18446744073709551616 [v] = v := by simp [val, pv]
  have B1 := hid b1
  have HV := hid hval
  clear hs b1 hval
  go_enter Tryd.func16, Tryd.ntmps16
  go_wp2_with fail
  refine (digits_c _ 1 1 [v] _ r1 (by decide)).mono ?_
  intro e w2 h
  rw [HV.out] at h
  obtain ⟨r, rfl, hr, b2⟩ := Dg.of h (lt_big (Nat.lt_trans hv (by decide)))
  have R := hid hr
  have b12 := bchain B1.out b2
  clear hr h r1
  go_wp2
  go_ret
  exact ⟨_, rfl, R.out, b12⟩
theorem cmpN_zero_iff (X Y : Nat) : (cmpN X Y == 0) = decide (X = Y) := by
  rcases Nat.lt_trichotomy X Y with h | h | h
  · rw [cmpN_lt h, decide_eq_false (by omega)]; rfl
  · rw [h, cmpN_eq, decide_eq_true rfl]; rfl
  · rw [cmpN_gt h, decide_eq_false (by omega)]; rfl
theorem dSame_c (u v : Value) (X Y : Nat) (w : World) (hu : Dg w u X) (hv : Dg w v Y) :
    Calls Tryd.prog 42 #[u, v] w fun e w' => e = .returned (.bool (decide (X = Y))) ∧ w = w' := by
  have hq := cmpN_zero_iff X Y
  obtain ⟨q, hq'⟩ : ∃ q, q = decide (X = Y) := ⟨_, rfl⟩
  rw [← hq'] at hq ⊢
  clear hq'
  go_enter Tryd.func42, Tryd.ntmps42
  go_wp2_with fail
  refine (dCmp_c u v X Y w hu hv).mono ?_
  rintro e w' ⟨rfl, rfl⟩
  go_wp2
  go_ret
  exact ⟨rfl, rfl⟩

end Go.Proofs.YtjohbepdmnigcaaDoor
