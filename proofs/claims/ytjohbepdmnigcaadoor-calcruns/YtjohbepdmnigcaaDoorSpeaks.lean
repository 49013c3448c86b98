import Derived.Test.YtjohbepdmnigcaaDoorFldG
import Derived.Test.YtjohbepdmnigcaaDoorFldC
import Derived.Test.YtjohbepdmnigcaaDoorFldE
import Derived.Test.YtjohbepdmnigcaaDoorLOpsC
import Derived.Test.YtjohbepdmnigcaaDoorLOps
/-
  field.Prime, (Element).Bytes: what each call does.
-/
namespace Go.Proofs.YtjohbepdmnigcaaDoor
open Go.RowKit
set_option linter.unusedVariables false

theorem one4 : W4 1 0 0 0 := ⟨⟨by decide, by decide⟩, ⟨by decide, by decide⟩, ⟨by decide, by decide⟩, ⟨by decide, by decide⟩⟩
theorem el_back {r0 r1 r2 r3 : Int} {x : Nat} {A : Int} (hx : x < pN) (hW : W4 r0 r1 r2 r3) (h1 : n4 r0 r1 r2 r3 < prm) (hA : A = ((mo x : Nat) : Int))
    (h : ∃ T : Int, n4 r0 r1 r2 r3 * 115792089237316195423570985008687907853269984665640564039457584007913129639936 = A * n4 1 0 0 0 + prm * T) : n4 r0 r1 r2 r3 = (x : Int) := by
  obtain ⟨n, e, hn⟩ := nat_of (n4_nonneg hW) h1
  obtain ⟨T, h⟩ := h
  rw [e, hA, show n4 1 0 0 0 = ((1 : Nat) : Int) by decide] at h
  rw [e]
  exact_mod_cast mo_back hn hx (int_mod h)

set_option maxRecDepth 20000 in
set_option maxHeartbeats 2000000 in
theorem ebytes_c (u : Value) (x : Nat) (w : World) (hu : El u x) (hG : Glob w) :
    Calls Tryd.prog 21 #[u] w fun e w' => ∃ r, e = .returned r ∧ By r x ∧ Below w.heap.size w w' := by
  obtain ⟨a0, a1, a2, a3, rfl, ha, hx, ea⟩ := hu
  have EA := hid ea
  have pa : Hid (n4 a0 a1 a2 a3 < prm) := hid (by rw [ea]; exact mo_prm x)
  have HX := hid hx
  have hZ0 := o32_new (w.alloc (o4 40 a0 a1 a2 a3)) 62
  have hl0 := ((Below.refl w.heap.size w).alloc (Nat.le_refl _) (o4 40 a0 a1 a2 a3)).alloc (by simp) (o32 62)
  rw [show (w.alloc (o4 40 a0 a1 a2 a3)).heap.size = w.heap.size + 1 by simp] at hZ0
  have hG0 := hG.up hl0
  have HZ := hid hZ0
  have HL := hid hl0
  clear ea hx hZ0 hl0
  unfold w4
  go_enter Tryd.func21, Tryd.ntmps21
  go_wp2_with fail
  refine (product_c a0 a1 a2 a3 1 0 0 0 _ ha one4 hG0 pa).mono ?_
  rintro e w1 ⟨r0, r1, r2, r3, rfl, hr, hlt, hT, hb1⟩
  have HB := hid (el_back HX.out hr hlt EA.out hT)
  have hl1 := HL.out.trans (Below.mono (B' := w.heap.size) hb1 HL.out.size)
  have hZ1 : BlkB w1 (w.heap.size + 1) 62 (List.replicate 32 0) := HZ.out.below hb1 HZ.out.size
  clear hlt hT hb1 hG0 ha HZ HL
  unfold w4
  go_wp2_with fail
  refine (bytesOf_c r0 r1 r2 r3 w1 hr x HB).mono ?_
  rintro e w2 ⟨r, rfl, hr2, hb2⟩
  have hl2 := hl1.trans (hb2.mono hl1.size)
  have hZ2 : BlkB w2 (w.heap.size + 1) 62 (List.replicate 32 0) := hZ1.below hb2 hZ1.size
  have HR := hid hr2
  obtain ⟨lr, rfl, hl, _, _⟩ := hr2
  have hlen : (cells8 lr).length = 32 := by simp [cells8, hl]
  have hth := hZ2.there
  have hran := hid (World.rangeAt_setCells_same w2 (w.heap.size + 1) 0 (cells8 lr) (by rw [hlen]; exact hth))
  have hst := store8 (w.heap.size + 1) lr w2 (by rw [hl]; exact hth)
  have HE := hid hlen
  clear hb2 hZ1 hZ2 hth hl hr hl1
  go_wp2
  refine bodyPost_ret (results_cell1 Tryd.results21 ⟨w.heap.size + 1, 0, none⟩ _ rfl (run_loadVar_mid _ (w.heap.size + 1) 0 62 (cells8 lr) _ hran.out Tryd.underlying62 rfl (size32.trans (congrArg some HE.out.symm)))) rfl ?_
  exact ⟨_, rfl, HR.out, below_cells (by omega) _ _ _ hl2⟩
end Go.Proofs.YtjohbepdmnigcaaDoor
/-
  Powers modulo a number, reckoned by squaring: plain arithmetic, nothing of the program.
-/
namespace Go.Proofs.YtjohbepdmnigcaaDoor

/-- b to the power of e modulo m, by the bits of e (at most as many as the first number says). -/
def pm (m : Nat) : Nat → Nat → Nat → Nat
  | 0, _, _ => 1 % m
  | f + 1, b, e => if e % 2 = 1 then b * pm m f (b * b % m) (e / 2) % m else pm m f (b * b % m) (e / 2)
theorem pm_eq (m : Nat) : ∀ (f b e : Nat), e < 2 ^ f → pm m f b e = b ^ e % m
  | 0, b, e, h => by
    have : e = 0 := by simpa using h
    subst this
    simp [pm]
  | f + 1, b, e, h => by
    have h2 : e / 2 < 2 ^ f := by rw [Nat.pow_succ] at h; omega
    have ih := pm_eq m f (b * b % m) (e / 2) h2
    have e1 : (b * b % m) ^ (e / 2) % m = b ^ (2 * (e / 2)) % m := by
      rw [← Nat.pow_mod, Nat.pow_mul, Nat.pow_two]
    unfold pm
    rw [ih, e1]
    split
    · rename_i ho
      rw [Nat.mul_mod_mod, ← Nat.pow_succ', show (2 * (e / 2)).succ = e by omega]
    · rename_i he
      rw [show 2 * (e / 2) = e by omega]
/-- The inverse of 2. -/
theorem inv_two : 2 ^ (pN - 2) % pN = 10944121435919637611123202872628637544274182200208017171849102093287904247809 := by
  rw [← pm_eq pN 254 2 (pN - 2) (by decide)]
  kernel_rfl
end Go.Proofs.YtjohbepdmnigcaaDoor
/-
  avouchref01.OfBytes: what the call does.
-/
namespace Go.Proofs.YtjohbepdmnigcaaDoor
open Go.RowKit
set_option linter.unusedVariables false

/-- Digit j of the digits of b, when the bytes from k on are laid. -/
def ob (b : List Nat) (k j : Nat) : Nat := pv 256 (b.drop (max k (4 * j))) (4 * j + 4 - max k (4 * j))
theorem ob_lt (b : List Nat) (h : allLt8 b) (k j : Nat) : ob b k j < 4294967296 := by
  have h1 := pv_lt 256 (by decide) _ (lt8_drop h (max k (4 * j))) (4 * j + 4 - max k (4 * j))
  have h2 : 256 ^ (4 * j + 4 - max k (4 * j)) ≤ 256 ^ 4 := Nat.pow_le_pow_right (by decide) (by omega)
  unfold ob; omega
theorem ob_small (b : List Nat) (h : allLt8 b) (k q r : Nat) (hk : k = 4 * q + r) (hr : r < 4) : ob b (k + 1) q < 16777216 := by
  have h1 := pv_lt 256 (by decide) _ (lt8_drop h (max (k + 1) (4 * q))) (4 * q + 4 - max (k + 1) (4 * q))
  have h2 : 256 ^ (4 * q + 4 - max (k + 1) (4 * q)) ≤ 256 ^ 3 := Nat.pow_le_pow_right (by decide) (by omega)
  unfold ob; omega
theorem pv_cons (W : Nat) (l : List Nat) (m : Nat) : pv W l (m + 1) = pv W (l.drop 1) m * W + l.getD 0 0 := by
  rw [Nat.add_comm m 1, pv_drop, pv_succ, pv_zero, Nat.pow_one, Nat.pow_zero, Nat.mul_one, Nat.zero_add, Nat.mul_comm, Nat.add_comm]
theorem ob_at (b : List Nat) (k q r : Nat) (hk : k = 4 * q + r) (hr : r < 4) : ob b k q = ob b (k + 1) q * 256 + b.getD k 0 := by
  unfold ob
  rw [show max k (4 * q) = k by omega, show max (k + 1) (4 * q) = k + 1 by omega, show 4 * q + 4 - k = (4 * q + 4 - (k + 1)) + 1 by omega, pv_cons, List.drop_drop, getD_drop, Nat.add_zero k]
theorem ob_ne (b : List Nat) (k q r j : Nat) (hk : k = 4 * q + r) (hr : r < 4) (hj : j ≠ q) : ob b k j = ob b (k + 1) j := by
  unfold ob
  by_cases hc : j < q
  · rw [show 4 * j + 4 - max k (4 * j) = 0 by omega, show 4 * j + 4 - max (k + 1) (4 * j) = 0 by omega]; rfl
  · rw [show max k (4 * j) = max (k + 1) (4 * j) by omega]
theorem ob_start (b : List Nat) (n j : Nat) (h : b.length = n) : ob b n j = 0 := by
  unfold ob
  rw [List.drop_eq_nil_of_le (by omega), pv_empty]

/-- The relation of the loop of OfBytes: the bytes from k on are laid. -/
def ObRel (w : World) (m : Nat) (b : List Nat) (wr : World) (k : Nat) : Prop :=
  ∃ ws : List Nat, ws.length = m ∧ BlkW wr w.heap.size 37 ws ∧ Below w.heap.size w wr ∧ ∀ j, j < m → ws.getD j 0 = ob b k j
theorem ObRel.drew {w wr : World} {m k : Nat} {b : List Nat} (h : ObRel w m b wr k) : ObRel w m b wr.drew k := by
  obtain ⟨ws, hl, hB, hb, hj⟩ := h
  exact ⟨ws, hl, ⟨hB.heap, hB.lt⟩, hb.drew, hj⟩
theorem ObRel.step {w wr : World} {m k q r : Nat} {b : List Nat} (h8 : allLt8 b) (h : ObRel w m b wr (k + 1)) (hk : k = 4 * q + r) (hr : r < 4) (hq : q < m) (v : Int) (hv : v = (ob b k q : Nat)) :
    ObRel w m b (wr.setCell ⟨w.heap.size, q, none⟩ (.int .u64 v)) k := by
  obtain ⟨ws, hl, hB, hb, hj⟩ := h
  refine ⟨ws.set q (ob b k q), by simp [hl], hB.setI _ _ _ (Nat.lt_trans (ob_lt _ h8 _ _) (by decide)) hv, hb.setCell (Nat.le_refl _) _, fun j hjm => ?_⟩
  by_cases hjq : j = q
  · subst hjq
    rw [getD_set_eq _ _ _ (by omega)]
  · rw [getD_set_ne _ _ _ _ (by omega), hj j hjm, ob_ne b k q r j hk hr hjq]
theorem ObRel.end_ {w wr : World} {m n : Nat} {b : List Nat} (h8 : allLt8 b) (h : ObRel w m b wr 0) (hn : b.length = n) (hm : n ≤ 4 * m) :
    ∃ ws, ws.length = m ∧ BlkW wr w.heap.size 37 ws ∧ D32 ws ∧ Below w.heap.size w wr ∧ val 4294967296 ws = val 256 b := by
  obtain ⟨ws, hl, hB, hb, hj⟩ := h
  refine ⟨ws, hl, hB, fun x hx => ?_, hb, ?_⟩
  · obtain ⟨i, hi, rfl⟩ := List.mem_iff_getElem.1 hx
    have := hj i (by omega)
    rw [List.getD_eq_getElem?_getD, List.getElem?_eq_getElem hi] at this
    have e : ws[i] = ob b 0 i := this
    rw [e]; exact ob_lt b h8 0 i
  · have e := pv_chunks 4 ws b m fun j hjm => by
      rw [hj j hjm]; unfold ob
      rw [show max 0 (4 * j) = 4 * j by omega, show 4 * j + 4 - 4 * j = 4 by omega]
    rw [pv_out 256 b _ (by omega)] at e
    rw [← e]
    unfold val
    rw [hl]

end Go.Proofs.YtjohbepdmnigcaaDoor
/-
  avouchlaw01.speaks: the document's example holds.
-/
namespace Go.Proofs.YtjohbepdmnigcaaDoor
open Go.RowKit
set_option linter.unusedVariables false

/-- A slice of one word that is built: it is read; nothing old has turned. -/
theorem built1 (w : World) (X : Int) (n : Nat) (hX : X = (n : Int)) (hn : n < 18446744073709551616) : Rd (w.alloc (.cells #[.int .u64 X] 37)) (w.alloc (.cells #[.int .u64 X] 37)).heap.size (some ⟨w.heap.size, 0, none⟩) 1 [n] ∧ Below w.heap.size w (w.alloc (.cells #[.int .u64 X] 37)) := by
  have h := rd_one w X n hX hn
  refine ⟨?_, (Below.refl _ _).alloc (Nat.le_refl _) _⟩
  have hz : (w.alloc (.cells #[.int .u64 X] 37)).heap.size = w.heap.size + 1 := by simp
  rw [hz]; exact h

theorem rt7 : Rt [7] := by unfold Rt; decide

theorem one_word {r : List Nat} {X : Nat} (h : r.length = 1) (hr : allLt r) (hv : val 18446744073709551616 r = X) : r = [X] := by
  match r, h with
  | [x], _ => rw [val_one] at hv; rw [hv]

theorem built2 (w : World) (X Y : Int) (m n : Nat) (hX : X = (m : Int)) (hY : Y = (n : Int)) (hm : m < 18446744073709551616) (hn : n < 18446744073709551616) (W : World) (hW : W = (w.alloc (.cells #[.int .u64 X] 37)).alloc (.cells #[.int .u64 Y] 37)) :
    Rd W W.heap.size (some ⟨w.heap.size, 0, none⟩) 1 [m] ∧ Rd W W.heap.size (some ⟨w.heap.size + 1, 0, none⟩) 1 [n] ∧ Below w.heap.size w W := by
  obtain ⟨r1, b1⟩ := built1 w X m hX hm
  obtain ⟨r2, b2⟩ := built1 (w.alloc (.cells #[.int .u64 X] 37)) Y n hY hn
  have hz : (w.alloc (.cells #[.int .u64 X] 37)).heap.size = w.heap.size + 1 := by simp
  rw [← hW] at r2 b2
  have r1' := r1.up b2 (Nat.le_refl _)
  rw [hz] at r2
  exact ⟨r1', r2, b1.trans (b2.mono b1.size)⟩

end Go.Proofs.YtjohbepdmnigcaaDoor
