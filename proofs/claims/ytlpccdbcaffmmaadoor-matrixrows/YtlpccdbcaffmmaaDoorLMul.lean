import Derived.Test.YtlpccdbcaffmmaaDoorRefD
import Derived.Shelf.Bits.Mul64
/-
  avouchref01.Sub: what the call does.
-/
namespace Go.Proofs.YtlpccdbcaffmmaaDoor
open Go.RowKit
set_option linter.unusedVariables false

theorem rsub_word (x y c : Nat) (hx : x < 4294967296) (hy : y < 4294967296) (hc : c ≤ 1) :
    (4294967296 + x - y - c) % 4294967296 + y + c = x + (1 - (4294967296 + x - y - c) / 4294967296) * 4294967296 ∧ 1 - (4294967296 + x - y - c) / 4294967296 ≤ 1 := by omega

set_option maxHeartbeats 400000 in
theorem refSub_c (A B : Option Addr) (na nb ca cb : Nat) (la lb : List Nat) (w : World) (ha : Rd w w.heap.size A na la) (hb : Rd w w.heap.size B nb lb) (da : D32 la) (db : D32 lb) (hna : na ≤ 10000)
    (hle : val 4294967296 lb ≤ val 4294967296 la) :
    Calls Tryd.prog 62 #[.slice A na ca, .slice B nb cb] w fun e w' => Dig w e w' (val 4294967296 la - val 4294967296 lb) := by
  have hmk := make64I 0 na (Nat.zero_le _) (by omega) 0 (na : Int) rfl rfl
  go_enter Tryd.func62, Tryd.ntmps62
  go_wp2
  clear hmk
  go_loopw [5, 6, 7] (fun v c i wr => ∃ k q : Nat, ∃ l : List Nat, k ≤ na ∧ i = .int .i64 k ∧ c = .int .u64 q ∧ Hid (l.length = k) ∧ OwnW wr w.heap.size v l ∧ Hid (D32 l) ∧ Below w.heap.size w wr ∧ q ≤ 1 ∧
    Hid (val 4294967296 l + pv 4294967296 lb k = pv 4294967296 la k + q * 4294967296 ^ k)) (fun _ _ i _ => na - (intOf i).toNat)
  case atStart => exact ⟨0, 0, [], Nat.zero_le _, rfl, rfl, rfl, own_made w _ (by omega), fun x hx => by simp at hx, (Below.refl _ _).alloc (Nat.le_refl _) _, by omega, by show _ = _; simp [pv, val]⟩
  case round =>
    obtain ⟨k, q, l, hk, rfl, rfl, HL, hown, HD, hbl, hq, HE⟩ := hrel
    by_cases hlt : k < na
    · have ra := ha.below hbl (Nat.le_refl _)
      have rb := hb.below hbl (Nat.le_refl _)
      obtain ⟨ba, oa, rfl, hba, hca⟩ := ra.at_ hlt
      have h1 := at64_nonneg la k
      have h1' := at64_d32 da k
      have h2 := at64_nonneg lb k
      have h2' := at64_d32 db k
      have hsz := hbl.size
      have hl' : l.length ≤ 100000 := by rw [HL.out]; omega
      have hi0 : (0 : Int) ≤ (k : Int) := by omega
      have hi1 : (k : Int) < (na : Int) := by omega
      obtain ⟨g1, g2⟩ := rsub_word (la.getD k 0) (lb.getD k 0) q (by unfold at64 at h1'; omega) (by unfold at64 at h2'; omega) hq
      have HG := hid g1
      have HG2 := hid g2
      have e1 : IntKind.u64.wrap (4294967296 + at64 la k) = 4294967296 + at64 la k := by rw [IntKind.wrap_u64]; omega
      have e2 : IntKind.u64.wrap (4294967296 + at64 la k - at64 lb k) = 4294967296 + at64 la k - at64 lb k := by rw [IntKind.wrap_u64]; omega
      have e3 : IntKind.u64.wrap (4294967296 + at64 la k - at64 lb k - q) = 4294967296 + at64 la k - at64 lb k - q := by rw [IntKind.wrap_u64]; omega
      have hs0 : 0 ≤ 4294967296 + at64 la k - at64 lb k - q := by omega
      clear g1 g2
      go_wp2
      go_quiet ((go_at_call 87; exact Calls.quiet_of_same (get_s B nb cb _ lb k _ (rb.drewN _))))
      clear e1 e2 e3
      have hown2 := hown.drewN nq
      have hbl2 := below_drewN hbl nq
      have hsz2 : w.heap.size ≤ (wr.drewN nq).heap.size := hsz
      generalize wr.drewN nq = w2 at hown2 hbl2 hsz2 ⊢
      have HS : Hid (4294967296 + at64 la k - at64 lb k - q = ((4294967296 + la.getD k 0 - lb.getD k 0 - q : Nat) : Int)) := by show _ = _; unfold at64 at h1 h1' h2 h2' ⊢; omega
      have hs1 : 4294967296 + at64 la k - at64 lb k - q < 8589934592 := by omega
      generalize 4294967296 + at64 la k - at64 lb k - (q : Int) = S at hs0 HS hs1 ⊢
      clear hown hbl hsz
      have hs2 : S / 4294967296 ≤ 1 := by omega
      have hs3 : 0 ≤ S / 4294967296 := by omega
      go_wp2_with (at_builtin; refine append_word rfl (.tmp 29) (.tmp 32) rfl w.heap.size _ l rfl hown2 _ ((4294967296 + la.getD k 0 - lb.getD k 0 - q) % 4294967296) ?e1 ?e2 rfl hl' hsz2 ?_)
      case e1 => rw [HS.out]; omega
      case e2 => omega
      intro v' w' hown' hb'
      have hb2 := hbl2.trans hb'
      have HL2 : Hid ((l ++ [(4294967296 + la.getD k 0 - lb.getD k 0 - q) % 4294967296]).length = k + 1) := by show _ = _; rw [List.length_append, HL.out]; rfl
      have HD2 : Hid (D32 (l ++ [(4294967296 + la.getD k 0 - lb.getD k 0 - q) % 4294967296])) := by
        intro x hx
        rcases List.mem_append.1 hx with h | h
        · exact HD.out x h
        · simp only [List.mem_cons, List.not_mem_nil, or_false] at h; omega
      have HE2 : Hid (val 4294967296 (l ++ [(4294967296 + la.getD k 0 - lb.getD k 0 - q) % 4294967296]) + pv 4294967296 lb (k + 1) = pv 4294967296 la (k + 1) + (1 - (4294967296 + la.getD k 0 - lb.getD k 0 - q) / 4294967296) * 4294967296 ^ (k + 1)) := by
        show _ = _
        rw [val_append, HL.out, pv_succ, pv_succ, Nat.pow_succ]
        exact sub_step _ _ _ _ q _ _ _ _ _ HE.out HG.out
      go_wp2
      go_roundw
      case rel => exact ⟨k + 1, _, _, by omega, by go_num, (by have hN : 4294967296 + la.getD k 0 - lb.getD k 0 - q < 8589934592 := (by unfold at64 at h1'; omega); rw [HS.out]; go_num), HL2, hown', HD2, hb2, HG2.out, HE2⟩
      case measure => simp [intOf]; omega
    · have hkn : k = na := by omega
      have HV : Hid (val 4294967296 l = val 4294967296 la - val 4294967296 lb) := by
        show _ = _
        have h := HE.out
        have b1 := val_lt _ (by decide) l HD.out
        have b2 := val_lt _ (by decide) la da
        rw [HL.out] at b1
        rw [ha.len] at b2
        have hl2 : la.length = na := ha.len
        rw [pv_mod _ (by decide) lb db, hkn, pv_out _ la na (by omega), Nat.mod_eq_of_lt (by omega)] at h
        rw [hkn] at b1
        rcases Nat.eq_zero_or_pos q with h0 | h0
        · subst h0; rw [Nat.zero_mul] at h; omega
        · have : q = 1 := by omega
          subst this; rw [Nat.one_mul] at h; omega
      have hl' : l.length ≤ 100000 := by rw [HL.out]; omega
      clear hkn
      go_wp2_with fail
      refine (trim_own (w := w) hown HD.out hbl hl').mono ?_
      rintro e w' hD
      rw [HV.out] at hD
      obtain ⟨A', c', l', rfl, r'⟩ := hD
      have R := hid r'
      clear r'
      go_wp2
      go_ret
      exact ⟨A', c', l', rfl, R.out⟩
end Go.Proofs.YtlpccdbcaffmmaaDoor
/-
  bits.Mul64, limb.addMultiple, limb.subMultiple: what each call does.
-/
namespace Go.Proofs.YtlpccdbcaffmmaaDoor
open Go.RowKit
set_option linter.unusedVariables false

/-- The high and the low word of a product. -/
def mulHi (x y : Int) : Int := x * y / 18446744073709551616
def mulLo (x y : Int) : Int := x * y % 18446744073709551616

set_option maxHeartbeats 1000000 in
theorem mul64_n (x y : Nat) (hx : x < 18446744073709551616) (hy : y < 18446744073709551616) (w : World) :
    Calls Tryd.prog 97 #[.int .u64 x, .int .u64 y] w fun e w' => e = .returned (.tuple #[.int .u64 ((x * y / 18446744073709551616 : Nat) : Int), .int .u64 ((x * y % 18446744073709551616 : Nat) : Int)]) ∧ w = w' := by
  obtain ⟨bd, bt, bw, hhi⟩ := Lib.mul64_hi x y hx hy
  have ba := Lib.half_mul_le (a := x / 4294967296) (b := y / 4294967296) (by omega) (by omega)
  have bb := Lib.half_mul_le (a := x / 4294967296) (b := y % 4294967296) (by omega) (by omega)
  have bc := Lib.half_mul_le (a := x % 4294967296) (b := y / 4294967296) (by omega) (by omega)
  have ba' : x / 4294967296 * (y / 4294967296) < 18446744073709551616 := by omega
  have bb' : x / 4294967296 * (y % 4294967296) < 18446744073709551616 := by omega
  have bc' : x % 4294967296 * (y / 4294967296) < 18446744073709551616 := by omega
  have bh1 : x / 4294967296 * (y / 4294967296) + (x / 4294967296 * (y % 4294967296) + x % 4294967296 * (y % 4294967296) / 4294967296) / 4294967296 < 18446744073709551616 := by omega
  have bh : x / 4294967296 * (y / 4294967296) + (x / 4294967296 * (y % 4294967296) + x % 4294967296 * (y % 4294967296) / 4294967296) / 4294967296 + ((x / 4294967296 * (y % 4294967296) + x % 4294967296 * (y % 4294967296) / 4294967296) % 4294967296 + x % 4294967296 * (y / 4294967296)) / 4294967296 < 18446744073709551616 := by omega
  go_enter Tryd.func97, Tryd.ntmps97
  go_wp2
  simp only [Mul64.maskN x hx, Mul64.maskN y hy, Mul64.divN, Mul64.mulN, Mul64.addN, Mul64.wrapN _ bd, Mul64.wrapN _ bb', Mul64.wrapN _ bt, Mul64.maskN _ bt, Mul64.wrapN _ bc', Mul64.wrapN _ bw, Mul64.wrapN _ ba', Mul64.wrapN _ bh1, Mul64.wrapN _ bh, Mul64.wrapM (x * y)]
  rw [hhi]
  go_ret2
  exact ⟨rfl, rfl⟩
theorem mul64_c (x y : Int) (hx0 : 0 ≤ x) (hx : x < 18446744073709551616) (hy0 : 0 ≤ y) (hy : y < 18446744073709551616) (w : World) :
    Calls Tryd.prog 97 #[.int .u64 x, .int .u64 y] w fun e w' => e = .returned (.tuple #[.int .u64 (mulHi x y), .int .u64 (mulLo x y)]) ∧ w = w' := by
  obtain ⟨x, rfl⟩ := Int.eq_ofNat_of_zero_le hx0
  obtain ⟨y, rfl⟩ := Int.eq_ofNat_of_zero_le hy0
  refine (mul64_n x y (by omega) (by omega) w).mono ?_
  rintro e w' ⟨rfl, rfl⟩
  exact ⟨rfl, rfl⟩

theorem mul_bound (x y : Nat) (hx : x < 18446744073709551616) (hy : y < 18446744073709551616) : x * y ≤ 340282366920938463426481119284349108225 :=
  Nat.mul_le_mul (Nat.le_of_lt_succ hx) (Nat.le_of_lt_succ hy)
theorem mulHi_bd (x y : Int) (hx0 : 0 ≤ x) (hx : x < 18446744073709551616) (hy0 : 0 ≤ y) (hy : y < 18446744073709551616) : 0 ≤ mulHi x y ∧ mulHi x y ≤ 18446744073709551614 := by
  obtain ⟨x, rfl⟩ := Int.eq_ofNat_of_zero_le hx0
  obtain ⟨y, rfl⟩ := Int.eq_ofNat_of_zero_le hy0
  have := mul_bound x y (by omega) (by omega)
  unfold mulHi
  rw [← Int.natCast_mul]
  omega
theorem mulLo_bd (x y : Int) : 0 ≤ mulLo x y ∧ mulLo x y < 18446744073709551616 := by unfold mulLo; omega

theorem getD_drop (l : List Nat) (o k : Nat) : (l.drop o).getD k 0 = l.getD (o + k) 0 := by simp [List.getD_eq_getElem?_getD]
theorem pv_drop_set (W : Nat) (ws : List Nat) (o k s : Nat) (h : o + k < ws.length) : pv W ((ws.set (o + k) s).drop o) (k + 1) = pv W (ws.drop o) k + s * W ^ k := by
  rw [pv_succ, getD_drop, getD_set_eq _ _ _ h]
  congr 1
  exact pv_congr W _ _ k fun i hi => by rw [getD_drop, getD_drop, getD_set_ne _ _ _ _ (by omega)]

/-- The relation of addMultiple's loop. -/
def AMRel (w : World) (b o n : Nat) (ws0 lb : List Nat) (f : Nat) (wr : World) (k c : Nat) : Prop :=
  ∃ ws : List Nat, ws.length = ws0.length ∧ BlkW wr b 27 ws ∧ Below b w wr ∧ (∀ j, (j < o ∨ o + k ≤ j) → ws.getD j 0 = ws0.getD j 0) ∧ c < 18446744073709551616 ∧
    pv 18446744073709551616 (ws.drop o) k + c * 18446744073709551616 ^ k = pv 18446744073709551616 (ws0.drop o) k + f * pv 18446744073709551616 lb k

theorem am_step (W p q r c s c' x y f P : Nat) (h : r + c * P = p + f * q) (e : s + c' * W = x + y * f + c) : (r + s * P) + c' * (P * W) = (p + x * P) + f * (q + y * P) := by
  have : (s + c' * W) * P = (x + y * f + c) * P := by rw [e]
  grind

theorem am_word (o p c : Nat) (ho : o < 18446744073709551616) (hp : p ≤ 340282366920938463426481119284349108225) (hc : c < 18446744073709551616) :
    p / 18446744073709551616 + (p % 18446744073709551616 + c) / 18446744073709551616 + (o + (p % 18446744073709551616 + c) % 18446744073709551616) / 18446744073709551616 < 18446744073709551616 ∧
    (o + (p % 18446744073709551616 + c) % 18446744073709551616) % 18446744073709551616 + (p / 18446744073709551616 + (p % 18446744073709551616 + c) / 18446744073709551616 + (o + (p % 18446744073709551616 + c) % 18446744073709551616) / 18446744073709551616) * 18446744073709551616 = o + p + c := by
  omega

/-- The word that is stored, and the carry that goes on. -/
def amS (o x f c : Int) : Int := (o + (mulLo x f + c)) % 18446744073709551616
def amC (o x f c : Int) : Int := mulHi x f + (mulLo x f + c) / 18446744073709551616 + (o + (mulLo x f + c) % 18446744073709551616) / 18446744073709551616

theorem AMRel.step {w wr : World} {b o n k c f : Nat} {ws0 lb ws : List Nat} (hb : allLt lb) (h0 : allLt ws0) (hf : f < 18446744073709551616) (h : AMRel w b o n ws0 lb f wr k c) (hk : o + k < ws0.length) :
    ∃ c' : Nat, (c' : Int) = amC (at64 ws0 (o + k)) (at64 lb k) f c ∧ AMRel w b o n ws0 lb f (wr.setCell ⟨b, o + k, none⟩ (.int .u64 (amS (at64 ws0 (o + k)) (at64 lb k) f c))) (k + 1) c' := by
  obtain ⟨ws, hl, hB, hb', hj, hc, he⟩ := h
  have h1 := getD_lt _ (by decide) ws0 h0 (o + k)
  have h2 := getD_lt _ (by decide) lb hb k
  have h3 := mul_bound _ _ h2 hf
  obtain ⟨g1, g2⟩ := am_word _ _ c h1 h3 hc
  refine ⟨_, ?_, ws.set (o + k) ((ws0.getD (o + k) 0 + (lb.getD k 0 * f % 18446744073709551616 + c) % 18446744073709551616) % 18446744073709551616), by simp [hl], hB.setI _ _ _ (Nat.mod_lt _ (by decide)) ?_, hb'.setCell (Nat.le_refl _) _, ?_, g1, ?_⟩
  · unfold amC mulHi mulLo at64
    rw [← Int.natCast_mul]; omega
  · unfold amS mulLo at64
    rw [← Int.natCast_mul]; omega
  · intro j hjj
    rw [getD_set_ne _ _ _ _ (by omega)]
    exact hj j (by omega)
  · rw [pv_drop_set _ _ _ _ _ (by omega), pv_succ, pv_succ, Nat.pow_succ, getD_drop]
    exact am_step _ _ _ _ c _ _ _ _ _ _ he g2

set_option maxHeartbeats 1000000 in
theorem addMultiple_c (A Bb : Option Addr) (b o n ca cb : Nat) (ws0 lb : List Nat) (f : Nat) (w : World) (hA : 0 < n → A = some ⟨b, o, none⟩) (hw : BlkW w b 27 ws0) (ho : o + n ≤ ws0.length)
    (hb : Rd w b Bb n lb) (hf : f < 18446744073709551616) (hn : n ≤ 100000) :
    Calls Tryd.prog 104 #[.slice A n ca, .slice Bb n cb, .int .u64 f] w fun e w' => ∃ c : Nat, e = .returned (.int .u64 c) ∧ AMRel w b o n ws0 lb f w' n c := by
  have hf0 : (0 : Int) ≤ f := by omega
  have hf1 : (f : Int) < 18446744073709551616 := by omega
  go_enter Tryd.func104, Tryd.ntmps104
  go_wp2
  go_loopw [7, 15] (fun c i wr => ∃ k q : Nat, k ≤ n ∧ i = .int .i64 k ∧ c = .int .u64 q ∧ AMRel w b o n ws0 lb f wr k q) (fun _ i _ => n - (intOf i).toNat)
  case atStart =>
    exact ⟨0, 0, Nat.zero_le _, rfl, rfl, ws0, rfl, hw, Below.refl _ _, fun _ _ => rfl, by omega, by simp [pv]⟩
  case round =>
    obtain ⟨k, q, hk, rfl, rfl, hrel⟩ := hrel
    by_cases hlt : k < n
    · have hst := AMRel.step (n := n) (ws := ws0) hb.lt hw.lt hf hrel (by omega)
      obtain ⟨ws, hl, hB, hbl, hj, hq, he⟩ := hrel
      have rb := hb.below hbl (Nat.le_refl _)
      obtain ⟨bb, ob, rfl, hbb, hcb⟩ := rb.at_ hlt
      obtain rfl := hA (by omega)
      have hcell := hB.cell (i := o + k) (by omega)
      have hfz := hB.frozen (o + k)
      have hgd : at64 ws (o + k) = at64 ws0 (o + k) := by unfold at64; rw [hj _ (Or.inr (Nat.le_refl _))]
      rw [hgd] at hcell
      have h1 := at64_nonneg lb k
      have h1' := at64_lt hb.lt k
      have h2 := at64_nonneg ws0 (o + k)
      have h2' := at64_lt hw.lt (o + k)
      have q0 : (0 : Int) ≤ q := by omega
      have q1 : (q : Int) < 18446744073709551616 := by omega
      obtain ⟨l0, l1⟩ := mulLo_bd (at64 lb k) f
      obtain ⟨m0, m1⟩ := mulHi_bd (at64 lb k) f h1 h1' hf0 hf1
      clear hl hj he hgd
      go_wp2_with fail
      refine (mul64_c _ _ h1 h1' hf0 hf1 _).mono ?_
      rintro e w' ⟨rfl, rfl⟩
      go_wp2_with (first | simp only [add64_0 _ _ l0 q0] | simp only [add64_0 _ _ h2 (show (0:Int) ≤ (mulLo (at64 lb k) f + q) % 18446744073709551616 by omega)])
      go_roundw
      case rel =>
        obtain ⟨c', e', r'⟩ := hst
        refine ⟨k + 1, c', by omega, by go_num, ?_, r'⟩
        have : c' < 18446744073709551616 := (by obtain ⟨_, _, _, _, _, h, _⟩ := r'; exact h)
        rw [IntKind.wrap_u64, e']
        have e2 : amC (at64 ws0 (o + k)) (at64 lb k) f q % 18446744073709551616 = amC (at64 ws0 (o + k)) (at64 lb k) f q := by omega
        rw [← e2]; rfl
      case measure => simp [intOf]; omega
    · have : k = n := by omega
      subst this
      go_wp2
      go_ret
      exact ⟨q, rfl, hrel⟩
end Go.Proofs.YtlpccdbcaffmmaaDoor
