/-
  Numbers as bytes, the lowest first: item.appendNumber, item.number, avouchref12.Number, avouchref12.of.
-/
import Derived.Test.YtokfldecjknamaaStr0
import Derived.Test.YtokfldecjknamaaNum
namespace Go.Proofs.Ytokfldecjknamaa
open Go.RowKit
set_option linter.unusedVariables false

/-- So many bytes of a number, the lowest first. -/
def le : Nat → Nat → List Nat
  | 0, _ => []
  | w + 1, n => n % 256 :: le w (n / 256)
theorem le_len : ∀ w n, (le w n).length = w
  | 0, _ => rfl
  | w + 1, n => by simp [le, le_len w]
theorem le_lt : ∀ w n, allLt8 (le w n)
  | 0, _ => by intro x hx; simp [le] at hx
  | w + 1, n => by
    intro x hx
    simp only [le, List.mem_cons] at hx
    rcases hx with rfl | hx
    · omega
    · exact le_lt w _ x hx
theorem le_succ : ∀ w n, le (w + 1) n = le w n ++ [n / 256 ^ w % 256]
  | 0, n => by simp [le]
  | w + 1, n => by
    rw [show le (w + 1 + 1) n = n % 256 :: le (w + 1) (n / 256) from rfl, le_succ w, show le (w + 1) n = n % 256 :: le w (n / 256) from rfl, Nat.div_div_eq_div_mul, Nat.pow_succ, Nat.mul_comm (256 ^ w)]
    rfl
theorem val_le : ∀ w n, val 256 (le w n) = n % 256 ^ w
  | 0, n => by simp [le, val, pv, Nat.mod_one]
  | w + 1, n => by
    rw [le_succ, val_append, val_le w, le_len, Nat.pow_succ, Nat.mod_mul, Nat.mul_comm (256 ^ w)]
theorem le_val : ∀ (l : List Nat), allLt8 l → le l.length (val 256 l) = l
  | [], _ => rfl
  | x :: l, h => by
    have hx : x < 256 := h x (by simp)
    have e : val 256 (x :: l) = x + 256 * val 256 l := val_consG 256 x l
    rw [show (x :: l).length = l.length + 1 from rfl, e]
    show (x + 256 * val 256 l) % 256 :: le l.length ((x + 256 * val 256 l) / 256) = x :: l
    rw [show (x + 256 * val 256 l) % 256 = x by omega, show (x + 256 * val 256 l) / 256 = val 256 l by omega, le_val l fun y hy => h y (by simp [hy])]

set_option maxHeartbeats 1000000 in
theorem refNumber_c (N width : Nat) (w : World) (hN : N < 9223372036854775808) (hw : width ≤ 8) :
    Calls Try.prog 34 #[.int .i64 (N : Int), .int .i64 (width : Int)] w fun e w' => ∃ v, e = .returned v ∧ OwnB w' w.heap.size v (le width N) ∧ Below w.heap.size w w' := by
  go_enter Try.func34, Try.ntmps34
  go_wp2
  go_loopw [0, 5, 6] (fun n v i wr => ∃ j : Nat, ∃ M : Nat, ∃ r : List Nat, j ≤ width ∧ i = .int .i64 j ∧ n = .int .i64 (M : Int) ∧ Hid (M = N / 256 ^ j) ∧ M < 9223372036854775808 ∧ Hid (r = le j N) ∧ OwnB wr w.heap.size v r ∧ Below w.heap.size w wr) (fun _ _ i _ => width - (intOf i).toNat)
  case atStart => exact ⟨0, N, [], Nat.zero_le _, rfl, rfl, by show _ = _; rw [Nat.pow_zero, Nat.div_one], hN, rfl, ownB_empty w, (Below.refl _ _).alloc (Nat.le_refl _) _⟩
  case round =>
    obtain ⟨j, M, r, hj, rfl, rfl, HM, hM, HR, hown, hbl⟩ := hrel
    by_cases hlt : j < width
    · have hsz := hbl.size
      have hl' : r.length ≤ 100000 := by rw [HR.out, le_len]; omega
      have x0 : (0 : Int) ≤ (M : Int) := by omega
      go_wp2_with (at_builtin; refine append_byte rfl (.tmp 13) (.tmp 17) rfl w.heap.size _ r rfl hown _ (M % 256) ?e1 ?e2 rfl hl' hsz ?_)
      case e1 => omega
      case e2 => exact Nat.mod_lt _ (by decide)
      intro v' w' hown' hb'
      have hb2 := hbl.trans hb'
      go_wp2
      go_roundw
      case rel => exact ⟨j + 1, M / 256, _, by omega, by go_num, by go_num, by show _ = _; rw [HM.out, Nat.pow_succ, Nat.div_div_eq_div_mul], by omega, by show _ = _; rw [HR.out, HM.out, le_succ], hown', hb2⟩
      case measure => simp [intOf]; omega
    · obtain rfl : j = width := by omega
      go_wp2
      go_ret
      exact ⟨_, rfl, by rw [← HR.out]; exact hown, hbl⟩

set_option maxHeartbeats 1000000 in
theorem appendNumber_c (N size : Nat) (v : Value) (l : List Nat) (base : Nat) (w : World) (hN : N < 9223372036854775808) (hw : size ≤ 8) (hl : l.length ≤ 90000) (hown : OwnB w base v l) (hbase : base ≤ w.heap.size) :
    Calls Try.prog 42 #[v, .int .i64 (N : Int), .int .i64 (size : Int)] w fun e w' => ∃ v', e = .returned v' ∧ OwnB w' base v' (l ++ le size N) ∧ Below base w w' := by
  go_enter Try.func42, Try.ntmps42
  go_wp2
  go_loopw [0, 1, 8] (fun u n i wr => ∃ j : Nat, ∃ M : Nat, ∃ r : List Nat, j ≤ size ∧ i = .int .i64 j ∧ n = .int .i64 (M : Int) ∧ Hid (M = N / 256 ^ j) ∧ M < 9223372036854775808 ∧ Hid (r = l ++ le j N) ∧ OwnB wr base u r ∧ Below base w wr) (fun _ _ i _ => size - (intOf i).toNat)
  case atStart => exact ⟨0, N, l, Nat.zero_le _, rfl, rfl, by show _ = _; rw [Nat.pow_zero, Nat.div_one], hN, by show _ = _; rw [show le 0 N = [] from rfl, List.append_nil], hown, Below.refl _ _⟩
  case round =>
    obtain ⟨j, M, r, hj, rfl, rfl, HM, hM, HR, hown, hbl⟩ := hrel
    by_cases hlt : j < size
    · have hsz := Nat.le_trans hbase hbl.size
      have hl' : r.length ≤ 100000 := by rw [HR.out, List.length_append, le_len]; omega
      have x0 : (0 : Int) ≤ (M : Int) := by omega
      go_wp2_with (at_builtin; refine append_byte rfl (.tmp 10) (.tmp 13) rfl base _ r rfl hown _ (M % 256) ?e1 ?e2 rfl hl' hsz ?_)
      case e1 => omega
      case e2 => exact Nat.mod_lt _ (by decide)
      intro v' w' hown' hb'
      have hb2 := hbl.trans hb'
      go_wp2
      go_roundw
      case rel => exact ⟨j + 1, M / 256, _, by omega, by go_num, by go_num, by show _ = _; rw [HM.out, Nat.pow_succ, Nat.div_div_eq_div_mul], by omega, by show _ = _; rw [HR.out, HM.out, le_succ, List.append_assoc], hown', hb2⟩
      case measure => simp [intOf]; omega
    · obtain rfl : j = size := by omega
      go_wp2
      go_ret
      exact ⟨_, rfl, by rw [← HR.out]; exact hown, hbl⟩

theorem val_take_succ (l : List Nat) {k : Nat} (h : k < l.length) : val 256 (l.take (k + 1)) = val 256 (l.take k) + l.getD k 0 * 256 ^ k := by
  rw [List.take_add_one, List.getElem?_eq_getElem h, List.getD_eq_getElem?_getD, List.getElem?_eq_getElem h]
  show val 256 (l.take k ++ [l[k]]) = _
  rw [val_append, List.length_take, Nat.min_eq_left (by omega)]
  rfl
theorem val_drop_pred (l : List Nat) {k : Nat} (h : k < l.length) : val 256 (l.drop k) = val 256 (l.drop (k + 1)) * 256 + l.getD k 0 := by
  rw [List.drop_eq_getElem_cons h, val_consG, List.getD_eq_getElem?_getD, List.getElem?_eq_getElem h, Nat.mul_comm, Nat.add_comm]
  rfl
theorem val_lt8 {l : List Nat} (h : allLt8 l) : val 256 l < 256 ^ l.length := pv_lt 256 (by decide) l h l.length
theorem allLt8.take {l : List Nat} (h : allLt8 l) (k : Nat) : allLt8 (l.take k) := fun x hx => h x (List.mem_of_mem_take hx)
theorem allLt8.drop {l : List Nat} (h : allLt8 l) (k : Nat) : allLt8 (l.drop k) := fun x hx => h x (List.mem_of_mem_drop hx)
theorem val_small {l : List Nat} (h : allLt8 l) (hl : l.length ≤ 4) : val 256 l < 4294967296 :=
  Nat.lt_of_lt_of_le (val_lt8 h) (Nat.pow_le_pow_right (by decide) hl : 256 ^ l.length ≤ 256 ^ 4)

set_option maxHeartbeats 1000000 in
theorem refOf_c (A : Option Addr) (n c : Nat) (l : List Nat) (w : World) (ha : Rd8 w w.heap.size A n l) (hn : n ≤ 4) :
    Calls Try.prog 40 #[.slice A n c] w fun e w' => e = .returned (.int .i64 (val 256 l : Nat)) ∧ w' = w := by
  have hln := ha.len
  go_enter Try.func40, Try.ntmps40
  go_wp2
  go_loop [3, 4] (fun x i => ∃ k : Nat, ∃ X : Nat, k ≤ n ∧ i = .int .i64 ((k : Int) - 1) ∧ x = .int .i64 (X : Int) ∧ Hid (X = val 256 (l.drop k))) (fun _ i => (intOf i + 1).toNat)
  case atStart => exact ⟨n, 0, Nat.le_refl _, by go_num, rfl, by show _ = _; rw [List.drop_eq_nil_of_le (by omega)]; rfl⟩
  case round =>
    obtain ⟨k, X, hk, rfl, rfl, HX⟩ := hrel
    rcases k with _ | k
    · go_wp2
      go_ret
      exact ⟨by rw [HX.out]; rfl, rfl⟩
    · have e1 : (((k + 1 : Nat) : Int) - 1) = (k : Int) := by omega
      rw [e1]
      clear e1
      have hlt : k < n := by omega
      obtain ⟨ba, oa, rfl, hba, hca⟩ := ha.at_ hlt
      have hX : X < 4294967296 := by rw [HX.out]; exact val_small (ha.lt.drop (k + 1)) (by rw [List.length_drop]; omega)
      have hE : Hid (X * 256 + l.getD k 0 = val 256 (l.drop k)) := by show _ = _; rw [HX.out]; exact (val_drop_pred l (by omega)).symm
      have h8 := at64_lt8 ha.lt k
      have x0 := at64_nonneg l k
      have i0 : (0 : Int) ≤ (k : Int) := by omega
      have i1 : (k : Int) < (n : Int) := by omega
      clear HX
      go_wp2
      go_round
      case rel => exact ⟨k, _, by omega, by go_num, by rw [← hE.out]; exact congrArg (Value.int .i64) (by unfold at64; omega), rfl⟩
      case measure => simp [intOf]

theorem bits_or_i64_nat (a b : Nat) (ha : a < 9223372036854775808) (hb : b < 9223372036854775808) : bits .or .i64 (a : Int) (b : Int) = ((a ||| b : Nat) : Int) := by
  have hx : a ||| b < 2 ^ 63 := Nat.or_lt_two_pow (by omega) (by omega)
  have h1 : (BitVec.ofInt 64 (a : Int)).toNat = a := by
    rw [BitVec.ofInt_natCast, BitVec.toNat_ofNat]; exact Nat.mod_eq_of_lt (by omega)
  have h2 : (BitVec.ofInt 64 (b : Int)).toNat = b := by
    rw [BitVec.ofInt_natCast, BitVec.toNat_ofNat]; exact Nat.mod_eq_of_lt (by omega)
  show IntKind.i64.wrap ((BitVec.ofInt 64 (a : Int) ||| BitVec.ofInt 64 (b : Int)).toNat : Int) = _
  rw [BitVec.toNat_or, h1, h2, IntKind.wrap_i64]
  omega
theorem or_byteI (X y k : Nat) (hX : X < 256 ^ k) (hy : y < 256) (hk : k < 4) : bits .or .i64 (X : Int) (wrap64 (wrap64 (y : Int) * 2 ^ (8 * k))) = ((X + y * 256 ^ k : Nat) : Int) := by
  have h2 : 256 ^ k ≤ 256 ^ 3 := Nat.pow_le_pow_right (by decide) (by omega)
  have h3 : y * 256 ^ k ≤ 255 * 256 ^ 3 := Nat.mul_le_mul (by omega) h2
  have e0 : wrap64 (y : Int) = (y : Int) := by unfold wrap64; omega
  have e1 : (2 : Int) ^ (8 * k) = ((256 ^ k : Nat) : Int) := by rw [Int.pow_mul]; simp
  have e2 : (y : Int) * ((256 ^ k : Nat) : Int) = ((y * 256 ^ k : Nat) : Int) := by simp
  have e3 : wrap64 ((y * 256 ^ k : Nat) : Int) = ((y * 256 ^ k : Nat) : Int) := by unfold wrap64; omega
  have e4 : 256 ^ k = 2 ^ (8 * k) := by rw [Nat.pow_mul]
  rw [e0, e1, e2, e3, bits_or_i64_nat _ _ (by omega) (by omega)]
  rw [e4] at hX ⊢
  rw [Nat.or_comm, ← Nat.shiftLeft_eq, ← Nat.shiftLeft_add_eq_or_of_lt hX, Nat.add_comm]

set_option maxHeartbeats 1000000 in
theorem number_c (A : Option Addr) (n c : Nat) (l : List Nat) (w : World) (ha : Rd8 w w.heap.size A n l) (hn : n ≤ 4) :
    Calls Try.prog 49 #[.slice A n c] w fun e w' => e = .returned (.int .i64 (val 256 l : Nat)) ∧ w' = w := by
  have hln := ha.len
  go_enter Try.func49, Try.ntmps49
  go_wp2
  go_loop [3, 4, 5, 8] (fun x _ _ i => ∃ k : Nat, ∃ X : Nat, k ≤ n ∧ i = .int .i64 (k : Int) ∧ x = .int .i64 (X : Int) ∧ Hid (X = val 256 (l.take k))) (fun _ _ _ i => n - (intOf i).toNat)
  case atStart => exact ⟨0, 0, Nat.zero_le _, rfl, rfl, rfl⟩
  case round =>
    obtain ⟨k, X, hk, rfl, rfl, HX⟩ := hrel
    by_cases hlt : k < n
    · obtain ⟨ba, oa, rfl, hba, hca⟩ := ha.at_ hlt
      have h8 := getD_lt _ (by decide) l ha.lt k
      have hX : X < 256 ^ k := by
        have := val_lt8 (ha.lt.take k)
        rw [List.length_take, Nat.min_eq_left (by omega)] at this
        rw [HX.out]; exact this
      have hE : Hid (X + l.getD k 0 * 256 ^ k = val 256 (l.take (k + 1))) := by show _ = _; rw [HX.out, val_take_succ l (by omega)]
      have hO := hid (or_byteI X (l.getD k 0) k hX h8 (by omega))
      clear HX hX h8
      go_wp2
      go_round
      case rel => exact ⟨k + 1, _, by omega, by go_num, by rw [← hE.out]; exact congrArg (Value.int .i64) hO.out, rfl⟩
      case measure => simp [intOf]; omega
    · obtain rfl : k = n := by omega
      go_wp2
      go_ret
      exact ⟨by rw [HX.out, List.take_of_length_le (by omega)]; rfl, rfl⟩
end Go.Proofs.Ytokfldecjknamaa
