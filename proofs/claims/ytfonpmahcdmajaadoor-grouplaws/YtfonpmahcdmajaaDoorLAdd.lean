/-
  limb.wordAt, limb.Add, limb.Sub: what each call does.
-/
import Derived.Test.YtfonpmahcdmajaaDoorPrims
namespace Go.Proofs.YtfonpmahcdmajaaDoor
open Go.RowKit
set_option linter.unusedVariables false

theorem wordAt_c (A : Option Addr) (n c B : Nat) (l : List Nat) (k : Nat) (w : World) (h : Rd w B A n l) :
    Calls Tryd.prog 111 #[.slice A n c, .int .i64 k] w fun e w' => e = .returned (.int .u64 (at64 l k)) ∧ w = w' := by
  by_cases hk : k < n
  · obtain ⟨b, off, rfl, hb, hc⟩ := h.at_ hk
    go_enter Tryd.func111, Tryd.ntmps111
    go_wp2
    go_ret
    exact ⟨rfl, rfl⟩
  · have e := at64_out (l := l) (i := k) (by rw [h.len]; omega)
    rw [e]
    go_enter Tryd.func111, Tryd.ntmps111
    go_wp2
    go_ret
    exact ⟨rfl, rfl⟩

/-- The relation of Add's loop. -/
def AddRel (w : World) (b n : Nat) (la lb : List Nat) (wr : World) (k c : Nat) : Prop :=
  ∃ ws : List Nat, ws.length = n ∧ BlkW wr b 22 ws ∧ Below b w wr ∧ c ≤ 1 ∧ pv 18446744073709551616 ws k + c * 18446744073709551616 ^ k = pv 18446744073709551616 la k + pv 18446744073709551616 lb k

theorem AddRel.step {w wr : World} {b n k c : Nat} {la lb : List Nat} (ha : allLt la) (hb : allLt lb) (h : AddRel w b n la lb wr k c) (hk : k < n) :
    AddRel w b n la lb (wr.setCell ⟨b, k, none⟩ (.int .u64 ((at64 la k + at64 lb k + (c : Int)) % 18446744073709551616))) (k + 1) ((la.getD k 0 + lb.getD k 0 + c) / 18446744073709551616) := by
  obtain ⟨ws, hl, hB, hb', hc, he⟩ := h
  have h1 := getD_lt _ (by decide) la ha k
  have h2 := getD_lt _ (by decide) lb hb k
  refine ⟨ws.set k ((la.getD k 0 + lb.getD k 0 + c) % 18446744073709551616), by simp [hl], hB.setI k _ _ (Nat.mod_lt _ (by decide)) ?_, hb'.setCell (Nat.le_refl _) _, by omega, ?_⟩
  · unfold at64; omega
  · rw [pv_set_succ _ _ _ _ (by omega), pv_succ, pv_succ, Nat.pow_succ]
    exact add_step _ _ _ _ c _ _ _ _ _ he (by rw [Nat.mul_comm]; exact Nat.mod_add_div _ _)

set_option maxHeartbeats 400000 in
theorem add_c (A B : Option Addr) (na nb ca cb : Nat) (la lb : List Nat) (w : World) (ha : Rd w w.heap.size A na la) (hb : Rd w w.heap.size B nb lb) (hna : na ≤ 100000) (hnb : nb ≤ 100000) :
    Calls Tryd.prog 105 #[.slice A na ca, .slice B nb cb] w fun e w' => ∃ c, e = .returned (.tuple #[.slice (some ⟨w.heap.size, 0, none⟩) (max na nb) (max na nb), .int .u64 ((c : Nat) : Int)]) ∧ AddRel w w.heap.size (max na nb) la lb w' (max na nb) c := by
  obtain ⟨n, hn⟩ : ∃ n : Nat, n = max na nb := ⟨_, rfl⟩
  rw [← hn]
  have hmax : max (na : Int) (nb : Int) = (n : Int) := by omega
  have hn1 : n ≤ 100000 := by omega
  have HN := hid hn
  clear hn
  have hmk := make64 n n (Nat.le_refl _) (by omega)
  go_enter Tryd.func105, Tryd.ntmps105
  go_wp2
  clear hmk hmax
  go_loopw [7, 17] (fun c i wr => ∃ k q : Nat, k ≤ n ∧ i = .int .i64 k ∧ c = .int .u64 q ∧ AddRel w w.heap.size n la lb wr k q) (fun _ i _ => n - (intOf i).toNat)
  case atStart =>
    refine ⟨0, 0, Nat.zero_le _, rfl, rfl, List.replicate n 0, by simp, blk_zeros w n, (Below.refl _ _).alloc (Nat.le_refl _) _, by omega, by simp [pv]⟩
  case round =>
    obtain ⟨k, q, hk, rfl, rfl, hrel⟩ := hrel
    obtain ⟨ws, hl, hB, hbl, hq, he⟩ := id hrel
    by_cases hlt : k < n
    · have hcell := hB.cell (i := k) (by omega)
      have hfz := hB.frozen k
      have h1 := at64_nonneg la k
      have h2 := at64_nonneg lb k
      have hst := hrel.step ha.lt hb.lt hlt
      have ra := ha.below hbl (Nat.le_refl _)
      have rb := hb.below hbl (Nat.le_refl _)
      have q0 : (0 : Int) ≤ q := by omega
      have q1 : (q : Int) ≤ 1 := by omega
      have HL := hid hl
      have HE := hid he
      clear hl he
      go_wp2_with fail
      refine (wordAt_c A na ca _ la k _ ra).mono ?_
      rintro e w' ⟨rfl, rfl⟩
      go_wp2_with fail
      refine (wordAt_c B nb cb _ lb k _ rb).mono ?_
      rintro e w' ⟨rfl, rfl⟩
      go_wp2_with (simp only [add64 _ _ _ h1 h2 q0 q1])
      go_roundw
      case rel =>
        exact ⟨k + 1, _, by omega, by go_num, (by unfold at64; go_num), hst⟩
      case measure => simp [intOf]; omega
    · have : k = n := by omega
      subst this
      go_wp2
      go_ret2
      exact ⟨q, rfl, hrel⟩
end Go.Proofs.YtfonpmahcdmajaaDoor
