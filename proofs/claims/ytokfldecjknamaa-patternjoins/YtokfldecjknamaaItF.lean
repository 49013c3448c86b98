/-
  item.cut, item.copyOf, item.readHead: what each call does.
-/
import Derived.Test.YtokfldecjknamaaItE
import Derived.StillTailTactics
import Derived.Deep.QuietTactic
import Derived.BigQuiet
namespace Go.Proofs.Ytokfldecjknamaa
open Go.RowKit
set_option linter.unusedVariables false
set_option linter.unusedSimpArgs false

theorem icut_n (A : Option Addr) (n c size : Nat) (w : World) (hs : n < size) : Calls Try.prog 43 #[.slice A n c, .int .i64 (size : Int)] w fun e w' => e = .returned (.tuple #[.slice none 0 0, .slice none 0 0, .bool false]) ∧ w' = w := by
  have h1 : (n : Int) < (size : Int) := by omega
  go_enter Try.func43, Try.ntmps43
  go_wp2
  go_ret3
  exact ⟨rfl, rfl⟩
theorem icut_y {B : Nat} (A : Option Addr) (n c size : Nat) (l : List Nat) (w : World) (ha : Rd8 w B A n l) (hs : size ≤ n) (hc : n ≤ c) : ∃ A1 A2, Rd8 w B A1 size (l.take size) ∧ Rd8 w B A2 (n - size) (l.drop size) ∧
    Calls Try.prog 43 #[.slice A n c, .int .i64 (size : Int)] w fun e w' => e = .returned (.tuple #[.slice A1 size size, .slice A2 (n - size) (c - size), .bool true]) ∧ Below w.heap.size w w' := by
  obtain ⟨A1, s1, r1⟩ := cut_hm ha c size hs hc (size : Int) rfl
  obtain ⟨A2, s2, r2⟩ := cut_l ha c size hs hc (size : Int) rfl
  refine ⟨A1, A2, r1, r2, ?_⟩
  have h1 : ¬ (n : Int) < (size : Int) := by omega
  go_enter Try.func43, Try.ntmps43
  go_wp2
  go_quiet (fail)
  go_wp2
  go_ret3
  exact ⟨rfl, below_drewN (Below.refl _ _) _⟩
set_option maxHeartbeats 1000000 in
theorem copyOf_c {B : Nat} (A : Option Addr) (n c : Nat) (l : List Nat) (w : World) (ha : Rd8 w B A n l) (hn : n ≤ 1000000) :
    Calls Try.prog 45 #[.slice A n c] w fun e w' => ∃ A3, e = .returned (.slice A3 n n) ∧ Rd8 w' w'.heap.size A3 n l ∧ (∀ x, A3 = some x → w.heap.size ≤ x.block) ∧ Below w.heap.size w w' := by
  have hln := ha.len
  go_enter Try.func45, Try.ntmps45
  go_wp2_with (at_builtin; refine append_rd rfl (.const (.slice none 0 0)) (.tmp 4) rfl w.heap.size (.slice none 0 0) [] rfl (ownB_nil _ _) A n c B l ha rfl (by simp; omega) (Nat.le_refl _) ?_)
  intro v1 w1 O1 b1
  obtain ⟨A1, c1, rfl, hc1, r1, p1⟩ := O1.rdB
  rw [hln] at hc1 r1 ⊢
  obtain ⟨A3, s3, r3, p3⟩ := cut_hmB r1 c1 n (Nat.le_refl _) hc1 (n : Int) rfl
  rw [List.take_of_length_le (by omega)] at r3
  have P := hid (fun x hx => by obtain ⟨y, e1, e2⟩ := p3 x hx; rw [e2]; exact p1 y e1 : ∀ x, A3 = some x → w.heap.size ≤ x.block)
  clear O1 r1 p1 p3
  go_wp2
  go_ret
  exact ⟨A3, rfl, r3, P.out, b1⟩
theorem sizeIt : (Try.prog.info? 52).map (·.size) = some 4 := by kernel_rfl
theorem oneIt (a b c : Int) (s : ByteArray) : ([Value.int .i64 a, .int .i64 b, .int .i64 c, .string s].toArray.all fun x => x.oneCell') = true := by simp [Value.oneCell']
theorem sizeRt : (Try.prog.info? 25).map (·.size) = some 4 := by kernel_rfl
/-- What an item's head tells: kind, type, count, and how many bytes the label has. -/
def hdk (l : List Nat) : Nat := l.getD 0 0
def hdt (l : List Nat) : Nat := l.getD 1 0
def hdc (l : List Nat) : Nat := val 256 ((l.drop 2).take 4)
def hdl (l : List Nat) : Nat := val 256 ((l.drop 6).take 2)
set_option maxRecDepth 100000 in
set_option maxHeartbeats 1000000 in
theorem readHead_c (A : Option Addr) (c : Nat) (l : List Nat) (w : World) (ha : Rd8 w w.heap.size A 8 l) (hcap : 8 ≤ c) :
    Calls Try.prog 44 #[.slice A 8 c] w fun e w' => e = .returned (.tuple #[.agg #[.int .i64 (hdk l : Nat), .int .i64 (hdt l : Nat), .int .i64 (hdc l : Nat), .string (sb [])], .int .i64 (hdl l : Nat)]) ∧ Below w.heap.size w w' := by
  obtain ⟨A1, s1, r1⟩ := cut_lh ha c 2 6 (by decide) (by decide) hcap 2 6 rfl rfl
  obtain ⟨A2, s2, r2⟩ := cut_l ha c 6 (by decide) hcap 6 rfl
  have r1 : Rd8 w w.heap.size A1 4 ((l.drop 2).take 4) := r1
  have r2 : Rd8 w w.heap.size A2 2 ((l.drop 6).take 2) := by
    have e := r2.len
    rw [List.take_of_length_le (by omega)]
    exact r2
  obtain ⟨b, off, rfl, hb, hcell⟩ := ha.cells (by decide)
  go_enter Try.func44, Try.ntmps44
  go_wp2
  go_quiet (fail)
  go_wp2
  clear s1 s2
  have hB : BlkV ((w.alloc (.cells #[.int .i64 0, .int .i64 0, .int .i64 0, .string ⟨#[]⟩] 52)).drewN nq) w.heap.size 52 [.int .i64 0, .int .i64 0, .int .i64 0, .string ⟨#[]⟩] := (BlkV.new w _ _).drewN nq
  have hb1 : Below w.heap.size w ((w.alloc (.cells #[.int .i64 0, .int .i64 0, .int .i64 0, .string ⟨#[]⟩] 52)).drewN nq) := below_drewN ((Below.refl _ _).alloc (Nat.le_refl _) _) nq
  generalize (w.alloc (.cells #[.int .i64 0, .int .i64 0, .int .i64 0, .string ⟨#[]⟩] 52)).drewN nq = w1 at *
  have b2 : Below w.heap.size w w1.drew := hb1.drew
  have x0 : w1.drew.cell? ⟨b, off, none⟩ = some (.int .u8 (hdk l : Nat)) := (b2.cell (p := ⟨b, off, none⟩) hb).trans (by have := hcell 0 (by decide); exact this)
  have x1 : w1.drew.cell? ⟨b, off + 1, none⟩ = some (.int .u8 (hdt l : Nat)) := (b2.cell (p := ⟨b, off + 1, none⟩) hb).trans (by have := hcell 1 (by decide); exact this)
  have y1 := r1.below b2 (Nat.le_refl _)
  have y2 := r2.below b2 (Nat.le_refl _)
  have z1 := y1.more b2.size
  have z2 := y2.more b2.size
  have B2 := hB.drew
  have K1 : hdk l < 256 := by have := getD_lt 256 (by decide) l ha.lt 0; exact this
  have K2 : hdt l < 256 := by have := getD_lt 256 (by decide) l ha.lt 1; exact this
  refine wp_region_still_tail 13 (by kernel_rfl) (by kernel_rfl) ?_
  change wpStill _ _ w1.drew (fun a' => wpList _ _ _ _ a' w1.drew) _ _
  simp only [List.take_succ_cons, List.take_zero, List.drop_succ_cons, List.drop_zero]
  generalize w1.drew = w2 at *
  clear hB hb1 hcell r1 r2 y1 y2
  repeat still_step
  still_call (number_c A1 4 (c - 2) _ w2 z1 (by decide))
  repeat still_step
  still_call (number_c A2 2 (c - 6) _ w2 z2 (by decide))
  refine wpStill_nil ?_
  have k1 : IntKind.i64.wrap (hdk l : Nat) = (hdk l : Nat) := by rw [IntKind.wrap_i64]; omega
  have k2 : IntKind.i64.wrap (hdt l : Nat) = (hdt l : Nat) := by rw [IntKind.wrap_i64]; omega
  rw [k1, k2]
  obtain ⟨w3, hw3⟩ : ∃ x, x = w2.setCells w.heap.size 0 [.int .i64 (hdk l : Nat), .int .i64 (hdt l : Nat), .int .i64 (val 256 ((l.drop 2).take 4) : Nat), .string ⟨#[]⟩] := ⟨_, rfl⟩
  obtain ⟨B3, b3, _, _⟩ := own_whole [.int .i64 (hdk l : Nat), .int .i64 (hdt l : Nat), .int .i64 (val 256 ((l.drop 2).take 4) : Nat), .string ⟨#[]⟩] B2 rfl b2 (Nat.le_refl _)
  rw [← hw3] at B3 b3
  refine wpList_store_to rfl 52 (.tmp 2) (.tmp 20) rfl w.heap.size 0 [.int .i64 (hdk l : Nat), .int .i64 (hdt l : Nat), .int .i64 (val 256 ((l.drop 2).take 4) : Nat), .string ⟨#[]⟩] w3 hw3 rfl rfl (B2.there 0 4 (by simp)) sizeIt (oneIt _ _ _ _) ?_
  clear hw3 B2 b2 z1 z2 x0 x1
  go_wp2
  refine bodyPost_ret (results_cell_tmp0 Try.results44 ⟨w.heap.size, 0, none⟩ _ _ rfl (run_loadVar_mid _ w.heap.size 0 52 _ _ B3.range Try.underlying52 rfl sizeIt) rfl) rfl ?_
  exact ⟨rfl, b3⟩
end Go.Proofs.Ytokfldecjknamaa
