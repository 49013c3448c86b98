/-
  grain.New: what the call does.
-/
import Derived.Test.YtpjjobophplleaaDoorGnF
namespace Go.Proofs.YtpjjobophplleaaDoor
open Go.RowKit
set_option linter.unusedVariables false

theorem results_tmps2 {fn : Func} {p q : Tmp} {P : Program} {w : World} {tmps : Array Value} {u v : Value} (h : fn.results = #[.tmp p, .tmp q]) (hp : tmps.getD p undef = u) (hq : tmps.getD q undef = v) :
    (results fn tmps).run P w = .ok (.tuple #[u, v]) w := by
  have hp' : tmps[p]?.getD undef = u := by simpa using hp
  have hq' : tmps[q]?.getD undef = v := by simpa using hq
  simp only [results, h]
  simp [hp', hq']
/-- Which four numbers a source may have. -/
def gOk (a b c d : Int) : Prop := 1 ≤ a ∧ a < 4096 ∧ 1 ≤ b ∧ b < 4096 ∧ 0 ≤ c ∧ c < 1024 ∧ 0 ≤ d ∧ d < 1024
/-- The register behind its first turns. -/
def gS (a b c d : Nat) : Nat := gIt 160 (gS0 a b c d)
theorem gS_gs (a b c d : Nat) : GS (gS a b c d) := (gS0_gs a b c d).it 160
theorem fold_zip : ∀ (cs : List Value) (k : Nat) (A : Array Value), A.size = k + cs.length → List.foldl (fun (a : Array Value) x => a.setIfInBounds x.snd x.fst) A (cs.zipIdx k) = (A.toList.take k ++ cs).toArray
  | [], k, A, h => by
    have e : A.toList.take k = A.toList := List.take_of_length_le (by simp at h; simp [h])
    rw [e]
    simp
  | x :: r, k, A, h => by
    have h1 := fold_zip r (k + 1) (A.setIfInBounds k x) (by simp at h ⊢; omega)
    rw [List.zipIdx_cons, List.foldl_cons, h1]
    have hk : k < A.toList.length := by simp at h ⊢; omega
    rw [Array.toList_setIfInBounds, List.take_succ_eq_append_getElem (by simpa using hk), List.getElem_set_self, List.take_set_of_le (Nat.le_refl k), List.append_assoc]
    rfl
theorem gIt_succ (k s : Nat) : gIt (k + 1) s = gT (gIt k s) := gIt_add k 1 s
structure NwR (w : World) (p s k : Nat) (wr : World) : Prop where
  g : G8 wr p 51 (gIt k s)
  b : Below w.heap.size w wr
theorem zeroS (v : World) : (zeroValue 51).run Tryd.prog v = .ok (.agg (cells8 z80).toArray) v := by kernel_rfl
set_option maxRecDepth 20000 in
set_option maxHeartbeats 1000000 in
theorem new_ok (a b c d : Nat) (w : World) (h : gOk a b c d) :
    Calls Tryd.prog 6 #[.int .i64 (a : Int), .int .i64 (b : Int), .int .i64 (c : Int), .int .i64 (d : Int)] w fun e w' => ∃ p, e = .returned (.tuple #[.pointer (some ⟨p, 0, none⟩), .int .i64 0]) ∧ w.heap.size ≤ p ∧ G8 w' p 51 (gS a b c d) ∧ Below w.heap.size w w' := by
  obtain ⟨a1, a2, b1, b2, c1, c2, d1, d2⟩ := h
  have e1 : decide (1 ≤ (a : Int) ∧ (a : Int) < 4096) = true := decide_eq_true ⟨a1, a2⟩
  have e2 : decide (1 ≤ (b : Int) ∧ (b : Int) < 4096) = true := decide_eq_true ⟨b1, b2⟩
  have e3 : decide (0 ≤ (c : Int) ∧ (c : Int) < 1024) = true := decide_eq_true ⟨c1, c2⟩
  have e4 : decide (0 ≤ (d : Int) ∧ (d : Int) < 1024) = true := decide_eq_true ⟨d1, d2⟩
  obtain ⟨S, hS⟩ : ∃ S, S = gS a b c d := ⟨_, rfl⟩
  rw [← hS]
  have HE : Hid (S = gIt 160 (gS0 a b c d)) := hS
  clear hS
  go_enter Tryd.func6, Tryd.ntmps6
  go_wp2_with fail
  refine (fits12_c a w).mono ?_
  rintro e v ⟨rfl, rfl⟩
  rw [e1]
  go_wp2_with fail
  refine (fits12_c b v).mono ?_
  rintro e w ⟨rfl, rfl⟩
  rw [e2]
  go_wp2_with fail
  refine (fits10_c c w).mono ?_
  rintro e v ⟨rfl, rfl⟩
  rw [e3]
  go_wp2_with fail
  refine (fits10_c d v).mono ?_
  rintro e w ⟨rfl, rfl⟩
  rw [e4]
  go_wp2_with fail
  refine (filled_c a b c d w (by omega) (by omega) (by omega) (by omega)).mono ?_
  rintro e w1 ⟨rfl, hb1⟩
  have HB1 := hid hb1
  have HG0 := hid (gS0_gs a b c d)
  generalize gS0 a b c d = s at *
  have HBK := hid (BlkV.new w1 51 (cells8 (g8 s)))
  have HF := fold_zip (cells8 (g8 s)) 0 (cells8 z80).toArray (by rw [c8_leng]; rfl)
  have hlen := c8_leng s
  obtain ⟨cs, hcs⟩ : ∃ cs, cs = cells8 (g8 s) := ⟨_, rfl⟩
  rw [← hcs] at HF hlen HBK ⊢
  have HCS := hid hcs
  rw [List.take_zero, List.nil_append] at HF
  have hlz : (cells8 z80).length = 80 := rfl
  have hz := zeroS
  clear hcs hb1
  generalize cells8 z80 = zs at *
  go_wp2_with fail
  have R0 : Hid (NwR w w1.heap.size s 0 (w1.alloc (.cells cs.toArray 51))) := ⟨by rw [show gIt 0 s = s from rfl]; unfold G8; rw [← HCS.out]; exact HBK.out, HB1.out.alloc HB1.out.size _⟩
  have hp := HB1.out.size
  clear HB1 HBK HF hlen HCS hlz hz
  generalize w1.alloc _ = w2 at *
  generalize w1.heap.size = p at *
  go_loopw [36] (fun i wr => ∃ k : Nat, k ≤ 160 ∧ i = .int .i64 k ∧ NwR w p s k wr) (fun i _ => 160 - (intOf i).toNat)
  case atStart => exact ⟨0, Nat.zero_le _, rfl, R0.out⟩
  case round =>
    clear R0
    obtain ⟨k, hk, rfl, hrel⟩ := hrel
    have HR := hid hrel
    clear hrel
    by_cases hlt : k < 160
    · have i2 : (k : Int) < 160 := by omega
      go_wp2_with fail
      refine (gturn_c (gIt k s) p 51 wr (gIt_lt k HG0.out.lt) HR.out.g).mono ?_
      rintro e w3 ⟨rfl, g3, o3⟩
      have HN : Hid (NwR w p s (k + 1) w3) := ⟨by rw [gIt_succ]; exact g3, HR.out.b.trans (o3.below hp HR.out.b.size)⟩
      clear g3 o3
      generalize ((gtap (gIt k s)).toNat) = y
      go_wp2
      go_roundw
      case rel => exact ⟨k + 1, by omega, by go_num, HN.out⟩
      case measure => simp [intOf]; omega
    · obtain rfl : k = 160 := by omega
      go_wp2
      refine bodyPost_ret (results_tmps2 Tryd.results6 rfl rfl) rfl ?_
      exact ⟨p, rfl, hp, by rw [HE.out]; exact HR.out.g, HR.out.b⟩
set_option maxRecDepth 20000 in
set_option maxHeartbeats 1000000 in
theorem new_err (a b c d : Int) (w : World) (h : ¬ gOk a b c d) :
    Calls Tryd.prog 6 #[.int .i64 a, .int .i64 b, .int .i64 c, .int .i64 d] w fun e w' => e = .returned (.tuple #[.pointer none, .int .i64 1]) ∧ w' = w := by
  by_cases h1 : 1 ≤ a ∧ a < 4096
  case neg =>
    have e1 : decide (1 ≤ a ∧ a < 4096) = false := decide_eq_false h1
    go_enter Tryd.func6, Tryd.ntmps6
    go_wp2_with fail
    refine (fits12_c a w).mono ?_
    rintro e v ⟨rfl, rfl⟩
    rw [e1]
    go_wp2_with fail
    refine bodyPost_ret (results_tmps2 Tryd.results6 rfl rfl) rfl ?_
    exact ⟨rfl, rfl⟩
  have e1 : decide (1 ≤ a ∧ a < 4096) = true := decide_eq_true h1
  by_cases h2 : 1 ≤ b ∧ b < 4096
  case neg =>
    have e2 : decide (1 ≤ b ∧ b < 4096) = false := decide_eq_false h2
    go_enter Tryd.func6, Tryd.ntmps6
    go_wp2_with fail
    refine (fits12_c a w).mono ?_
    rintro e v ⟨rfl, rfl⟩
    rw [e1]
    go_wp2_with fail
    refine (fits12_c b v).mono ?_
    rintro e w ⟨rfl, rfl⟩
    rw [e2]
    go_wp2_with fail
    refine bodyPost_ret (results_tmps2 Tryd.results6 rfl rfl) rfl ?_
    exact ⟨rfl, rfl⟩
  have e2 : decide (1 ≤ b ∧ b < 4096) = true := decide_eq_true h2
  by_cases h3 : 0 ≤ c ∧ c < 1024
  case neg =>
    have e3 : decide (0 ≤ c ∧ c < 1024) = false := decide_eq_false h3
    go_enter Tryd.func6, Tryd.ntmps6
    go_wp2_with fail
    refine (fits12_c a w).mono ?_
    rintro e v ⟨rfl, rfl⟩
    rw [e1]
    go_wp2_with fail
    refine (fits12_c b v).mono ?_
    rintro e w ⟨rfl, rfl⟩
    rw [e2]
    go_wp2_with fail
    refine (fits10_c c w).mono ?_
    rintro e v ⟨rfl, rfl⟩
    rw [e3]
    go_wp2_with fail
    refine bodyPost_ret (results_tmps2 Tryd.results6 rfl rfl) rfl ?_
    exact ⟨rfl, rfl⟩
  have e3 : decide (0 ≤ c ∧ c < 1024) = true := decide_eq_true h3
  by_cases h4 : 0 ≤ d ∧ d < 1024
  · exact absurd ⟨h1.1, h1.2, h2.1, h2.2, h3.1, h3.2, h4.1, h4.2⟩ h
  · have e4 : decide (0 ≤ d ∧ d < 1024) = false := decide_eq_false h4
    go_enter Tryd.func6, Tryd.ntmps6
    go_wp2_with fail
    refine (fits12_c a w).mono ?_
    rintro e v ⟨rfl, rfl⟩
    rw [e1]
    go_wp2_with fail
    refine (fits12_c b v).mono ?_
    rintro e w ⟨rfl, rfl⟩
    rw [e2]
    go_wp2_with fail
    refine (fits10_c c w).mono ?_
    rintro e v ⟨rfl, rfl⟩
    rw [e3]
    go_wp2_with fail
    refine (fits10_c d v).mono ?_
    rintro e w ⟨rfl, rfl⟩
    rw [e4]
    go_wp2_with fail
    refine bodyPost_ret (results_tmps2 Tryd.results6 rfl rfl) rfl ?_
    exact ⟨rfl, rfl⟩
end Go.Proofs.YtpjjobophplleaaDoor
