/-
  avouchlaw03.CalcDepth: the walk.
-/
import Derived.Test.YtjohbepdmnigcaaDoorCalK
namespace Go.Proofs.YtjohbepdmnigcaaDoor
open Go.RowKit
set_option linter.unusedVariables false

/-- How long a slice is. -/
def lenS : Value → Nat
  | .slice _ n _ => n
  | _ => 0
theorem OwnS.len {w : World} {b : Nat} {v : Value} {L : List St} (h : OwnS w b v L) : lenS v = L.length := by
  obtain ⟨A, c, rfl, _⟩ := h.rd
  rfl
theorem depth_a1 (m n v : Nat) (h : m + n = 64) : runA (List.replicate m ((0 : Int), v)) (List.replicate n 0) = (List.replicate n 0 ++ List.replicate m v, -1, 0) := by
  unfold runA
  rw [List.length_replicate, if_neg (by omega)]
  exact runL_push v m 0 _ (by rw [List.length_replicate]; omega)
theorem depth_a2 (m n v : Nat) (h : m + n = 64) : runA (List.replicate (m + 1) ((0 : Int), v)) (List.replicate n 0) = ([], (m : Int), 9) := by
  unfold runA
  rw [List.length_replicate, if_neg (by omega), runL_full v m 0 _ (by rw [List.length_replicate]; omega), Nat.zero_add]
theorem depth_a3 (n : Nat) (h : n ≤ 64) : runA (List.replicate n ((9 : Int), 0)) (List.replicate n 0) = ([], -1, 0) := by
  unfold runA
  rw [List.length_replicate, if_neg (by omega), runL_drops n 0 _ (by rw [List.length_replicate]; omega) (by rw [List.length_replicate]; omega), List.length_replicate, Nat.sub_self, List.take_zero]
theorem depth_a4 (n : Nat) (h : n ≤ 64) : runA (List.replicate (n + 1) ((9 : Int), 0)) (List.replicate n 0) = ([], (n : Int), 13) := by
  unfold runA
  rw [List.length_replicate, if_neg (by omega), runL_few n 0 _ (by rw [List.length_replicate]) (by omega), Nat.zero_add]

set_option maxRecDepth 100000 in
set_option maxHeartbeats 8000000 in
theorem calcDepth_w (a v : Nat) (w : World) (ha : a < 256) (hv : v < 18446744073709551616) (hG : Gc w.heap.size w) :
    Calls Tryd.prog 6 #[.int .u8 (a : Int), .int .u64 (v : Int)] w fun e w' => e = .returned (.bool true) ∧ Below w.heap.size w w' := by
  obtain ⟨n, hn⟩ : ∃ n, n = a % 65 := ⟨_, rfl⟩
  have hn64 : n ≤ 64 := by omega
  have m1 : IntKind.i64.wrap (a : Int) = (a : Int) := by rw [IntKind.wrap_i64]; omega
  have m2 : (a : Int).tmod 65 = (n : Int) := by rw [Int.tmod_eq_emod_of_nonneg (by omega)]; omega
  obtain ⟨m, hm⟩ : ∃ m, m = 64 - n := ⟨_, rfl⟩
  have m3 : (64 : Int) - (n : Int) = (m : Int) := by omega
  have hmn : m + n = 64 := by omega
  have hmk := makeE n (by omega)
  clear hn hm ha
  go_enter Tryd.func6, Tryd.ntmps6
  go_wp2_with fail
  refine (speaks3_c w hG).mono ?_
  rintro e w1 ⟨rfl, hb1⟩
  have hR1 : DepR w w1 (.slice none 0 0) [] := ⟨OwnS.nil _ _, hb1⟩
  clear hb1
  go_wp2
  go_loopw [6, 27] (fun p i wr => ∃ (k : Nat), k ≤ m + 1 ∧ i = .int .i64 k ∧ DepR w wr p (List.replicate k (0, v))) (fun _ i _ => m + 1 - (intOf i).toNat)
  case atStart => exact ⟨0, by omega, rfl, hR1⟩
  case round =>
    obtain ⟨k, hk, rfl, hR⟩ := hrel
    by_cases hlt : k < m + 1
    · have k1 : (k : Int) < (m : Int) + 1 := by omega
      have hlen : (List.replicate k ((0 : Int), v)).length ≤ 1000 := by rw [List.length_replicate]; omega
      clear hR1 hmk
      go_wp2_with (at_builtin; refine app_step rfl (.tmp 29) (.tmp 32) rfl u6 w.heap.size (List.replicate k (0, v)) 0 v wr.heap.size rfl rfl rfl hR.s hlen hR.b.size hv ?_)
      intro v' w' hO' hg'
      have hR' := hR.snoc hO' hg'
      rw [← List.replicate_succ'] at hR'
      have HR := hid hR'
      clear hO' hg' hR' hR hlen
      go_wp2
      go_roundw
      case rel => exact ⟨k + 1, by omega, by go_num, HR.out⟩
      case measure => simp [intOf]; omega
    · have hkn : k = m + 1 := by omega
      subst hkn
      obtain ⟨w2, hw2⟩ : ∃ x, x = wr := ⟨wr, rfl⟩
      rw [← hw2] at hR ⊢
      obtain ⟨g, cap, hv6, hcap, hcm, hbg, hgs, hfr, hcell⟩ := hR.s.at_ (by simp)
      rw [List.length_replicate] at hv6 hcap
      subst hv6
      have hb3 : Below w2.heap.size w2 (w2.alloc (.cells (zerosE n) 40)) := (Below.refl _ _).alloc (Nat.le_refl _) _
      have hZ : DepZ w (w2.alloc (.cells (zerosE n) 40)) (.slice (some ⟨g, 0, none⟩) (m + 1) cap) (List.replicate (m + 1) (0, v)) w2.heap.size n :=
        ⟨hR.s.below hb3, ⟨heap_alloc_new w2 _⟩, hR.b.size, hR.b.trans (hb3.mono hR.b.size)⟩
      obtain ⟨A0, c0, e0, _, _, hS⟩ := hZ.s.rd
      rw [List.length_replicate] at e0 hS
      injection e0 with e1 e2 e3
      subst e1 e3
      obtain ⟨A1, hsl, hS1⟩ := cutS_eq g cap 1 hS (by omega) hcap
      rw [Nat.add_sub_cancel, List.drop_replicate, Nat.add_sub_cancel] at hS1
      rw [Nat.add_sub_cancel] at hsl
      have hsl1 : ∀ w, (Instr.slice 32 (.slice (some ⟨g, 0, none⟩) (m + 1) cap) (some (.int .i64 1)) none none).run Tryd.prog w = .ok (.slice A1 m (cap - 1)) w := hsl
      clear hfr hcell hR hR1 hb3 hsl e2 hw2
      go_wp2_with fail
      clear hsl1 hmk
      generalize w2.alloc (.cells (zerosE n) 40) = w3 at hZ hS hS1 ⊢
      generalize w2.heap.size = bs at hZ ⊢
      have hG3 := (hG.below hZ.b).more hZ.b.size
      refine (run_c A1 (some ⟨bs, 0, none⟩) m (cap - 1) n n _ _ w3 hS1 (by omega) hZ.z.rd (by omega) hG3 _ (-1) 0 (depth_a1 m n v hmn)).mono ?_
      rintro e w4 ⟨v4, rfl, hP4, hb4⟩
      obtain ⟨A4, c4, hv4, -, -, -⟩ := hP4.form
      have hl64 : (List.replicate n 0 ++ List.replicate m v : List Nat).length = 64 := by simp; omega
      rw [hl64] at hv4
      clear hl64
      subst hv4
      have hZ4 := hZ.up hb4
      have hS4 := hS.up hb4 (Nat.le_refl _)
      have hG4 := (hG.below hZ4.b).more hZ4.b.size
      clear hP4 hb4 hZ hS hS1 hG3
      go_wp2_with fail
      refine (run_c (some ⟨g, 0, none⟩) (some ⟨bs, 0, none⟩) (m + 1) cap n n _ _ w4 hS4 (by omega) hZ4.z.rd (by omega) hG4 [] (m : Int) 9 (depth_a2 m n v hmn)).mono ?_
      rintro e w5 ⟨v5, rfl, hP5, hb5⟩
      have hZ5 := hZ4.up hb5
      clear hP5 hb5 hZ4 hS4 hG4
      go_wp2
      obtain ⟨L0, hL0⟩ : ∃ L : List St, L = List.replicate (m + 1) ((0 : Int), v) := ⟨_, rfl⟩
      go_loopw [73] (fun i wr => ∃ (k : Nat), k ≤ m + 1 ∧ i = .int .i64 k ∧ DepZ w wr (.slice (some ⟨g, 0, none⟩) (m + 1) cap) (List.replicate k ((9 : Int), 0) ++ List.replicate (m + 1 - k) ((0 : Int), v)) bs n) (fun i _ => m + 1 - (intOf i).toNat)
      case atStart => exact ⟨0, by omega, rfl, by simpa using hZ5⟩
      case round =>
        obtain ⟨k, hk, rfl, hR⟩ := hrel
        by_cases hlt : k < m + 1
        · have k0 : (0 : Int) ≤ (k : Int) := by omega
          have k1 : (k : Int) < (m : Int) + 1 := by omega
          obtain ⟨g', cap', e', -, -, -, hgs', hfr', hcell'⟩ := hR.s.at_ (by simp; omega)
          injection e' with e1 e2 e3
          injection e1 with e1
          injection e1 with e1
          subst e1
          obtain ⟨c0, c1⟩ := hcell' k (by simp; omega)
          have hR' := hR.set k (by simp; omega) 9 0 (by decide)
          rw [set_rep k (m + 1) (9, 0) (0, v) hlt] at hR'
          have HR := hid hR'
          clear hR' hR hcell' hZ5 e2 e3
          go_wp2
          go_roundw
          case rel => exact ⟨k + 1, by omega, by go_num, HR.out⟩
          case measure => simp [intOf]; omega
        · have hkn : k = m + 1 := by omega
          subst hkn
          rw [Nat.sub_self, List.replicate_zero, List.append_nil] at hR
          clear hZ5 hL0
          obtain ⟨w6, hw6⟩ : ∃ x, x = wr := ⟨wr, rfl⟩
          rw [← hw6] at hR ⊢
          clear hw6
          go_wp2
          go_loopw [6] (fun p wr => ∃ (k : Nat), m + 1 ≤ k ∧ k ≤ 66 ∧ DepZ w wr p (List.replicate k ((9 : Int), 0)) bs n) (fun p _ => 70 - lenS p)
          case atStart => exact ⟨m + 1, by omega, by omega, hR⟩
          case round =>
            obtain ⟨k, hk1, hk2, hQ⟩ := hrel
            obtain ⟨A7, c7, hv7, hc7, hm7, hS7⟩ := hQ.s.rd
            have hlen : (List.replicate k ((9 : Int), 0)).length ≤ 1000 := by rw [List.length_replicate]; omega
            rw [List.length_replicate] at hv7 hc7 hS7
            subst hv7
            by_cases hle : k ≤ n
            · clear hR
              go_wp2_with (at_builtin; refine app_step rfl (.tmp 85) (.tmp 87) rfl _ w.heap.size (List.replicate k (9, 0)) 9 0 wr.heap.size rfl rfl rfl hQ.s hlen hQ.b.size (by decide) ?_)
              intro v' w' hO' hg'
              have hR' := hQ.snoc hO' hg'
              rw [← List.replicate_succ'] at hR'
              have hlen' := hR'.s.len
              rw [List.length_replicate] at hlen'
              have HR := hid hR'
              have HLn := hid hlen'
              clear hO' hg' hR' hQ hlen hS7 hlen'
              go_wp2
              go_roundw
              case rel => exact ⟨v', _, _, _, _, _, _, _, _, ⟨k + 1, by omega, by omega, HR.out⟩, rfl⟩
              case measure =>
                show 70 - lenS v' < 70 - k
                rw [HLn.out]
                omega
            · obtain ⟨w7, hw7⟩ : ∃ x, x = wr := ⟨wr, rfl⟩
              rw [← hw7] at hQ hS7 ⊢
              have hS8 := hS7.take n (by omega)
              rw [rep_take n k _ (by omega)] at hS8
              have hG7 := (hG.below hQ.b).more hQ.b.size
              have x1 : (n : Int) ≤ (c7 : Int) := by omega
              have x2 : (n : Int) + 1 ≤ (c7 : Int) := by omega
              clear hw7 hR hlen
              go_wp2_with fail
              refine (run_c A7 (some ⟨bs, 0, none⟩) n c7 n n _ _ w7 hS8 (by omega) hQ.z.rd (by omega) hG7 [] (-1) 0 (depth_a3 n hn64)).mono ?_
              rintro e w8 ⟨v8, rfl, hP8, hb8⟩
              obtain ⟨A8, c8, hv8, -, -, -⟩ := hP8.form
              rw [show ([] : List Nat).length = 0 from rfl] at hv8
              subst hv8
              have hQ8 := hQ.up hb8
              have hS9 := (hS7.up hb8 (Nat.le_refl _)).take (n + 1) (by omega)
              rw [rep_take (n + 1) k _ (by omega)] at hS9
              have hG8 := (hG.below hQ8.b).more hQ8.b.size
              clear hP8 hb8 hQ hS7 hS8 hG7
              go_wp2_with fail
              refine (run_c A7 (some ⟨bs, 0, none⟩) (n + 1) c7 n n _ _ w8 hS9 (by omega) hQ8.z.rd (by omega) hG8 [] (n : Int) 13 (depth_a4 n hn64)).mono ?_
              rintro e w9 ⟨v9, rfl, hP9, hb9⟩
              have HB := hid (hQ8.up hb9).b
              clear hP9 hb9 hQ8 hS9 hG8
              go_wp2
              go_ret
              exact ⟨rfl, HB.out⟩
end Go.Proofs.YtjohbepdmnigcaaDoor
