/-
  avouchlaw12.Of, avouchlaw12.To, item.Same, avouchlaw12.speaks: what each call does; items held against each other.
-/
import Derived.Test.YtokfldecjknamaaItD
import Derived.Test.YtokfldecjknamaaBlkV
namespace Go.Proofs.Ytokfldecjknamaa
open Go.RowKit
set_option linter.unusedVariables false
set_option linter.unusedSimpArgs false

theorem fieldsI : Try.prog.fieldsOf 52 = #[{ name := "Kind", type := 3, offset := 0, embedded := false, tag := "", pkgPath := "", byteOffset := 0 }, { name := "Type", type := 3, offset := 1, embedded := false, tag := "", pkgPath := "", byteOffset := 8 }, { name := "Count", type := 3, offset := 2, embedded := false, tag := "", pkgPath := "", byteOffset := 16 }, { name := "Label", type := 9, offset := 3, embedded := false, tag := "", pkgPath := "", byteOffset := 24 }] := by kernel_rfl
theorem fieldsR : Try.prog.fieldsOf 25 = #[{ name := "Kind", type := 3, offset := 0, embedded := false, tag := "", pkgPath := "", byteOffset := 0 }, { name := "Type", type := 3, offset := 1, embedded := false, tag := "", pkgPath := "", byteOffset := 8 }, { name := "Count", type := 3, offset := 2, embedded := false, tag := "", pkgPath := "", byteOffset := 16 }, { name := "Label", type := 9, offset := 3, embedded := false, tag := "", pkgPath := "", byteOffset := 24 }] := by kernel_rfl
theorem part_int (w : World) (a b c d : Value) : (part 3 #[a, b, c, d] 0).run Try.prog w = .ok a w ∧ (part 3 #[a, b, c, d] 1).run Try.prog w = .ok b w ∧ (part 3 #[a, b, c, d] 2).run Try.prog w = .ok c w ∧ (part 9 #[a, b, c, d] 3).run Try.prog w = .ok d w :=
  ⟨by kernel_rfl, by kernel_rfl, by kernel_rfl, by kernel_rfl⟩
theorem eq_fields (w : World) (k t c k' t' c' : Int) (s s' : ByteArray) : (Op.eqFields 9999 #[.int .i64 k, .int .i64 t, .int .i64 c, .string s] #[.int .i64 k', .int .i64 t', .int .i64 c', .string s'] [{ name := "Kind", type := 3, offset := 0, embedded := false, tag := "", pkgPath := "", byteOffset := 0 }, { name := "Type", type := 3, offset := 1, embedded := false, tag := "", pkgPath := "", byteOffset := 8 }, { name := "Count", type := 3, offset := 2, embedded := false, tag := "", pkgPath := "", byteOffset := 16 }, { name := "Label", type := 9, offset := 3, embedded := false, tag := "", pkgPath := "", byteOffset := 24 }]).run Try.prog w = .ok (decide (k = k' ∧ t = t' ∧ c = c' ∧ bl s = bl s')) w := by
  obtain ⟨a0, a1, a2, a3⟩ := part_int w (.int .i64 k) (.int .i64 t) (.int .i64 c) (.string s)
  obtain ⟨b0, b1, b2, b3⟩ := part_int w (.int .i64 k') (.int .i64 t') (.int .i64 c') (.string s')
  have e0 := run_equalIn_int (P := Try.prog) w 9998 3 .i64 .i64 k k' Try.underlying3
  have e1 := run_equalIn_int (P := Try.prog) w 9998 3 .i64 .i64 t t' Try.underlying3
  have e2 := run_equalIn_int (P := Try.prog) w 9998 3 .i64 .i64 c c' Try.underlying3
  have e3 := run_equalIn_string (P := Try.prog) w 9998 9 s s' Try.underlying9
  rw [str_eq] at e3
  have n0 : ¬ ("Kind" = "_") := by decide
  have n1 : ¬ ("Type" = "_") := by decide
  have n2 : ¬ ("Count" = "_") := by decide
  have n3 : ¬ ("Label" = "_") := by decide
  simp only [Op.eqFields, Sem.run_bind, ne_eq, n0, n1, n2, n3, not_false_eq_true, if_true, a0, a1, a2, a3, b0, b1, b2, b3, e0, e1, e2, e3, Result.andThen_ok, Sem.run_ite, Sem.run_pure]
  by_cases h0 : k = k'
  · by_cases h1 : t = t'
    · by_cases h2 : c = c'
      · by_cases h3 : bl s = bl s'
        · simp [h0, h1, h2, h3]
        · simp [h0, h1, h2, h3]
      · simp [h0, h1, h2]
    · simp [h0, h1]
  · simp [h0]
theorem eq_it (w : World) (k t c k' t' c' : Int) (s s' : ByteArray) : (Op.equalIn 10000 52 (.agg #[.int .i64 k, .int .i64 t, .int .i64 c, .string s]) (.agg #[.int .i64 k', .int .i64 t', .int .i64 c', .string s'])).run Try.prog w = .ok (decide (k = k' ∧ t = t' ∧ c = c' ∧ bl s = bl s')) w := by
  rw [run_equalIn_agg w 9999 52 _ _ (by kernel_rfl) (by kernel_rfl), fieldsI]
  exact eq_fields w k t c k' t' c' s s'
theorem eq_ref (w : World) (k t c k' t' c' : Int) (s s' : ByteArray) : (Op.equalIn 10000 25 (.agg #[.int .i64 k, .int .i64 t, .int .i64 c, .string s]) (.agg #[.int .i64 k', .int .i64 t', .int .i64 c', .string s'])).run Try.prog w = .ok (decide (k = k' ∧ t = t' ∧ c = c' ∧ bl s = bl s')) w := by
  rw [run_equalIn_agg w 9999 25 _ _ (by kernel_rfl) (by kernel_rfl), fieldsR]
  exact eq_fields w k t c k' t' c' s s'

theorem sizeI4 : (Try.prog.info? 52).map (·.size) = some 4 := by kernel_rfl
theorem sizeR4 : (Try.prog.info? 25).map (·.size) = some 4 := by kernel_rfl
set_option maxRecDepth 20000 in
theorem of12_c (k t c : Int) (s : ByteArray) (w : World) : Calls Try.prog 22 #[.agg #[.int .i64 k, .int .i64 t, .int .i64 c, .string s]] w fun e w' => e = .returned (.agg #[.int .i64 k, .int .i64 t, .int .i64 c, .string s]) ∧ Below w.heap.size w w' := by
  have hb : Below w.heap.size w ((w.alloc (.cells #[.int .i64 k, .int .i64 t, .int .i64 c, .string s] 25)).alloc (.cells #[.int .i64 k, .int .i64 t, .int .i64 c, .string s] 52)) := ((Below.refl _ _).alloc (Nat.le_refl _) _).alloc (by simp) _
  have hB := BlkV.new (w.alloc (.cells #[.int .i64 k, .int .i64 t, .int .i64 c, .string s] 25)) 52 [.int .i64 k, .int .i64 t, .int .i64 c, .string s]
  rw [show (w.alloc (.cells #[.int .i64 k, .int .i64 t, .int .i64 c, .string s] 25)).heap.size = w.heap.size + 1 by simp] at hB
  go_enter Try.func22, Try.ntmps22
  go_wp2
  exact bodyPost_ret (results_cell1 Try.results22 ⟨w.heap.size + 1, 0, none⟩ _ rfl (run_loadVar_mid _ (w.heap.size + 1) 0 52 [.int .i64 k, .int .i64 t, .int .i64 c, .string s] _ hB.range Try.underlying52 rfl sizeI4)) rfl ⟨rfl, hb⟩
set_option maxRecDepth 20000 in
theorem to12_c (k t c : Int) (s : ByteArray) (w : World) : Calls Try.prog 33 #[.agg #[.int .i64 k, .int .i64 t, .int .i64 c, .string s]] w fun e w' => e = .returned (.agg #[.int .i64 k, .int .i64 t, .int .i64 c, .string s]) ∧ Below w.heap.size w w' := by
  have hb : Below w.heap.size w ((w.alloc (.cells #[.int .i64 k, .int .i64 t, .int .i64 c, .string s] 52)).alloc (.cells #[.int .i64 k, .int .i64 t, .int .i64 c, .string s] 25)) := ((Below.refl _ _).alloc (Nat.le_refl _) _).alloc (by simp) _
  have hB := BlkV.new (w.alloc (.cells #[.int .i64 k, .int .i64 t, .int .i64 c, .string s] 52)) 25 [.int .i64 k, .int .i64 t, .int .i64 c, .string s]
  rw [show (w.alloc (.cells #[.int .i64 k, .int .i64 t, .int .i64 c, .string s] 52)).heap.size = w.heap.size + 1 by simp] at hB
  go_enter Try.func33, Try.ntmps33
  go_wp2
  exact bodyPost_ret (results_cell1 Try.results33 ⟨w.heap.size + 1, 0, none⟩ _ rfl (run_loadVar_mid _ (w.heap.size + 1) 0 25 [.int .i64 k, .int .i64 t, .int .i64 c, .string s] _ hB.range Try.underlying25 rfl sizeR4)) rfl ⟨rfl, hb⟩
set_option maxRecDepth 20000 in
theorem same12_c (k t c : Int) (s : ByteArray) (k' t' c' : Int) (s' : ByteArray) (w : World) : Calls Try.prog 36 #[.agg #[.int .i64 k, .int .i64 t, .int .i64 c, .string s], .agg #[.int .i64 k', .int .i64 t', .int .i64 c', .string s']] w fun e w' => e = .returned (.bool (decide (k = k' ∧ t = t' ∧ c = c'))) ∧ Below w.heap.size w w' := by
  have E := fun w => eq_it w k t c k' t' c' ⟨#[]⟩ ⟨#[]⟩
  have hb : Below w.heap.size w ((w.alloc (.cells #[.int .i64 k, .int .i64 t, .int .i64 c, .string ⟨#[]⟩] 52)).alloc (.cells #[.int .i64 k', .int .i64 t', .int .i64 c', .string ⟨#[]⟩] 52)) := ((Below.refl _ _).alloc (Nat.le_refl _) _).alloc (by simp) _
  go_enter Try.func36, Try.ntmps36
  go_wp2
  go_ret
  exact ⟨rfl, hb⟩
theorem iencode_oki (k t c : Nat) (K T C : Int) (hK : K = (k : Int)) (hT : T = (t : Int)) (hC : C = (c : Int)) (s : ByteArray) (w : World) (h : ck k t c s.size = 0) :
    Calls Try.prog 38 #[.agg #[.int .i64 K, .int .i64 T, .int .i64 C, .string s]] w fun e w' => ∃ v, e = .returned (.tuple #[v, .int .i64 0]) ∧ OwnB w' w.heap.size v (itb k t c (bl s)) ∧ Below w.heap.size w w' := by
  subst hK hT hC; exact iencode_ok k t c s w h
theorem rd8_range12 {w : World} {b : Nat} {t : TypeId} {l : List Nat} (h : BlkV w b t (cells8 l)) (hl : allLt8 l) : Rd8 w (b + 1) (some ⟨b, 0, none⟩) l.length l :=
  ⟨rfl, hl, fun _ => ⟨b, 0, rfl, Nat.lt_succ_self _, fun i hi => by
    have h1 := h.range i (.int .u8 (at64 l i)) (by simp [cells8, at64, List.getElem?_eq_getElem hi, List.getD_eq_getElem?_getD])
    exact h1⟩⟩
def ex12 : List Nat := [1, 1, 5, 0, 0, 0, 1, 0, 97]
theorem ex12_itb : itb 1 1 5 (bl ⟨#[97]⟩) = ex12 := by decide
theorem ex12_lt : allLt8 ex12 := by unfold allLt8 ex12; decide
end Go.Proofs.Ytokfldecjknamaa
