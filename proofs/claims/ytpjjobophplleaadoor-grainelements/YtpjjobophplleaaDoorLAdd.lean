import Derived.Test.YtpjjobophplleaaDoorGnA
import Derived.WideKeyArr2
import Derived.Test.YtpjjobophplleaaDoorPrims
/-
  An array of four ints, and a slice of ints, that came in, as the library opens them. Helpers for the frames of stage 8.
-/
namespace Go.Proofs.YtpjjobophplleaaDoor
open Go.RowKit
open Go.ChangeShapes Go.WideShapes
set_option linter.unusedVariables false

/-- A slice of ints that is read. -/
structure RdI (w : World) (B : Nat) (A : Option Addr) (n : Nat) (l : List Int) : Prop where
  len : l.length = n
  cells : 0 < n → ∃ b off, A = some ⟨b, off, none⟩ ∧ b < B ∧ ∀ i, i < n → w.cell? ⟨b, off + i, none⟩ = some (.int .i64 (l.getD i 0))
theorem RdI.below {w w' : World} {B n : Nat} {A : Option Addr} {l : List Int} (h : RdI w B A n l) (hb : Below B w w') : RdI w' B A n l :=
  ⟨h.len, fun hn => by
    obtain ⟨b, off, e, hbB, hc⟩ := h.cells hn
    exact ⟨b, off, e, hbB, fun i hi => (hb.cell (p := ⟨b, off + i, none⟩) hbB).trans (hc i hi)⟩⟩
theorem RdI.at_ {w : World} {B n : Nat} {A : Option Addr} {l : List Int} (h : RdI w B A n l) {k : Nat} (hk : k < n) :
    ∃ b off, A = some ⟨b, off, none⟩ ∧ b < B ∧ w.cell? ⟨b, off + k, none⟩ = some (.int .i64 (l.getD k 0)) := by
  obtain ⟨b, off, e, hb, hc⟩ := h.cells (by omega)
  exact ⟨b, off, e, hb, hc k hk⟩
theorem rdI_of_row {w : World} {a : Option Addr} {len cap : Nat} {zs : List Int}
    (h : (a = none ∧ len = 0 ∧ cap = 0 ∧ zs = []) ∨ ∃ x, a = some x ∧ len ≤ cap ∧ cap ≤ maxLen ∧ zs.length = cap ∧ (∀ i, i < zs.length → w.cell? (x.add i) = some (.int .i64 (zs.getD i 0))) ∧ ∀ n ∈ zs, (Lit.int .i64 n).wf = true) :
    ∃ l, RdI w w.heap.size a len l := by
  rcases h with ⟨rfl, rfl, rfl, rfl⟩ | ⟨x, rfl, hl, hm, hz, hc, hw⟩
  · exact ⟨[], rfl, fun h => absurd h (by omega)⟩
  · refine ⟨zs.take len, by simp; omega, fun hp => ?_⟩
    obtain ⟨b, off, spot⟩ := x
    have h0 := hc 0 (by omega)
    have hspot : spot = none := by simpa [Addr.add] using World.cell?_spot h0
    subst hspot
    rw [Addr.add_mid, Nat.add_zero] at h0
    refine ⟨b, off, rfl, World.block_lt_of_cell? w _ h0, fun i hi => ?_⟩
    have hi' := hc i (by omega)
    rw [Addr.add_mid] at hi'
    rw [hi', List.getD_eq_getElem?_getD, List.getD_eq_getElem?_getD, List.getElem?_take_of_lt hi]
theorem mapM_eachI {α β : Type} {f : α → Option β} : ∀ {L : List α} {xs : List β}, L.mapM f = some xs → ∀ i ∈ L, ∃ y, f i = some y
  | [], _, _, i, hi => by simp at hi
  | j :: L, xs, h, i, hi => by
    rw [List.mapM_cons] at h
    simp only [bind, Option.bind_eq_some_iff, pure, Option.some.injEq] at h
    obtain ⟨y, hy, ys, hys, rfl⟩ := h
    rcases List.mem_cons.1 hi with rfl | hi
    · exact ⟨y, hy⟩
    · exact mapM_eachI hys i hi
theorem i64_range {a : Int} (h : (Lit.int .i64 a).wf = true) : -9223372036854775808 ≤ a ∧ a < 9223372036854775808 := by
  have e1 : IntKind.i64.min = -9223372036854775808 := by decide
  have e2 : IntKind.i64.max = 9223372036854775807 := by decide
  simp [Lit.wf, e1, e2] at h
  omega
theorem u8_numI {a : Int} (h : (Lit.int .u8 a).wf = true) : ∃ v : Nat, a = (v : Int) ∧ v < 256 := by
  have e1 : IntKind.u8.min = 0 := by decide
  have e2 : IntKind.u8.max = 255 := by decide
  simp [Lit.wf, e1, e2] at h
  exact ⟨a.toNat, by omega, by omega⟩
theorem u16_numI {a : Int} (h : (Lit.int .u16 a).wf = true) : ∃ v : Nat, a = (v : Int) ∧ v < 65536 := by
  have e1 : IntKind.u16.min = 0 := by decide
  have e2 : IntKind.u16.max = 65535 := by decide
  simp [Lit.wf, e1, e2] at h
  exact ⟨a.toNat, by omega, by omega⟩
theorem cells1I : Tryd.prog.cellsOf 3 = 1 := by kernel_rfl
theorem cells4I : Tryd.prog.cellsOf 22 = 4 := by kernel_rfl
/-- Four numbers as a value. -/
def four (a b c d : Int) : Value := .agg #[.int .i64 a, .int .i64 b, .int .i64 c, .int .i64 d]
theorem open_four {H : Type} {enc : TypeId × Value → H} {W : World} {base : Nat} {sp : Nat → Bool} {held : Bool} {r : Reach} {b0 : Nat} {v : Value} {d : DataW H} {ps : List MemPlace}
    (hval : Value.okWide Tryd.prog W r b0 22 v) (hd : DataW.Trod enc Tryd.prog W base sp held 22 v d ps) :
    ∃ a b c d : Int, v = four a b c d ∧ (Lit.int .i64 a).wf = true ∧ (Lit.int .i64 b).wf = true ∧ (Lit.int .i64 c).wf = true ∧ (Lit.int .i64 d).wf = true := by
  have A : WideMaps.ArrKey Tryd.prog 22 3 4 := ⟨Tryd.underlying22, by kernel_rfl, cells1I, cells4I⟩
  obtain ⟨⟨cs⟩, rfl, hn⟩ := WideMaps.okWide_arr A hval
  simp only [List.size_toArray] at hn
  obtain ⟨fuel, hf⟩ := hd
  have key : ∀ i, i < 4 → ∃ a : Int, (cs.drop (i * 1)).take 1 = [.int .i64 a] ∧ (Lit.int .i64 a).wf = true := by
    cases fuel with
    | zero => simp [DataW.trod] at hf
    | succ m =>
      rw [DataW.trod_step] at hf
      unfold DataW.trodStep at hf
      simp only [A.hu, Value.cells] at hf
      rw [if_pos (by rw [A.size]; simpa using hn)] at hf
      simp only [Option.map_eq_some_iff, A.one] at hf
      obtain ⟨ys, hy, e1⟩ := hf
      intro i hi
      obtain ⟨y, h1⟩ := mapM_eachI hy i (by simpa using hi)
      obtain ⟨a, ea, _, wa⟩ := DataW.trod_int Tryd.underlying3 h1
      exact ⟨a, ea, wa⟩
  match cs, hn with
  | [c0, c1, c2, c3], _ =>
    obtain ⟨a, ea, wa⟩ := key 0 (by decide)
    obtain ⟨b, eb, wb⟩ := key 1 (by decide)
    obtain ⟨c, ec, wc⟩ := key 2 (by decide)
    obtain ⟨d, ed, wd⟩ := key 3 (by decide)
    simp at ea eb ec ed
    subst ea eb ec ed
    exact ⟨a, b, c, d, rfl, wa, wb, wc, wd⟩
end Go.Proofs.YtpjjobophplleaaDoor
/-
  limb.wordAt, limb.Add, limb.Sub: what each call does.
-/
namespace Go.Proofs.YtpjjobophplleaaDoor
open Go.RowKit
set_option linter.unusedVariables false

theorem wordAt_c (A : Option Addr) (n c B : Nat) (l : List Nat) (k : Nat) (w : World) (h : Rd w B A n l) :
    Calls Tryd.prog 42 #[.slice A n c, .int .i64 k] w fun e w' => e = .returned (.int .u64 (at64 l k)) ∧ w = w' := by
  by_cases hk : k < n
  · obtain ⟨b, off, rfl, hb, hc⟩ := h.at_ hk
    go_enter Tryd.func42, Tryd.ntmps42
    go_wp2
    go_ret
    exact ⟨rfl, rfl⟩
  · have e := at64_out (l := l) (i := k) (by rw [h.len]; omega)
    rw [e]
    go_enter Tryd.func42, Tryd.ntmps42
    go_wp2
    go_ret
    exact ⟨rfl, rfl⟩

/-- The relation of Add's loop. -/
def AddRel (w : World) (b n : Nat) (la lb : List Nat) (wr : World) (k c : Nat) : Prop :=
  ∃ ws : List Nat, ws.length = n ∧ BlkW wr b 36 ws ∧ Below b w wr ∧ c ≤ 1 ∧ pv 18446744073709551616 ws k + c * 18446744073709551616 ^ k = pv 18446744073709551616 la k + pv 18446744073709551616 lb k

theorem AddRel.step {w wr : World} {b n k c : Nat} {la lb : List Nat} (ha : allLt la) (hb : allLt lb) (h : AddRel w b n la lb wr k c) (hk : k < n) :
    AddRel w b n la lb (wr.setCell ⟨b, k, none⟩ (.int .u64 ((at64 la k + at64 lb k + (c : Int)) % 18446744073709551616))) (k + 1) ((la.getD k 0 + lb.getD k 0 + c) / 18446744073709551616) := by
  obtain ⟨ws, hl, hB, hb', hc, he⟩ := h
  have h1 := getD_lt _ (by decide) la ha k
  have h2 := getD_lt _ (by decide) lb hb k
  refine ⟨ws.set k ((la.getD k 0 + lb.getD k 0 + c) % 18446744073709551616), by simp [hl], hB.setI k _ _ (Nat.mod_lt _ (by decide)) ?_, hb'.setCell (Nat.le_refl _) _, by omega, ?_⟩
  · unfold at64; omega
  · rw [pv_set_succ _ _ _ _ (by omega), pv_succ, pv_succ, Nat.pow_succ]
    exact add_step _ _ _ _ c _ _ _ _ _ he (by rw [Nat.mul_comm]; exact Nat.mod_add_div _ _)

end Go.Proofs.YtpjjobophplleaaDoor
