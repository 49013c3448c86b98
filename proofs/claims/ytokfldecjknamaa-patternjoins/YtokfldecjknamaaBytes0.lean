/-
  Words for memory, of bytes: a slice that is read (Rd8), one that the call made and appends to (OwnB).
-/
import Derived.Test.YtokfldecjknamaaOwn
namespace Go.Proofs.Ytokfldecjknamaa
open Go.RowKit
set_option linter.unusedVariables false

def allLt8 (l : List Nat) : Prop := ∀ x ∈ l, x < 256
theorem at64_lt8 {l : List Nat} (h : allLt8 l) (i : Nat) : at64 l i < 256 := by
  have := getD_lt _ (by decide) l h i
  unfold at64; omega
/-- The slice of n words at A reads as l, and lies below block B (nil and empty ones let in). -/
structure Rd8 (w : World) (B : Nat) (A : Option Addr) (n : Nat) (l : List Nat) : Prop where
  len : l.length = n
  lt : allLt8 l
  cells : 0 < n → ∃ b off, A = some ⟨b, off, none⟩ ∧ b < B ∧ ∀ i, i < n → w.cell? ⟨b, off + i, none⟩ = some (.int .u8 (at64 l i))

theorem Rd8.keep {w w' : World} {B n : Nat} {A : Option Addr} {l : List Nat} (h : Rd8 w B A n l) (hk : ∀ p : Addr, p.block < B → w'.cell? p = w.cell? p) : Rd8 w' B A n l :=
  ⟨h.len, h.lt, fun hn => by
    obtain ⟨b, off, e, hb, hc⟩ := h.cells hn
    exact ⟨b, off, e, hb, fun i hi => (hk ⟨b, off + i, none⟩ hb).trans (hc i hi)⟩⟩
theorem Rd8.more {w : World} {B B' n : Nat} {A : Option Addr} {l : List Nat} (h : Rd8 w B A n l) (hB : B ≤ B') : Rd8 w B' A n l :=
  ⟨h.len, h.lt, fun hn => by
    obtain ⟨b, off, e, hb, hc⟩ := h.cells hn
    exact ⟨b, off, e, by omega, hc⟩⟩
theorem Rd8.below {w w' : World} {B B' n : Nat} {A : Option Addr} {l : List Nat} (h : Rd8 w B A n l) (hb : Below B' w w') (hB : B ≤ B') : Rd8 w' B A n l :=
  h.keep fun _ hp => hb.cell (Nat.lt_of_lt_of_le hp hB)
theorem Rd8.up {w w' : World} {B n : Nat} {A : Option Addr} {l : List Nat} (h : Rd8 w B A n l) (hb : Below w.heap.size w w') (hB : B ≤ w.heap.size) : Rd8 w' w'.heap.size A n l :=
  (h.below hb hB).more (Nat.le_trans hB hb.size)
theorem Rd8.nil (w : World) (B : Nat) (A : Option Addr) : Rd8 w B A 0 [] := ⟨rfl, by intro x hx; simp at hx, fun h => absurd h (by omega)⟩
theorem Rd8.at_ {w : World} {B n : Nat} {A : Option Addr} {l : List Nat} (h : Rd8 w B A n l) {k : Nat} (hk : k < n) :
    ∃ b off, A = some ⟨b, off, none⟩ ∧ b < B ∧ w.cell? ⟨b, off + k, none⟩ = some (.int .u8 (at64 l k)) := by
  obtain ⟨b, off, e, hb, hc⟩ := h.cells (by omega)
  exact ⟨b, off, e, hb, hc k hk⟩

theorem u8_info : (Try.prog.info? 5).map (fun i => (i.zero, i.size, i.bytes)) = some (some (.int .u8 0), 1, 1) := by kernel_rfl
/-- n words that are 0. -/
def zeros8 (n : Nat) : Array Value := madeCells (Value.int .u8 0).cells (n * 1)
theorem zeros8_eq (n : Nat) : zeros8 n = ((List.replicate n 0).map fun (x : Nat) => Value.int .u8 (x : Int)).toArray := by
  unfold zeros8 madeCells
  apply Array.ext
  · simp
  · intro i h1 h2
    simp [Value.cells, Nat.mod_one]
theorem make8 (n c : Nat) (hn : n ≤ c) (hc : c ≤ 1000000) (w : World) : (Instr.makeSlice 28 (.int .i64 (n : Int)) (.int .i64 (c : Int))).run Try.prog w =
    .ok (.slice (some ⟨w.heap.size, 0, none⟩) n c) (w.alloc (.cells (zeros8 c) 5)) := by
  obtain ⟨i, hi, hz, hs, hb⟩ := info_parts u8_info
  have hr := run_make (P := Try.prog) w 28 5 i _ Try.underlying28 hi hz .i64 .i64 n c (by omega) (by omega) (by rw [hb]; omega) (by omega)
  simp only [Int.toNat_natCast, hs] at hr
  exact hr
theorem make8I (n c : Nat) (hn : n ≤ c) (hc : c ≤ 1000000) (N C : Int) (e1 : N = (n : Int)) (e2 : C = (c : Int)) (w : World) : (Instr.makeSlice 28 (.int .i64 N) (.int .i64 C)).run Try.prog w =
    .ok (.slice (some ⟨w.heap.size, 0, none⟩) n c) (w.alloc (.cells (zeros8 c) 5)) := by subst e1 e2; exact make8 n c hn hc w
def cells8 (l : List Nat) : List Value := l.map fun (x : Nat) => Value.int .u8 (x : Int)

/-- The slice value v owns the words l, among the blocks from base on. -/
structure OwnB (w : World) (base : Nat) (v : Value) (l : List Nat) : Prop where
  own : w.ownsRow base 5 1 v l.length (cells8 l)
  lt : allLt8 l

theorem OwnB.alloc {w : World} {base : Nat} {v : Value} {l : List Nat} (h : OwnB w base v l) (o : Obj) : OwnB (w.alloc o) base v l := ⟨h.own.alloc o, h.lt⟩
theorem OwnB.rd {w : World} {base : Nat} {v : Value} {l : List Nat} (h : OwnB w base v l) : ∃ A c, v = .slice A l.length c ∧ l.length ≤ c ∧ Rd8 w w.heap.size A l.length l := by
  rcases h.own.2 with ⟨rfl, hn⟩ | ⟨g, cap, cur, rfl, hb, hg, hc, _, _, ht⟩
  · have : l = [] := List.eq_nil_of_length_eq_zero hn
    subst this
    exact ⟨none, 0, rfl, Nat.le_refl _, Rd8.nil _ _ _⟩
  · refine ⟨some ⟨g, 0, none⟩, cap, rfl, hc, rfl, h.lt, fun _ => ⟨g, 0, rfl, (Array.getElem?_eq_some_iff.1 hg).1, fun i hi => ?_⟩⟩
    have := h.own.cells (g := g) rfl i (.int .u8 (at64 l i)) (by simp [cells8, at64, List.getElem?_eq_getElem hi, List.getD_eq_getElem?_getD])
    have hadd : (⟨g, 0, none⟩ : Addr).add i = ⟨g, 0 + i, none⟩ := by unfold Addr.add; split <;> simp_all
    rw [hadd] at this
    exact this
theorem ownB_nil (w : World) (base : Nat) : OwnB w base (.slice none 0 0) [] := ⟨World.ownsRow_nil w base _ 1, fun x hx => by simp at hx⟩
/-- make([]uint64, 0, c). -/
theorem ownB_made (w : World) (c : Nat) (hc : c ≤ 1000000) : OwnB (w.alloc (.cells (zeros8 c) 5)) w.heap.size (.slice (some ⟨w.heap.size, 0, none⟩) 0 c) [] :=
  ⟨World.ownsRow_made w (zeros8 c) c (Nat.le_refl _) (by unfold maxLen; omega) (by simp [zeros8, size_madeCells]), fun x hx => by simp at hx⟩
theorem append_bytes {ops : Array Oper} {rest : List Oper} {o : Oper} {a : Act} {Q : Exit → Act → World → Prop} {w : World} (hgd : o.guard = none) (s x : Operand)
    (ho : o.op = .call { callee := .builtin .append, args := #[s, x], argTypes := #[28, 28] })
    (base : Nat) (v : Value) (l : List Nat) (hs : a.eval s = v) (hown : OwnB w base v l) (b c : Nat) (news : List Nat) (hnl : allLt8 news) (hx : a.eval x = .slice (some ⟨b, 0, none⟩) news.length c)
    (hcell : ∀ i, i < news.length → w.cell? ⟨b, i, none⟩ = some (.int .u8 (at64 news i))) (hlen : l.length + news.length ≤ 1000000) (hbase : base ≤ w.heap.size)
    (h : ∀ v' w', OwnB w' base v' (l ++ news) → Below base w w' → wpList Try.prog ops Q rest (a.put o.dst v') w') : wpList Try.prog ops Q (o :: rest) a w := by
  obtain ⟨i0, hi, hz, hs1, hb⟩ := info_parts u8_info
  refine wpList_append_own w hgd s x 28 ho base 5 i0 (.int .u8 0) 1 1 Try.underlying28 hi hz hs1 hb rfl (by decide) v l.length (cells8 l) hs hown.own ⟨b, 0, none⟩ news.length c (cells8 news) hx
    (by simp [cells8]) ?_ ?_ (by unfold maxLen; omega) (by omega) hbase ?_
  · intro j u hj
    have hadd : (⟨b, 0, none⟩ : Addr).add j = ⟨b, j, none⟩ := by unfold Addr.add; split <;> simp_all
    rw [hadd]
    have hjl : j < news.length := by
      have := (List.getElem?_eq_some_iff.1 hj).1
      simpa [cells8] using this
    rw [hcell j hjl, ← hj]
    simp [cells8, at64, List.getElem?_eq_getElem hjl, List.getD_eq_getElem?_getD]
  · intro u hu
    simp only [cells8, List.mem_map] at hu
    obtain ⟨y, _, rfl⟩ := hu
    rfl
  · intro v' w' ho' hg _
    refine h v' w' ⟨?_, ?_⟩ ((Below.refl _ _).grown hg hbase fun k hk => (hown.own.lt k hk).1)
    · have e : cells8 (l ++ news) = cells8 l ++ cells8 news := by simp [cells8]
      rw [e, List.length_append]
      exact ho'
    · intro y hy
      rcases List.mem_append.1 hy with h' | h'
      · exact hown.lt y h'
      · exact hnl y h'

/-- append of one word, in the world behind the building of its one-word slice. -/
theorem append_byte {ops : Array Oper} {rest : List Oper} {o : Oper} {a : Act} {Q : Exit → Act → World → Prop} {w : World} (hgd : o.guard = none) (s x : Operand)
    (ho : o.op = .call { callee := .builtin .append, args := #[s, x], argTypes := #[28, 28] })
    (base : Nat) (v : Value) (l : List Nat) (hs : a.eval s = v) (hown : OwnB w base v l) (X : Int) (n : Nat) (hX : X = (n : Int)) (hn : n < 256) (hx : a.eval x = .slice (some ⟨w.heap.size, 0, none⟩) 1 1)
    (hlen : l.length ≤ 100000) (hbase : base ≤ w.heap.size)
    (h : ∀ v' w', OwnB w' base v' (l ++ [n]) → Below base w w' → wpList Try.prog ops Q rest (a.put o.dst v') w') : wpList Try.prog ops Q (o :: rest) a (w.alloc (.cells #[.int .u8 X] 5)) := by
  subst hX
  refine append_bytes hgd s x ho base v l hs (hown.alloc _) w.heap.size 1 [n] (fun y hy => by simp at hy; omega) hx ?_ (by simp; omega) (by simp; omega) fun v' w' h1 h2 => h v' w' h1 (((Below.refl _ _).alloc hbase _).trans h2)
  intro i hi
  have : i = 0 := by simp at hi; omega
  subst this
  simp [at64]


theorem Rd8.drewN {w : World} {B n : Nat} {A : Option Addr} {l : List Nat} (h : Rd8 w B A n l) (k : Nat) : Rd8 (w.drewN k) B A n l := ⟨h.len, h.lt, h.cells⟩
theorem ownB_empty (w : World) : OwnB (w.alloc (.cells #[] 5)) w.heap.size (.slice (some ⟨w.heap.size, 0, none⟩) 0 0) [] :=
  ⟨World.ownsRow_made w #[] 0 (Nat.le_refl _) (Nat.zero_le _) rfl, fun x hx => by simp at hx⟩
theorem OwnB.more {w : World} {base B : Nat} {v : Value} {l : List Nat} (h : OwnB w base v l) (hB : B ≤ base) : OwnB w B v l := by
  refine ⟨⟨h.own.1, ?_⟩, h.lt⟩
  rcases h.own.2 with h' | ⟨g, cap, cur, e, hb, r⟩
  · exact Or.inl h'
  · exact Or.inr ⟨g, cap, cur, e, Nat.le_trans hB hb, r⟩
end Go.Proofs.Ytokfldecjknamaa
