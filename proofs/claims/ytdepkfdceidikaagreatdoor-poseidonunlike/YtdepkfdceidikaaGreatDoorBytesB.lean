import Derived.Test.YtdepkfdceidikaaGreatDoorLRest
import Derived.Test.YtdepkfdceidikaaGreatDoorRefC
import Derived.Test.YtdepkfdceidikaaGreatDoorLNew
import Derived.Test.YtdepkfdceidikaaGreatDoorLShift
/-
  (*Modulus).Reduce, shorten, Mul, Len, Words: what each call does.
-/
namespace Go.Proofs.YtdepkfdceidikaaGreatDoor
open Go.RowKit
set_option linter.unusedVariables false

theorem pv_nil (W k : Nat) : pv W [] k = 0 := by
  induction k with
  | zero => rfl
  | succ k ih => rw [pv_succ, ih]; simp
theorem pv_zeros (W : Nat) (l : List Nat) (k m : Nat) (h : ∀ j, k ≤ j → l.getD j 0 = 0) (hm : k ≤ m) : pv W l m = pv W l k := by
  have := pv_tail W l [] k m (fun j hj => by rw [h j hj]; simp) hm
  rw [pv_nil, pv_nil] at this
  omega

/-- copy of the words of a slice into a new block of zeros. -/
theorem copy_words {ops : Array Oper} {rest : List Oper} {o : Oper} {a : Act} {Q : Exit → Act → World → Prop} {w w0 : World} {tb : TypeId} (hgd : o.guard = none) (d s : Operand)
    (ho : o.op = .call { callee := .builtin .copy, args := #[d, s], argTypes := #[50, 50] }) (g N c : Nat) (hd : a.eval d = .slice (some ⟨g, 0, none⟩) N c) (A : Option Addr) (n cs B : Nat) (l : List Nat)
    (hs : a.eval s = .slice A n cs) (hr : Rd w B A n l) (hN : n ≤ N) (hB : BlkW w g tb (List.replicate N 0)) (hb : Below g w0 w)
    (h : ∀ w', BlkW w' g tb (l ++ List.replicate (N - n) 0) → Below g w0 w' → wpList Tryz.prog ops Q rest (a.put o.dst (goInt n)) w') : wpList Tryz.prog ops Q (o :: rest) a w := by
  have hlen : (cellsOf64 l).length = n := by simp [cellsOf64, hr.len]
  refine wpList_copy_splice hgd d s 50 50 ho 34 Tryz.underlying50 (by kernel_rfl) (some ⟨g, 0, none⟩) A N c n cs hd hs g 0 ((List.replicate N 0).map fun (x : Nat) => Value.int .u64 (x : Int)) tb hB.heap (cellsOf64 l)
    (by rw [hlen]; exact (Nat.min_eq_left hN).symm) ?_ (by rw [hlen]; simp; exact hN) ?_ g w0 hb (Nat.le_refl _) ?_
  · intro hp
    rw [hlen] at hp
    obtain ⟨b, off, e, _, hc⟩ := hr.cells hp
    refine ⟨rfl, ⟨b, off, none⟩, e, fun j v hj => ?_⟩
    have hadd : (⟨b, off, none⟩ : Addr).add j = ⟨b, off + j, none⟩ := by unfold Addr.add; split <;> simp_all
    have hjl : j < l.length := by
      have := (List.getElem?_eq_some_iff.1 hj).1
      simpa [cellsOf64] using this
    rw [hadd, hc j (by rw [← hr.len]; exact hjl), ← hj]
    simp [cellsOf64, at64, List.getElem?_eq_getElem hjl, List.getD_eq_getElem?_getD]
  · intro u hu
    simp only [cellsOf64, List.mem_map] at hu
    obtain ⟨y, _, rfl⟩ := hu
    rfl
  · intro w' hg hb'
    rw [hlen]
    refine h w' ⟨?_, ?_⟩ hb'
    · have e : splice ((List.replicate N 0).map fun (x : Nat) => Value.int .u64 (x : Int)) 0 (cellsOf64 l) = (l ++ List.replicate (N - n) 0).map fun (x : Nat) => Value.int .u64 (x : Int) := by
        unfold splice
        rw [hlen]
        simp [cellsOf64]
      rw [← e]; exact hg
    · intro x hx
      rcases List.mem_append.1 hx with h' | h'
      · exact hr.lt x h'
      · have := List.eq_of_mem_replicate h'; omega

theorem getD_app_zeros (l : List Nat) (k j : Nat) : (l ++ List.replicate k 0).getD j 0 = l.getD j 0 := by
  by_cases hj : j < l.length
  · simp [List.getD_eq_getElem?_getD, List.getElem?_append_left hj]
  · rw [getD_out l j (by omega), List.getD_eq_getElem?_getD, List.getElem?_append_right (by omega), List.getElem?_replicate]
    split <;> rfl
theorem val_app_zeros (W : Nat) (l : List Nat) (k : Nat) : val W (l ++ List.replicate k 0) = val W l := by
  unfold val
  rw [pv_congr W (l ++ List.replicate k 0) l _ fun i _ => getD_app_zeros l k i, pv_out W l _ (by simp)]
  rfl

/-- What rest leaves, as a slice that is read. -/
theorem wds_of_rest {w w' : World} {b N n X : Nat} {ws : List Nat} (hl : ws.length = N) (hB : BlkW w' b 34 ws) (hb : Below w.heap.size w w') (hn : n ≤ N) (h : pv 18446744073709551616 ws n = X) :
    Wds w (.returned (.slice (some ⟨b, 0, none⟩) n n)) w' n X := by
  refine ⟨_, _, _, rfl, Nat.le_refl _, hB.rd (off := 0) (n := n) (by omega) hB.size, ?_, hb⟩
  rw [List.drop_zero, ← h, ← pv_take _ ws n n (Nat.le_refl _), pv_out _ (ws.take n) n (by simp; omega)]

set_option maxHeartbeats 1000000 in
theorem reduce_c (A : Option Addr) (na ca p : Nat) (la l : List Nat) (w : World) (ha : Rd w w.heap.size A na la) (hM : ModP w p l) (hna : na ≤ 5000) :
    Calls Tryz.prog 60 #[.pointer (some ⟨p, 0, none⟩), .slice A na ca] w fun e w' => Wds w e w' l.length (val 18446744073709551616 la % val 18446744073709551616 l) := by
  obtain ⟨N, hN⟩ : ∃ N, N = max na l.length + 1 := ⟨_, rfl⟩
  have hl16 := hM.rt.2.1
  have hN1 : na + 1 ≤ N := by omega
  have hN2 : l.length + 1 ≤ N := by omega
  have hN3 : N ≤ 10000 := by omega
  have HN := hid hN
  clear hN
  go_enter Tryz.func60, Tryz.ntmps60
  go_wp2_with fail
  refine (room_c p N na l w hM _ rfl (by omega) HN.out).mono ?_
  rintro e w1 ⟨rfl, hB1, hb1⟩
  have ra1 := ha.below hb1 (Nat.le_refl _)
  have hM1 := hM.keep hb1 hM.lt
  go_wp2_with (with_reducible refine copy_words (w0 := w) rfl (.tmp 10) (.tmp 11) rfl w.heap.size N N rfl A na ca w.heap.size la rfl ra1 (by omega) hB1 hb1 ?_)
  intro w2 hB2 hb2
  have hM2 := hM.keep hb2 hM.lt
  have hlast : (la ++ List.replicate (N - na) 0).getD (N - 1) 0 = 0 := by
    rw [getD_app_zeros, getD_out _ _ (by rw [ha.len]; omega)]
  have hlen : (la ++ List.replicate (N - na) 0).length = N := by rw [List.length_append, ha.len, List.length_replicate]; omega
  have HC := hid (rest_c p w.heap.size N l (la ++ List.replicate (N - na) 0) w2 hM2 hB2 hlen hM.lt hN2 hN3 hlast N (Nat.le_refl _))
  clear hlast hlen hM1 ra1
  go_wp2_with fail
  refine HC.out.mono ?_
  rintro e w3 ⟨rfl, ws, hl3, hB3, hb3, he3⟩
  rw [val_app_zeros] at he3
  have R := hid (wds_of_rest (w := w) hl3 hB3 (hb2.trans hb3) (by omega) he3)
  clear hl3 he3
  go_wp2
  go_ret
  exact R.out

end Go.Proofs.YtdepkfdceidikaaGreatDoor
/-
  Words for memory, of bytes: a slice that is read (Rd8), one that the call made and appends to (OwnB).
-/
namespace Go.Proofs.YtdepkfdceidikaaGreatDoor
open Go.RowKit
set_option linter.unusedVariables false

def allLt8 (l : List Nat) : Prop := ∀ x ∈ l, x < 256
theorem at64_lt8 {l : List Nat} (h : allLt8 l) (i : Nat) : at64 l i < 256 := by
  have := getD_lt _ (by decide) l h i
  unfold at64; omega
/-- The slice of n words at A reads as l, and lies below block B (nil and empty ones let in). -/
structure Rd8 (w : World) (B : Nat) (A : Option Addr) (n : Nat) (l : List Nat) : Prop where
  len : l.length = n
  lt : allLt8 l
  cells : 0 < n → ∃ b off, A = some ⟨b, off, none⟩ ∧ b < B ∧ ∀ i, i < n → w.cell? ⟨b, off + i, none⟩ = some (.int .u8 (at64 l i))

theorem Rd8.keep {w w' : World} {B n : Nat} {A : Option Addr} {l : List Nat} (h : Rd8 w B A n l) (hk : ∀ p : Addr, p.block < B → w'.cell? p = w.cell? p) : Rd8 w' B A n l :=
  ⟨h.len, h.lt, fun hn => by
    obtain ⟨b, off, e, hb, hc⟩ := h.cells hn
    exact ⟨b, off, e, hb, fun i hi => (hk ⟨b, off + i, none⟩ hb).trans (hc i hi)⟩⟩
theorem Rd8.more {w : World} {B B' n : Nat} {A : Option Addr} {l : List Nat} (h : Rd8 w B A n l) (hB : B ≤ B') : Rd8 w B' A n l :=
  ⟨h.len, h.lt, fun hn => by
    obtain ⟨b, off, e, hb, hc⟩ := h.cells hn
    exact ⟨b, off, e, by omega, hc⟩⟩
theorem Rd8.below {w w' : World} {B B' n : Nat} {A : Option Addr} {l : List Nat} (h : Rd8 w B A n l) (hb : Below B' w w') (hB : B ≤ B') : Rd8 w' B A n l :=
  h.keep fun _ hp => hb.cell (Nat.lt_of_lt_of_le hp hB)
theorem Rd8.up {w w' : World} {B n : Nat} {A : Option Addr} {l : List Nat} (h : Rd8 w B A n l) (hb : Below w.heap.size w w') (hB : B ≤ w.heap.size) : Rd8 w' w'.heap.size A n l :=
  (h.below hb hB).more (Nat.le_trans hB hb.size)
theorem Rd8.nil (w : World) (B : Nat) (A : Option Addr) : Rd8 w B A 0 [] := ⟨rfl, by intro x hx; simp at hx, fun h => absurd h (by omega)⟩
theorem Rd8.at_ {w : World} {B n : Nat} {A : Option Addr} {l : List Nat} (h : Rd8 w B A n l) {k : Nat} (hk : k < n) :
    ∃ b off, A = some ⟨b, off, none⟩ ∧ b < B ∧ w.cell? ⟨b, off + k, none⟩ = some (.int .u8 (at64 l k)) := by
  obtain ⟨b, off, e, hb, hc⟩ := h.cells (by omega)
  exact ⟨b, off, e, hb, hc k hk⟩

theorem u8_info : (Tryz.prog.info? 5).map (fun i => (i.zero, i.size, i.bytes)) = some (some (.int .u8 0), 1, 1) := by kernel_rfl
/-- n words that are 0. -/
def zeros8 (n : Nat) : Array Value := madeCells (Value.int .u8 0).cells (n * 1)
theorem zeros8_eq (n : Nat) : zeros8 n = ((List.replicate n 0).map fun (x : Nat) => Value.int .u8 (x : Int)).toArray := by
  unfold zeros8 madeCells
  apply Array.ext
  · simp
  · intro i h1 h2
    simp [Value.cells, Nat.mod_one]
theorem make8 (n c : Nat) (hn : n ≤ c) (hc : c ≤ 1000000) (w : World) : (Instr.makeSlice 22 (.int .i64 (n : Int)) (.int .i64 (c : Int))).run Tryz.prog w =
    .ok (.slice (some ⟨w.heap.size, 0, none⟩) n c) (w.alloc (.cells (zeros8 c) 5)) := by
  obtain ⟨i, hi, hz, hs, hb⟩ := info_parts u8_info
  have hr := run_make (P := Tryz.prog) w 22 5 i _ Tryz.underlying22 hi hz .i64 .i64 n c (by omega) (by omega) (by rw [hb]; omega) (by omega)
  simp only [Int.toNat_natCast, hs] at hr
  exact hr
theorem make8I (n c : Nat) (hn : n ≤ c) (hc : c ≤ 1000000) (N C : Int) (e1 : N = (n : Int)) (e2 : C = (c : Int)) (w : World) : (Instr.makeSlice 22 (.int .i64 N) (.int .i64 C)).run Tryz.prog w =
    .ok (.slice (some ⟨w.heap.size, 0, none⟩) n c) (w.alloc (.cells (zeros8 c) 5)) := by subst e1 e2; exact make8 n c hn hc w
def cells8 (l : List Nat) : List Value := l.map fun (x : Nat) => Value.int .u8 (x : Int)

/-- The slice value v owns the words l, among the blocks from base on. -/
structure OwnB (w : World) (base : Nat) (v : Value) (l : List Nat) : Prop where
  own : w.ownsRow base 5 1 v l.length (cells8 l)
  lt : allLt8 l

theorem OwnB.alloc {w : World} {base : Nat} {v : Value} {l : List Nat} (h : OwnB w base v l) (o : Obj) : OwnB (w.alloc o) base v l := ⟨h.own.alloc o, h.lt⟩
theorem OwnB.rd {w : World} {base : Nat} {v : Value} {l : List Nat} (h : OwnB w base v l) : ∃ A c, v = .slice A l.length c ∧ l.length ≤ c ∧ Rd8 w w.heap.size A l.length l := by
  rcases h.own.2 with ⟨rfl, hn⟩ | ⟨g, cap, cur, rfl, hb, hg, hc, _, _, ht⟩
  · have : l = [] := List.eq_nil_of_length_eq_zero hn
    subst this
    exact ⟨none, 0, rfl, Nat.le_refl _, Rd8.nil _ _ _⟩
  · refine ⟨some ⟨g, 0, none⟩, cap, rfl, hc, rfl, h.lt, fun _ => ⟨g, 0, rfl, (Array.getElem?_eq_some_iff.1 hg).1, fun i hi => ?_⟩⟩
    have := h.own.cells (g := g) rfl i (.int .u8 (at64 l i)) (by simp [cells8, at64, List.getElem?_eq_getElem hi, List.getD_eq_getElem?_getD])
    have hadd : (⟨g, 0, none⟩ : Addr).add i = ⟨g, 0 + i, none⟩ := by unfold Addr.add; split <;> simp_all
    rw [hadd] at this
    exact this
theorem ownB_nil (w : World) (base : Nat) : OwnB w base (.slice none 0 0) [] := ⟨World.ownsRow_nil w base _ 1, fun x hx => by simp at hx⟩
/-- make([]uint64, 0, c). -/
theorem ownB_made (w : World) (c : Nat) (hc : c ≤ 1000000) : OwnB (w.alloc (.cells (zeros8 c) 5)) w.heap.size (.slice (some ⟨w.heap.size, 0, none⟩) 0 c) [] :=
  ⟨World.ownsRow_made w (zeros8 c) c (Nat.le_refl _) (by unfold maxLen; omega) (by simp [zeros8, size_madeCells]), fun x hx => by simp at hx⟩
theorem append_bytes {ops : Array Oper} {rest : List Oper} {o : Oper} {a : Act} {Q : Exit → Act → World → Prop} {w : World} (hgd : o.guard = none) (s x : Operand)
    (ho : o.op = .call { callee := .builtin .append, args := #[s, x], argTypes := #[22, 22] })
    (base : Nat) (v : Value) (l : List Nat) (hs : a.eval s = v) (hown : OwnB w base v l) (b c : Nat) (news : List Nat) (hnl : allLt8 news) (hx : a.eval x = .slice (some ⟨b, 0, none⟩) news.length c)
    (hcell : ∀ i, i < news.length → w.cell? ⟨b, i, none⟩ = some (.int .u8 (at64 news i))) (hlen : l.length + news.length ≤ 1000000) (hbase : base ≤ w.heap.size)
    (h : ∀ v' w', OwnB w' base v' (l ++ news) → Below base w w' → wpList Tryz.prog ops Q rest (a.put o.dst v') w') : wpList Tryz.prog ops Q (o :: rest) a w := by
  obtain ⟨i0, hi, hz, hs1, hb⟩ := info_parts u8_info
  refine wpList_append_own w hgd s x 22 ho base 5 i0 (.int .u8 0) 1 1 Tryz.underlying22 hi hz hs1 hb rfl (by decide) v l.length (cells8 l) hs hown.own ⟨b, 0, none⟩ news.length c (cells8 news) hx
    (by simp [cells8]) ?_ ?_ (by unfold maxLen; omega) (by omega) hbase ?_
  · intro j u hj
    have hadd : (⟨b, 0, none⟩ : Addr).add j = ⟨b, j, none⟩ := by unfold Addr.add; split <;> simp_all
    rw [hadd]
    have hjl : j < news.length := by
      have := (List.getElem?_eq_some_iff.1 hj).1
      simpa [cells8] using this
    rw [hcell j hjl, ← hj]
    simp [cells8, at64, List.getElem?_eq_getElem hjl, List.getD_eq_getElem?_getD]
  · intro u hu
    simp only [cells8, List.mem_map] at hu
    obtain ⟨y, _, rfl⟩ := hu
    rfl
  · intro v' w' ho' hg _
    refine h v' w' ⟨?_, ?_⟩ ((Below.refl _ _).grown hg hbase fun k hk => (hown.own.lt k hk).1)
    · have e : cells8 (l ++ news) = cells8 l ++ cells8 news := by simp [cells8]
      rw [e, List.length_append]
      exact ho'
    · intro y hy
      rcases List.mem_append.1 hy with h' | h'
      · exact hown.lt y h'
      · exact hnl y h'

/-- append of one word, in the world behind the building of its one-word slice. -/
theorem append_byte {ops : Array Oper} {rest : List Oper} {o : Oper} {a : Act} {Q : Exit → Act → World → Prop} {w : World} (hgd : o.guard = none) (s x : Operand)
    (ho : o.op = .call { callee := .builtin .append, args := #[s, x], argTypes := #[22, 22] })
    (base : Nat) (v : Value) (l : List Nat) (hs : a.eval s = v) (hown : OwnB w base v l) (X : Int) (n : Nat) (hX : X = (n : Int)) (hn : n < 256) (hx : a.eval x = .slice (some ⟨w.heap.size, 0, none⟩) 1 1)
    (hlen : l.length ≤ 100000) (hbase : base ≤ w.heap.size)
    (h : ∀ v' w', OwnB w' base v' (l ++ [n]) → Below base w w' → wpList Tryz.prog ops Q rest (a.put o.dst v') w') : wpList Tryz.prog ops Q (o :: rest) a (w.alloc (.cells #[.int .u8 X] 5)) := by
  subst hX
  refine append_bytes hgd s x ho base v l hs (hown.alloc _) w.heap.size 1 [n] (fun y hy => by simp at hy; omega) hx ?_ (by simp; omega) (by simp; omega) fun v' w' h1 h2 => h v' w' h1 (((Below.refl _ _).alloc hbase _).trans h2)
  intro i hi
  have : i = 0 := by simp at hi; omega
  subst this
  simp [at64]


theorem Rd8.drewN {w : World} {B n : Nat} {A : Option Addr} {l : List Nat} (h : Rd8 w B A n l) (k : Nat) : Rd8 (w.drewN k) B A n l := ⟨h.len, h.lt, h.cells⟩
end Go.Proofs.YtdepkfdceidikaaGreatDoor
/-
  limb.Bytes, avouchref01.Bytes: what each call does.
-/
namespace Go.Proofs.YtdepkfdceidikaaGreatDoor
open Go.RowKit
set_option linter.unusedVariables false

/-- The slice of e is new, has n bytes, and reads as a list whose number is X. -/
def Bts (w : World) (e : Ending) (w' : World) (n X : Nat) : Prop :=
  ∃ A c l, e = .returned (.slice A n c) ∧ n ≤ c ∧ Rd8 w' w'.heap.size A n l ∧ val 256 l = X ∧ Below w.heap.size w w'

theorem pow256 (k j : Nat) : 256 ^ (8 * k + j) = 256 ^ j * 18446744073709551616 ^ k := by
  rw [Nat.pow_add, Nat.pow_mul, Nat.mul_comm]
theorem byte_step (p x j P : Nat) : p + x % 256 ^ j * P + x / 256 ^ j % 256 * (256 ^ j * P) = p + x % 256 ^ (j + 1) * P := by
  have e : x % 256 ^ (j + 1) = x % 256 ^ j + 256 ^ j * (x / 256 ^ j % 256) := by rw [Nat.pow_succ, Nat.mod_mul]
  rw [e]
  generalize x / 256 ^ j % 256 = y
  generalize x % 256 ^ j = z
  generalize 256 ^ j = Q
  grind
theorem octet_at (x j : Nat) : (x : Int) / 2 ^ (8 * j) % 256 = ((x / 256 ^ j % 256 : Nat) : Int) := by
  have e : ((2 : Int) ^ (8 * j)) = ((256 ^ j : Nat) : Int) := by rw [Int.pow_mul]; simp
  rw [e, ← Int.natCast_ediv]; omega
theorem word_mod (x : Nat) (h : x < 18446744073709551616) : x % 256 ^ 8 = x := Nat.mod_eq_of_lt h
theorem ownB_empty (w : World) : OwnB (w.alloc (.cells #[] 5)) w.heap.size (.slice (some ⟨w.heap.size, 0, none⟩) 0 0) [] :=
  ⟨World.ownsRow_made w #[] 0 (Nat.le_refl _) (Nat.zero_le _) rfl, fun x hx => by simp at hx⟩

set_option maxHeartbeats 1000000 in
theorem limbBytes_c (A : Option Addr) (n c : Nat) (l : List Nat) (w : World) (ha : Rd w w.heap.size A n l) (hn : n ≤ 1000) :
    Calls Tryz.prog 101 #[.slice A n c] w fun e w' => Bts w e w' (8 * n) (val 18446744073709551616 l) := by
  have hmk := make8I 0 (8 * n) (Nat.zero_le _) (by omega) 0 ((n : Int) * 8) rfl (by omega)
  go_enter Tryz.func101, Tryz.ntmps101
  go_wp2
  clear hmk
  go_loopw [3, 13] (fun v i wr => ∃ k : Nat, ∃ r : List Nat, k ≤ n ∧ i = .int .i64 k ∧ Hid (r.length = 8 * k) ∧ OwnB wr w.heap.size v r ∧ Below w.heap.size w wr ∧ Hid (val 256 r = pv 18446744073709551616 l k)) (fun _ i _ => n - (intOf i).toNat)
  case atStart => exact ⟨0, [], Nat.zero_le _, rfl, rfl, ownB_made w (8 * n) (by omega), (Below.refl _ _).alloc (Nat.le_refl _) _, rfl⟩
  case round =>
    obtain ⟨k, r, hk, rfl, HL, hown, hbl, HE⟩ := hrel
    by_cases hlt : k < n
    · have ra := ha.below hbl (Nat.le_refl _)
      obtain ⟨ba, oa, rfl, hba, hca⟩ := ra.at_ hlt
      have x0 := at64_nonneg l k
      obtain ⟨w1, rfl⟩ : ∃ x, x = wr := ⟨wr, rfl⟩
      go_wp2
      go_loopw [3, 17] (fun v i wj => ∃ j : Nat, ∃ r : List Nat, j ≤ 8 ∧ i = .int .i64 j ∧ Hid (r.length = 8 * k + j) ∧ OwnB wj w.heap.size v r ∧ Below w.heap.size w wj ∧ Hid (val 256 r = pv 18446744073709551616 l k + l.getD k 0 % 256 ^ j * 18446744073709551616 ^ k)) (fun _ i _ => 8 - (intOf i).toNat)
      case atStart => exact ⟨0, r, by omega, rfl, HL, hown, hbl, by show _ = _; rw [HE.out, Nat.pow_zero, Nat.mod_one, Nat.zero_mul, Nat.add_zero]⟩
      case round =>
        obtain ⟨j, r2, hj, rfl, HL2, hown2, hbl2, HE2⟩ := hrel
        by_cases hlt2 : j < 8
        · have hsz := hbl2.size
          have hl' : r2.length ≤ 100000 := by rw [HL2.out]; omega
          have i0 : (0 : Int) ≤ 8 * (j : Int) := by omega
          have i1 : 8 * (j : Int) ≤ 64 := by omega
          have hs8 : IntKind.i64.wrap (8 * (j : Int)) = 8 * (j : Int) := by rw [IntKind.wrap_i64]; omega
          go_wp2_with (at_builtin; refine append_byte rfl (.tmp 20) (.tmp 26) rfl w.heap.size _ r2 rfl hown2 _ (l.getD k 0 / 256 ^ j % 256) ?e1 ?e2 rfl hl' hsz ?_)
          case e1 => exact octet_at _ _
          case e2 => exact Nat.mod_lt _ (by decide)
          intro v' w' hown' hb'
          have hb2 := hbl2.trans hb'
          have HL3 : Hid ((r2 ++ [l.getD k 0 / 256 ^ j % 256]).length = 8 * k + (j + 1)) := by show _ = _; rw [List.length_append, HL2.out]; rfl
          have HE3 : Hid (val 256 (r2 ++ [l.getD k 0 / 256 ^ j % 256]) = pv 18446744073709551616 l k + l.getD k 0 % 256 ^ (j + 1) * 18446744073709551616 ^ k) := by
            show _ = _
            rw [val_append, HE2.out, HL2.out, pow256]
            exact byte_step _ _ _ _
          go_wp2
          go_roundw
          case rel => exact ⟨j + 1, _, by omega, by go_num, HL3, hown', hb2, HE3⟩
          case measure => simp [intOf]; omega
        · obtain rfl : j = 8 := by omega
          have HE4 : Hid (val 256 r2 = pv 18446744073709551616 l (k + 1)) := by
            show _ = _
            rw [HE2.out, word_mod _ (getD_lt _ (by decide) l ha.lt k), pv_succ]
          have HL4 : Hid (r2.length = 8 * (k + 1)) := by show _ = _; rw [HL2.out]; omega
          go_wp2
          go_roundw
          case rel => exact ⟨k + 1, r2, by omega, by go_num, HL4, hown2, hbl2, HE4⟩
          case measure => simp [intOf]; omega
    · obtain rfl : k = n := by omega
      have HV : Hid (val 256 r = val 18446744073709551616 l) := by show _ = _; rw [HE.out, pv_out _ _ _ (by rw [ha.len]; exact Nat.le_refl _)]
      obtain ⟨A', c', rfl, hc', rd'⟩ := hown.rd
      rw [HL.out] at rd' hc' ⊢
      go_wp2
      go_ret
      exact ⟨A', c', r, rfl, hc', rd', HV.out, hbl⟩

set_option maxHeartbeats 1000000 in
theorem refBytes_c (A : Option Addr) (n c : Nat) (l : List Nat) (w : World) (ha : Rd w w.heap.size A n l) (hn : n ≤ 1000) :
    Calls Tryz.prog 72 #[.slice A n c] w fun e w' => Bts w e w' (8 * n) (val 18446744073709551616 l) := by
  go_enter Tryz.func72, Tryz.ntmps72
  go_wp2
  go_loopw [3, 4] (fun v i wr => ∃ k : Nat, ∃ r : List Nat, k ≤ n ∧ i = .int .i64 k ∧ Hid (r.length = 8 * k) ∧ OwnB wr w.heap.size v r ∧ Below w.heap.size w wr ∧ Hid (val 256 r = pv 18446744073709551616 l k)) (fun _ i _ => n - (intOf i).toNat)
  case atStart => exact ⟨0, [], Nat.zero_le _, rfl, rfl, ownB_empty w, (Below.refl _ _).alloc (Nat.le_refl _) _, rfl⟩
  case round =>
    obtain ⟨k, r, hk, rfl, HL, hown, hbl, HE⟩ := hrel
    by_cases hlt : k < n
    · have ra := ha.below hbl (Nat.le_refl _)
      obtain ⟨ba, oa, rfl, hba, hca⟩ := ra.at_ hlt
      obtain ⟨w1, rfl⟩ : ∃ x, x = wr := ⟨wr, rfl⟩
      go_wp2
      go_loopw [3, 5, 6] (fun v x i wj => ∃ j : Nat, ∃ r : List Nat, j ≤ 8 ∧ i = .int .i64 j ∧ x = .int .u64 ((l.getD k 0 / 256 ^ j : Nat) : Int) ∧ Hid (r.length = 8 * k + j) ∧ OwnB wj w.heap.size v r ∧ Below w.heap.size w wj ∧ Hid (val 256 r = pv 18446744073709551616 l k + l.getD k 0 % 256 ^ j * 18446744073709551616 ^ k)) (fun _ _ i _ => 8 - (intOf i).toNat)
      case atStart => exact ⟨0, r, by omega, rfl, by rw [Nat.pow_zero, Nat.div_one]; rfl, HL, hown, hbl, by show _ = _; rw [HE.out, Nat.pow_zero, Nat.mod_one, Nat.zero_mul, Nat.add_zero]⟩
      case round =>
        obtain ⟨j, r2, hj, rfl, rfl, HL2, hown2, hbl2, HE2⟩ := hrel
        by_cases hlt2 : j < 8
        · have hsz := hbl2.size
          have hl' : r2.length ≤ 100000 := by rw [HL2.out]; omega
          have HQ : Hid (l.getD k 0 / 256 ^ j / 256 = l.getD k 0 / 256 ^ (j + 1)) := by show _ = _; rw [Nat.pow_succ, Nat.div_div_eq_div_mul]
          have HL3 : Hid ((r2 ++ [l.getD k 0 / 256 ^ j % 256]).length = 8 * k + (j + 1)) := by show _ = _; rw [List.length_append, HL2.out]; rfl
          have HE3 : Hid (val 256 (r2 ++ [l.getD k 0 / 256 ^ j % 256]) = pv 18446744073709551616 l k + l.getD k 0 % 256 ^ (j + 1) * 18446744073709551616 ^ k) := by
            show _ = _
            rw [val_append, HE2.out, HL2.out, pow256]
            exact byte_step _ _ _ _
          have HX : Hid (l.getD k 0 / 256 ^ j < 18446744073709551616) := Nat.lt_of_le_of_lt (Nat.div_le_self _ _) (getD_lt _ (by decide) l ha.lt k)
          generalize l.getD k 0 / 256 ^ j = x at *
          have x0 : (0 : Int) ≤ (x : Int) := by omega
          go_wp2_with (at_builtin; refine append_byte rfl (.tmp 22) (.tmp 26) rfl w.heap.size _ r2 rfl hown2 _ (x % 256) ?e1 ?e2 rfl hl' hsz ?_)
          case e1 => omega
          case e2 => exact Nat.mod_lt _ (by decide)
          intro v' w' hown' hb'
          have hb2 := hbl2.trans hb'
          go_wp2
          go_roundw
          case rel => exact ⟨j + 1, _, by omega, by go_num, by rw [← HQ.out]; exact congrArg (Value.int .u64) (by rw [IntKind.wrap_u64]; have := HX.out; omega), HL3, hown', hb2, HE3⟩
          case measure => simp [intOf]; omega
        · obtain rfl : j = 8 := by omega
          have HE4 : Hid (val 256 r2 = pv 18446744073709551616 l (k + 1)) := by
            show _ = _
            rw [HE2.out, word_mod _ (getD_lt _ (by decide) l ha.lt k), pv_succ]
          have HL4 : Hid (r2.length = 8 * (k + 1)) := by show _ = _; rw [HL2.out]; omega
          go_wp2
          go_roundw
          case rel => exact ⟨k + 1, r2, by omega, by go_num, HL4, hown2, hbl2, HE4⟩
          case measure => simp [intOf]; omega
    · obtain rfl : k = n := by omega
      have HV : Hid (val 256 r = val 18446744073709551616 l) := by show _ = _; rw [HE.out, pv_out _ _ _ (by rw [ha.len]; exact Nat.le_refl _)]
      obtain ⟨A', c', rfl, hc', rd'⟩ := hown.rd
      rw [HL.out] at rd' hc' ⊢
      go_wp2
      go_ret
      exact ⟨A', c', r, rfl, hc', rd', HV.out, hbl⟩
end Go.Proofs.YtdepkfdceidikaaGreatDoor
/-
  limb.Words, avouchref01.OfBytes: what each call does.
-/
namespace Go.Proofs.YtdepkfdceidikaaGreatDoor
open Go.RowKit
set_option linter.unusedVariables false

theorem pv_empty (W k : Nat) : pv W [] k = 0 := by
  induction k with
  | zero => rfl
  | succ k ih => rw [pv_succ, ih]; simp
theorem pv_drop_out (W : Nat) (l : List Nat) (i k k' : Nat) (h : l.length ≤ i + k) (h' : l.length ≤ i + k') : pv W (l.drop i) k = pv W (l.drop i) k' := by
  rw [pv_out W _ k (by simp; omega), pv_out W _ k' (by simp; omega)]
theorem pv_chunks (c : Nat) (ws b : List Nat) (m : Nat) (h : ∀ j, j < m → ws.getD j 0 = pv 256 (b.drop (c * j)) c) : pv (256 ^ c) ws m = pv 256 b (c * m) := by
  induction m with
  | zero => rfl
  | succ m ih => rw [pv_succ, ih fun j hj => h j (by omega), h m (by omega), Nat.mul_succ, pv_drop, ← Nat.pow_mul, Nat.mul_comm (pv 256 (List.drop (c * m) b) c)]
theorem lt8_drop {b : List Nat} (h : allLt8 b) (i : Nat) : allLt8 (b.drop i) := fun x hx => h x (List.mem_of_mem_drop hx)

/-- Word j of the words of b, when k bytes are laid. -/
def wb (b : List Nat) (k j : Nat) : Nat := pv 256 (b.drop (8 * j)) (min (k - 8 * j) 8)
theorem wb_lt (b : List Nat) (h : allLt8 b) (k j : Nat) : wb b k j < 18446744073709551616 := by
  have h1 := pv_lt 256 (by decide) _ (lt8_drop h (8 * j)) (min (k - 8 * j) 8)
  have h2 : 256 ^ min (k - 8 * j) 8 ≤ 256 ^ 8 := Nat.pow_le_pow_right (by decide) (Nat.min_le_right _ _)
  unfold wb; omega
theorem wb_at (b : List Nat) (k q r : Nat) (hk : k = 8 * q + r) (hr : r < 8) : wb b (k + 1) q = wb b k q + b.getD k 0 * 256 ^ r := by
  unfold wb
  rw [show min (k + 1 - 8 * q) 8 = r + 1 by omega, show min (k - 8 * q) 8 = r by omega, pv_succ, getD_drop, ← hk]
theorem wb_small (b : List Nat) (h : allLt8 b) (k q r : Nat) (hk : k = 8 * q + r) (hr : r < 8) : wb b k q < 256 ^ r := by
  have h1 := pv_lt 256 (by decide) _ (lt8_drop h (8 * q)) r
  unfold wb
  rw [show min (k - 8 * q) 8 = r by omega]; exact h1
theorem wb_ne (b : List Nat) (k q r j : Nat) (hk : k = 8 * q + r) (hr : r < 8) (hj : j ≠ q) : wb b (k + 1) j = wb b k j := by
  unfold wb
  rw [show min (k + 1 - 8 * j) 8 = min (k - 8 * j) 8 by omega]

/-- The relation of the loop of Words: k bytes are laid. -/
def WoRel (w : World) (m : Nat) (b : List Nat) (wr : World) (k : Nat) : Prop :=
  ∃ ws : List Nat, ws.length = m ∧ BlkW wr w.heap.size 34 ws ∧ Below w.heap.size w wr ∧ ∀ j, j < m → ws.getD j 0 = wb b k j
theorem WoRel.drew {w wr : World} {m k : Nat} {b : List Nat} (h : WoRel w m b wr k) : WoRel w m b wr.drew k := by
  obtain ⟨ws, hl, hB, hb, hj⟩ := h
  exact ⟨ws, hl, ⟨hB.heap, hB.lt⟩, hb.drew, hj⟩
theorem WoRel.step {w wr : World} {m k q r : Nat} {b : List Nat} (h8 : allLt8 b) (h : WoRel w m b wr k) (hk : k = 8 * q + r) (hr : r < 8) (hq : q < m) (v : Int) (hv : v = (wb b (k + 1) q : Nat)) :
    WoRel w m b (wr.setCell ⟨w.heap.size, q, none⟩ (.int .u64 v)) (k + 1) := by
  obtain ⟨ws, hl, hB, hb, hj⟩ := h
  refine ⟨ws.set q (wb b (k + 1) q), by simp [hl], hB.setI _ _ _ (wb_lt _ h8 _ _) hv, hb.setCell (Nat.le_refl _) _, fun j hjm => ?_⟩
  by_cases hjq : j = q
  · subst hjq
    rw [getD_set_eq _ _ _ (by omega)]
  · rw [getD_set_ne _ _ _ _ (by omega), hj j hjm, wb_ne b k q r j hk hr hjq]
theorem WoRel.end_ {w wr : World} {m n : Nat} {b : List Nat} (h : WoRel w m b wr n) (hn : b.length = n) (hm : n ≤ 8 * m) :
    ∃ ws, ws.length = m ∧ BlkW wr w.heap.size 34 ws ∧ Below w.heap.size w wr ∧ val 18446744073709551616 ws = val 256 b := by
  obtain ⟨ws, hl, hB, hb, hj⟩ := h
  refine ⟨ws, hl, hB, hb, ?_⟩
  have e := pv_chunks 8 ws b m fun j hjm => by
    rw [hj j hjm]; unfold wb
    by_cases hc : n - 8 * j < 8
    · exact pv_drop_out _ _ _ _ _ (by omega) (by omega)
    · rw [show min (n - 8 * j) 8 = 8 by omega]
  rw [pv_out 256 b _ (by omega)] at e
  rw [← e]
  unfold val
  rw [hl]
theorem or_byte (x y r s : Nat) (hx : x < 256 ^ r) (hs : s = 8 * r) : x ||| y * 2 ^ s = x + y * 256 ^ r := by
  have e : 256 ^ r = 2 ^ s := by rw [hs, Nat.pow_mul]
  rw [e] at hx ⊢
  rw [Nat.or_comm, ← Nat.shiftLeft_eq, ← Nat.shiftLeft_add_eq_or_of_lt hx, Nat.add_comm]
theorem byte_up (y r : Nat) (hy : y < 256) (hr : r < 8) : y * 256 ^ r < 18446744073709551616 := by
  have h2 : 256 ^ r ≤ 256 ^ 7 := Nat.pow_le_pow_right (by decide) (by omega)
  have h1 := Nat.mul_le_mul (show y ≤ 255 by omega) h2
  omega

set_option maxRecDepth 100000 in
set_option maxHeartbeats 1000000 in
theorem limbWords_n (A : Option Addr) (n c : Nat) (b : List Nat) (w : World) (ha : Rd8 w w.heap.size A n b) (hn : n ≤ 1000) :
    Calls Tryz.prog 61 #[.slice A n c] w fun e w' => ∃ l, e = .returned (.slice (some ⟨w.heap.size, 0, none⟩) ((n + 7) / 8) ((n + 7) / 8)) ∧ l.length = (n + 7) / 8 ∧ BlkW w' w.heap.size 34 l ∧ val 18446744073709551616 l = val 256 b ∧ Below w.heap.size w w' := by
  obtain ⟨m, hm⟩ : ∃ m, m = (n + 7) / 8 := ⟨_, rfl⟩
  rw [← hm]
  have hmk := make64I m m (Nat.le_refl _) (by omega) (((n : Int) + 8 - 1) / 8) (((n : Int) + 8 - 1) / 8) (by omega) (by omega)
  have hm1 : n ≤ 8 * m := by omega
  have hm2 : 8 * m ≤ n + 7 := by omega
  clear hm
  go_enter Tryz.func61, Tryz.ntmps61
  go_wp2
  clear hmk
  go_loopw [14] (fun i wr => ∃ k : Nat, k ≤ n ∧ i = .int .i64 k ∧ WoRel w m b wr k) (fun i _ => n - (intOf i).toNat)
  case atStart =>
    refine ⟨0, Nat.zero_le _, rfl, List.replicate m 0, by simp, blk_zeros w _, (Below.refl _ _).alloc (Nat.le_refl _) _, fun j hj => ?_⟩
    unfold wb
    rw [Nat.zero_sub, Nat.zero_min, pv_zero, List.getD_eq_getElem?_getD, List.getElem?_replicate, if_pos hj]; rfl
  case round =>
    obtain ⟨k, hk, rfl, hrel⟩ := hrel
    by_cases hlt : k < n
    · obtain ⟨ws, hl, hB, hb, hj⟩ := id hrel
      obtain ⟨ba, oa, rfl, hba, hca⟩ := (ha.below hb (Nat.le_refl _)).at_ hlt
      obtain ⟨q, hq⟩ : ∃ q, q = k / 8 := ⟨_, rfl⟩
      obtain ⟨r, hr⟩ : ∃ r, r = k % 8 := ⟨_, rfl⟩
      obtain ⟨s, hs⟩ : ∃ s, s = 8 * r := ⟨_, rfl⟩
      obtain ⟨y, hy⟩ : ∃ y, y = b.getD k 0 * 256 ^ r := ⟨_, rfl⟩
      have hkq : k = 8 * q + r := by omega
      have hr8 : r < 8 := by omega
      have hqm : q < m := by omega
      have hcell := hB.cell (i := q) (by omega)
      have hfz := hB.frozen q
      have d1 : IntKind.i64.wrap ((k : Int) / 8) = (q : Int) := by rw [IntKind.wrap_i64]; omega
      have d2 : (k : Int).tmod 8 = (r : Int) := by rw [Int.tmod_eq_emod_of_nonneg (by omega)]; omega
      have d3 : IntKind.i64.wrap (8 * (r : Int)) = (s : Int) := by rw [IntKind.wrap_i64]; omega
      have b8 := getD_lt _ (by decide) b ha.lt k
      have d4 : IntKind.u64.wrap (at64 b k) = at64 b k := by rw [IntKind.wrap_u64]; unfold at64; omega
      have yl : y < 18446744073709551616 := by rw [hy]; exact byte_up _ _ b8 hr8
      have d5 : IntKind.u64.wrap (at64 b k * 2 ^ s) = (y : Int) := by
        rw [at64, up_word0, hs, Nat.pow_mul, hy]
        rw [hy] at yl
        exact congrArg Int.ofNat (Nat.mod_eq_of_lt yl)
      have HST := hid (WoRel.step ha.lt hrel hkq hr8 hqm (bits .or .u64 (at64 ws q) (y : Int)) (by
        have h1 := wb_small b ha.lt k q r hkq hr8
        have e := hj q hqm
        rw [at64, bits_or_u64_nat _ _ (getD_lt _ (by decide) ws hB.lt _) yl, e, wb_at b k q r hkq hr8, hy]
        have := or_byte (wb b k q) (b.getD k 0) r s h1 hs
        rw [hs, Nat.pow_mul] at this
        exact congrArg Int.ofNat this))
      have i0 : (0 : Int) ≤ (q : Int) := by omega
      have i1 : (q : Int) < (m : Int) := by omega
      have i2 : (0 : Int) ≤ (s : Int) := by omega
      have i3 : (s : Int) ≤ 63 := by omega
      have i4 : s ≤ 63 := by omega
      have x0 := at64_nonneg b k
      have x1 := at64_nonneg ws q
      have HL := hid hl
      clear hl hj hy hq hr hs b8 yl hkq
      go_wp2
      go_still_tail 13, (by kernel_rfl)
      change wpList _ _ _ _ _ wr.drew
      clear d1 d2 d3 d4 d5
      go_wp2
      go_roundw
      case rel => exact ⟨k + 1, by omega, by go_num, HST.out.drew⟩
      case measure => simp [intOf]; omega
    · obtain rfl : k = n := by omega
      obtain ⟨ws, hl, hB, hb, hV⟩ := hrel.end_ ha.len (by omega)
      have HV := hid hV
      have HL := hid hl
      clear hl hV
      go_wp2
      go_ret
      exact ⟨ws, rfl, HL.out, hB, HV.out, hb⟩
theorem limbWords_c (A : Option Addr) (n c : Nat) (b : List Nat) (w : World) (ha : Rd8 w w.heap.size A n b) (hn : n ≤ 1000) :
    Calls Tryz.prog 61 #[.slice A n c] w fun e w' => Wds w e w' ((n + 7) / 8) (val 256 b) := by
  refine (limbWords_n A n c b w ha hn).mono ?_
  rintro e w' ⟨l, rfl, hl, hB, hv, hb⟩
  have rd := hB.rd (off := 0) (n := l.length) (B := w'.heap.size) (by omega) hB.size
  rw [List.drop_zero, List.take_length, hl] at rd
  exact ⟨_, _, l, rfl, Nat.le_refl _, rd, hv, hb⟩
end Go.Proofs.YtdepkfdceidikaaGreatDoor
