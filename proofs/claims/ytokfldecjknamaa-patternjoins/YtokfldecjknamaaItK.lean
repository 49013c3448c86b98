/-
  Encode and Decode, the program's and the document's, each by one contract.
-/
import Derived.Test.YtokfldecjknamaaItH
import Derived.Test.YtokfldecjknamaaItI
import Derived.Test.YtokfldecjknamaaItJ
namespace Go.Proofs.Ytokfldecjknamaa
open Go.RowKit
set_option linter.unusedVariables false

/-- What Encode answers. -/
def iE (k t c : Int) (s : ByteArray) : List Nat := if ck k t c s.size = 0 then itb k.toNat t.toNat c.toNat (bl s) else []
theorem iencode_c (k t c : Int) (s : ByteArray) (w : World) (hs : s.size ≤ 9223372036854775807) :
    Calls Try.prog 38 #[.agg #[.int .i64 k, .int .i64 t, .int .i64 c, .string s]] w fun e w' => ∃ v, e = .returned (.tuple #[v, .int .i64 (ck k t c s.size : Nat)]) ∧ OwnB w' w.heap.size v (iE k t c s) ∧ Below w.heap.size w w' := by
  unfold iE
  by_cases h : ck k t c s.size = 0
  · rw [if_pos h, h]
    obtain ⟨h1, h2, h3, h4, h5, h6, h7⟩ := ck_ok h
    obtain ⟨K, rfl⟩ : ∃ K : Nat, k = (K : Int) := ⟨k.toNat, by omega⟩
    obtain ⟨T, rfl⟩ : ∃ K : Nat, t = (K : Int) := ⟨t.toNat, by omega⟩
    obtain ⟨C, rfl⟩ : ∃ K : Nat, c = (K : Int) := ⟨c.toNat, by omega⟩
    exact iencode_ok K T C s w h
  · rw [if_neg h]
    refine (iencode_err k t c s w hs h).mono ?_
    rintro e w' ⟨rfl, hb⟩
    exact ⟨_, rfl, ownB_nil _ _, hb⟩
theorem rencode_c (k t c : Int) (s : ByteArray) (w : World) (hs : s.size ≤ 9223372036854775807) :
    Calls Try.prog 21 #[.agg #[.int .i64 k, .int .i64 t, .int .i64 c, .string s]] w fun e w' => ∃ v, e = .returned (.tuple #[v, .int .i64 (ck k t c s.size : Nat)]) ∧ OwnB w' w.heap.size v (iE k t c s) ∧ Below w.heap.size w w' := by
  unfold iE
  by_cases h : ck k t c s.size = 0
  · rw [if_pos h, h]
    obtain ⟨h1, h2, h3, h4, h5, h6, h7⟩ := ck_ok h
    obtain ⟨K, rfl⟩ : ∃ K : Nat, k = (K : Int) := ⟨k.toNat, by omega⟩
    obtain ⟨T, rfl⟩ : ∃ K : Nat, t = (K : Int) := ⟨t.toNat, by omega⟩
    obtain ⟨C, rfl⟩ : ∃ K : Nat, c = (K : Int) := ⟨c.toNat, by omega⟩
    exact rencode_ok K T C s w h
  · rw [if_neg h]
    refine (rencode_err k t c s w hs h).mono ?_
    rintro e w' ⟨rfl, hb⟩
    exact ⟨_, rfl, ownB_nil _ _, hb⟩
/-- What Decode answers: kind, type, count, label, and the bytes behind. -/
def dK (l : List Nat) : Nat := if decE l = 0 then hdk l else 0
def dT (l : List Nat) : Nat := if decE l = 0 then hdt l else 0
def dC (l : List Nat) : Nat := if decE l = 0 then hdc l else 0
def dL (l : List Nat) : List Nat := if decE l = 0 then lab l else []
def dR (l : List Nat) : List Nat := if decE l = 0 then l.drop (8 + hdl l) else []
theorem decE_short {l : List Nat} (h : l.length < 8 ∨ l.length < 8 + hdl l) : decE l = 2 := by unfold decE; rw [if_pos h]
theorem decE_long {l : List Nat} (h : ¬ (l.length < 8 ∨ l.length < 8 + hdl l)) : decE l = ck (hdk l) (hdt l) (hdc l) (hdl l) := by unfold decE; rw [if_neg h]
theorem dec_no {l : List Nat} (h : decE l ≠ 0) : dK l = 0 ∧ dT l = 0 ∧ dC l = 0 ∧ dL l = [] ∧ dR l = [] := by
  unfold dK dT dC dL dR
  rw [if_neg h, if_neg h, if_neg h, if_neg h, if_neg h]
  exact ⟨rfl, rfl, rfl, rfl, rfl⟩
theorem dec_yes {l : List Nat} (h : decE l = 0) : dK l = hdk l ∧ dT l = hdt l ∧ dC l = hdc l ∧ dL l = lab l ∧ dR l = l.drop (8 + hdl l) := by
  unfold dK dT dC dL dR
  rw [if_pos h, if_pos h, if_pos h, if_pos h, if_pos h]
  exact ⟨rfl, rfl, rfl, rfl, rfl⟩
theorem sb_nil : sb [] = ⟨#[]⟩ := rfl
theorem idecode_c (A : Option Addr) (n c : Nat) (l : List Nat) (w : World) (ha : Rd8 w w.heap.size A n l) (hcap : n ≤ c) (hn6 : n ≤ 1000000) :
    Calls Try.prog 39 #[.slice A n c] w fun e w' => ∃ A5 m c5, e = .returned (.tuple #[.agg #[.int .i64 (dK l : Nat), .int .i64 (dT l : Nat), .int .i64 (dC l : Nat), .string (sb (dL l))], .slice A5 m c5, .int .i64 (decE l : Nat)]) ∧ Rd8 w' w'.heap.size A5 m (dR l) ∧ Below w.heap.size w w' := by
  have hll := ha.len
  by_cases h0 : decE l = 0
  · obtain ⟨e1, e2, e3, e4, e5⟩ := dec_yes h0
    rw [e1, e2, e3, e4, e5, h0]
    by_cases h : l.length < 8 ∨ l.length < 8 + hdl l
    · rw [decE_short h] at h0; cases h0
    · rw [decE_long h] at h0
      refine (idecode_ok A n c l w ha (by omega) hcap hn6 h0).mono ?_
      rintro e w' ⟨A5, rfl, r, b⟩
      exact ⟨A5, _, _, rfl, r, b⟩
  · obtain ⟨e1, e2, e3, e4, e5⟩ := dec_no h0
    rw [e1, e2, e3, e4, e5, sb_nil]
    by_cases h : l.length < 8 ∨ l.length < 8 + hdl l
    · rw [decE_short h]
      by_cases h8 : n < 8
      · refine (idecode_s1 A n c w h8).mono ?_
        rintro e w' ⟨rfl, b⟩
        exact ⟨_, _, _, rfl, Rd8.nil _ _ _, b⟩
      · refine (idecode_s2 A n c l w ha (by omega) (by omega) hcap).mono ?_
        rintro e w' ⟨rfl, b⟩
        exact ⟨_, _, _, rfl, Rd8.nil _ _ _, b⟩
    · rw [decE_long h] at h0 ⊢
      refine (idecode_s3 A n c l w ha (by omega) hcap h0).mono ?_
      rintro e w' ⟨rfl, b⟩
      exact ⟨_, _, _, rfl, Rd8.nil _ _ _, b⟩
theorem rdecode_cB {B : Nat} (A : Option Addr) (n c : Nat) (l : List Nat) (w : World) (haB : Rd8 w B A n l) (hB : B ≤ w.heap.size) (hcap : n ≤ c) (hn6 : n ≤ 1000000) :
    Calls Try.prog 32 #[.slice A n c] w fun e w' => ∃ A5 m c5, e = .returned (.tuple #[.agg #[.int .i64 (dK l : Nat), .int .i64 (dT l : Nat), .int .i64 (dC l : Nat), .string (sb (dL l))], .slice A5 m c5, .int .i64 (decE l : Nat)]) ∧ Rd8 w' B A5 m (dR l) ∧ m ≤ c5 ∧ Below w.heap.size w w' := by
  have ha := haB.more hB
  have hll := ha.len
  by_cases h0 : decE l = 0
  · obtain ⟨e1, e2, e3, e4, e5⟩ := dec_yes h0
    rw [e1, e2, e3, e4, e5, h0]
    by_cases h : l.length < 8 ∨ l.length < 8 + hdl l
    · rw [decE_short h] at h0; cases h0
    · rw [decE_long h] at h0
      refine (rdecode_okB A n c l w haB hB (by omega) hcap hn6 h0).mono ?_
      rintro e w' ⟨A5, rfl, r, b⟩
      exact ⟨A5, _, _, rfl, r, by omega, b⟩
  · obtain ⟨e1, e2, e3, e4, e5⟩ := dec_no h0
    rw [e1, e2, e3, e4, e5, sb_nil]
    by_cases h : l.length < 8 ∨ l.length < 8 + hdl l
    · rw [decE_short h]
      by_cases h8 : n < 8
      · refine (rdecode_s1 A n c w h8).mono ?_
        rintro e w' ⟨rfl, b⟩
        exact ⟨_, _, _, rfl, Rd8.nil _ _ _, Nat.le_refl _, b⟩
      · refine (rdecode_s2 A n c l w ha (by omega) (by omega) hcap).mono ?_
        rintro e w' ⟨rfl, b⟩
        exact ⟨_, _, _, rfl, Rd8.nil _ _ _, Nat.le_refl _, b⟩
    · rw [decE_long h] at h0 ⊢
      refine (rdecode_err A n c l w ha (by omega) hcap h0).mono ?_
      rintro e w' ⟨rfl, b⟩
      exact ⟨_, _, _, rfl, Rd8.nil _ _ _, Nat.le_refl _, b⟩
theorem rdecode_c (A : Option Addr) (n c : Nat) (l : List Nat) (w : World) (ha : Rd8 w w.heap.size A n l) (hcap : n ≤ c) (hn6 : n ≤ 1000000) :
    Calls Try.prog 32 #[.slice A n c] w fun e w' => ∃ A5 m c5, e = .returned (.tuple #[.agg #[.int .i64 (dK l : Nat), .int .i64 (dT l : Nat), .int .i64 (dC l : Nat), .string (sb (dL l))], .slice A5 m c5, .int .i64 (decE l : Nat)]) ∧ Rd8 w' w'.heap.size A5 m (dR l) ∧ Below w.heap.size w w' := by
  refine (rdecode_cB A n c l w ha (Nat.le_refl _) hcap hn6).mono ?_
  rintro e w' ⟨A5, m, c5, rfl, r, _, b⟩
  exact ⟨A5, m, c5, rfl, r.more b.size, b⟩
/-- What was decoded is encoded as it was. -/
theorem dec_back {l : List Nat} (hl : allLt8 l) (h : decE l = 0) : ck (dK l : Nat) (dT l : Nat) (dC l : Nat) (sb (dL l)).size = 0 ∧ iE (dK l : Nat) (dT l : Nat) (dC l : Nat) (sb (dL l)) ++ dR l = l := by
  obtain ⟨e1, e2, e3, e4, e5⟩ := dec_yes h
  have hs : ¬ (l.length < 8 ∨ l.length < 8 + hdl l) := fun hh => by rw [decE_short hh] at h; cases h
  have h2 := h
  rw [decE_long hs] at h2
  rw [e1, e2, e3, e4, e5]
  have hlab : allLt8 (lab l) := (hl.drop 8).take _
  have hsz : (sb (lab l)).size = hdl l := by
    rw [← bl_len, bl_sb hlab]
    unfold lab
    rw [List.length_take, List.length_drop]
    omega
  refine ⟨by rw [hsz]; exact h2, ?_⟩
  unfold iE
  rw [hsz, if_pos h2, bl_sb hlab]
  exact itb_back hl (by omega)
theorem iE_lt (k t c : Int) (s : ByteArray) : allLt8 (iE k t c s) := by
  unfold iE
  split
  · rename_i h
    obtain ⟨h1, h2, h3, h4, h5, h6, h7⟩ := ck_ok h
    unfold itb
    intro x hx
    simp only [List.mem_append, List.mem_cons, List.not_mem_nil, or_false] at hx
    rcases hx with ((h | h) | h) | h
    · omega
    · exact le_lt _ _ x h
    · exact le_lt _ _ x h
    · exact bl_lt s x h
  · intro x hx; cases hx
/-- What was encoded is decoded as it was, whatever stands behind it. -/
theorem enc_back {k t c : Int} {s : ByteArray} (h : ck k t c s.size = 0) (m : List Nat) :
    decE (iE k t c s ++ m) = 0 ∧ (dK (iE k t c s ++ m) : Int) = k ∧ (dT (iE k t c s ++ m) : Int) = t ∧ (dC (iE k t c s ++ m) : Int) = c ∧ sb (dL (iE k t c s ++ m)) = s ∧ dR (iE k t c s ++ m) = m := by
  obtain ⟨h1, h2, h3, h4, h5, h6, h7⟩ := ck_ok h
  have hl := bl_len s
  have e : iE k t c s = itb k.toNat t.toNat c.toNat (bl s) := by unfold iE; rw [if_pos h]
  have x1 := itb_hdk k.toNat t.toNat c.toNat (bl s) m
  have x2 := itb_hdt k.toNat t.toNat c.toNat (bl s) m
  have x3 := itb_hdc (k := k.toNat) (t := t.toNat) (c := c.toNat) (l := bl s) (m := m) (by omega)
  have x4 := itb_hdl (k := k.toNat) (t := t.toNat) (c := c.toNat) (l := bl s) (m := m) (by omega)
  have x5 := itb_lab (k := k.toNat) (t := t.toNat) (c := c.toNat) (l := bl s) (m := m) (by omega)
  have x6 := itb_rest (k := k.toNat) (t := t.toNat) (c := c.toNat) (l := bl s) (m := m) (by omega)
  rw [← e] at x1 x2 x3 x4 x5 x6
  have hlen : (iE k t c s ++ m).length = 8 + s.size + m.length := by rw [List.length_append, e, itb_len, hl]
  have hE : decE (iE k t c s ++ m) = 0 := by
    rw [decE_long (by rw [hlen, x4, hl]; omega), x1, x2, x3, x4, hl, Int.toNat_of_nonneg (by omega), Int.toNat_of_nonneg (by omega), Int.toNat_of_nonneg (by omega)]
    exact h
  obtain ⟨e1, e2, e3, e4, e5⟩ := dec_yes hE
  rw [e1, e2, e3, e4, e5, x1, x2, x3, x5, x6]
  exact ⟨hE, by omega, by omega, by omega, sb_bl s, rfl⟩
end Go.Proofs.Ytokfldecjknamaa
