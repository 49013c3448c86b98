/-
  (*Modulus).Reduce, shorten, Mul, Len, Words: what each call does.
-/
import Derived.Test.YtpjjobophplleaaDoorLRest
import Derived.Test.YtpjjobophplleaaDoorRefC
namespace Go.Proofs.YtpjjobophplleaaDoor
open Go.RowKit
set_option linter.unusedVariables false

theorem pv_nil (W k : Nat) : pv W [] k = 0 := by
  induction k with
  | zero => rfl
  | succ k ih => rw [pv_succ, ih]; simp
theorem pv_zeros (W : Nat) (l : List Nat) (k m : Nat) (h : ∀ j, k ≤ j → l.getD j 0 = 0) (hm : k ≤ m) : pv W l m = pv W l k := by
  have := pv_tail W l [] k m (fun j hj => by rw [h j hj]; simp) hm
  rw [pv_nil, pv_nil] at this
  omega

/-- copy of the words of a slice into a new block of zeros. -/
theorem copy_words {ops : Array Oper} {rest : List Oper} {o : Oper} {a : Act} {Q : Exit → Act → World → Prop} {w w0 : World} {tb : TypeId} (hgd : o.guard = none) (d s : Operand)
    (ho : o.op = .call { callee := .builtin .copy, args := #[d, s], argTypes := #[32, 32] }) (g N c : Nat) (hd : a.eval d = .slice (some ⟨g, 0, none⟩) N c) (A : Option Addr) (n cs B : Nat) (l : List Nat)
    (hs : a.eval s = .slice A n cs) (hr : Rd w B A n l) (hN : n ≤ N) (hB : BlkW w g tb (List.replicate N 0)) (hb : Below g w0 w)
    (h : ∀ w', BlkW w' g tb (l ++ List.replicate (N - n) 0) → Below g w0 w' → wpList Tryd.prog ops Q rest (a.put o.dst (goInt n)) w') : wpList Tryd.prog ops Q (o :: rest) a w := by
  have hlen : (cellsOf64 l).length = n := by simp [cellsOf64, hr.len]
  refine wpList_copy_splice hgd d s 32 32 ho 36 Tryd.underlying32 (by kernel_rfl) (some ⟨g, 0, none⟩) A N c n cs hd hs g 0 ((List.replicate N 0).map fun (x : Nat) => Value.int .u64 (x : Int)) tb hB.heap (cellsOf64 l)
    (by rw [hlen]; exact (Nat.min_eq_left hN).symm) ?_ (by rw [hlen]; simp; exact hN) ?_ g w0 hb (Nat.le_refl _) ?_
  · intro hp
    rw [hlen] at hp
    obtain ⟨b, off, e, _, hc⟩ := hr.cells hp
    refine ⟨rfl, ⟨b, off, none⟩, e, fun j v hj => ?_⟩
    have hadd : (⟨b, off, none⟩ : Addr).add j = ⟨b, off + j, none⟩ := by unfold Addr.add; split <;> simp_all
    have hjl : j < l.length := by
      have := (List.getElem?_eq_some_iff.1 hj).1
      simpa [cellsOf64] using this
    rw [hadd, hc j (by rw [← hr.len]; exact hjl), ← hj]
    simp [cellsOf64, at64, List.getElem?_eq_getElem hjl, List.getD_eq_getElem?_getD]
  · intro u hu
    simp only [cellsOf64, List.mem_map] at hu
    obtain ⟨y, _, rfl⟩ := hu
    rfl
  · intro w' hg hb'
    rw [hlen]
    refine h w' ⟨?_, ?_⟩ hb'
    · have e : splice ((List.replicate N 0).map fun (x : Nat) => Value.int .u64 (x : Int)) 0 (cellsOf64 l) = (l ++ List.replicate (N - n) 0).map fun (x : Nat) => Value.int .u64 (x : Int) := by
        unfold splice
        rw [hlen]
        simp [cellsOf64]
      rw [← e]; exact hg
    · intro x hx
      rcases List.mem_append.1 hx with h' | h'
      · exact hr.lt x h'
      · have := List.eq_of_mem_replicate h'; omega

theorem getD_app_zeros (l : List Nat) (k j : Nat) : (l ++ List.replicate k 0).getD j 0 = l.getD j 0 := by
  by_cases hj : j < l.length
  · simp [List.getD_eq_getElem?_getD, List.getElem?_append_left hj]
  · rw [getD_out l j (by omega), List.getD_eq_getElem?_getD, List.getElem?_append_right (by omega), List.getElem?_replicate]
    split <;> rfl
theorem val_app_zeros (W : Nat) (l : List Nat) (k : Nat) : val W (l ++ List.replicate k 0) = val W l := by
  unfold val
  rw [pv_congr W (l ++ List.replicate k 0) l _ fun i _ => getD_app_zeros l k i, pv_out W l _ (by simp)]
  rfl

/-- What rest leaves, as a slice that is read. -/
theorem wds_of_rest {w w' : World} {b N n X : Nat} {ws : List Nat} (hl : ws.length = N) (hB : BlkW w' b 36 ws) (hb : Below w.heap.size w w') (hn : n ≤ N) (h : pv 18446744073709551616 ws n = X) :
    Wds w (.returned (.slice (some ⟨b, 0, none⟩) n n)) w' n X := by
  refine ⟨_, _, _, rfl, Nat.le_refl _, hB.rd (off := 0) (n := n) (by omega) hB.size, ?_, hb⟩
  rw [List.drop_zero, ← h, ← pv_take _ ws n n (Nat.le_refl _), pv_out _ (ws.take n) n (by simp; omega)]

end Go.Proofs.YtpjjobophplleaaDoor
