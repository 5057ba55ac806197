/- DiskKeeps: the first loop's step. -/
import Derived.Test.YtnjmlkohgbbafaaDiskC1
namespace Go.Proofs.Ytnjmlkohgbbafaa.K
open Go.ChangeShapes Go.WideShapes Go.ChangeAt Go.RowKit
set_option linter.unusedVariables false

def Z8 : List (List Int) := List.replicate 8 zeros
theorem Z8_get (i : Nat) (hi : i < 8) : Z8.getD i [] = zeros := by
  unfold Z8
  rw [List.getD, List.getElem?_replicate, if_pos hi]
  rfl
def L1 (w : World) (B S A1 A2 k : Nat) (wr : World) : Prop :=
  ∃ bw bi, bw.length = k ∧ bi.length = k ∧ Arrs wr A1 A2 bw bi Z8 Z8 ∧ IsDisk wr B S (.slice none 0 0) Z8 [] (-1) ∧ (∀ x ∈ A1 :: A2 :: (bw ++ bi), ¬ Mine B S (.slice none 0 0) x) ∧ Below w.heap.size w wr ∧ ∀ x ∈ bw ++ bi, w.heap.size ≤ x
theorem set_next (bs : List Nat) (g : Nat) (h : bs.length < 8) : (bs.map sl ++ nil8 bs.length).set bs.length (sl g) = (bs ++ [g]).map sl ++ nil8 (bs ++ [g]).length := by
  have h1 : nil8 bs.length = .slice none 0 0 :: nil8 (bs.length + 1) := by
    unfold nil8
    rw [show 8 - bs.length = (8 - (bs.length + 1)) + 1 by omega, List.replicate_succ]
  rw [h1, List.set_append_right _ _ (by simp)]
  simp
theorem L1_step {w wr W : World} {B S A1 A2 k g1 g2 : Nat} {bw bi : List Nat} (hk : k < 8) (e1 : bw.length = k) (e2 : bi.length = k) (ha : Arrs wr A1 A2 bw bi Z8 Z8) (hd : IsDisk wr B S (.slice none 0 0) Z8 [] (-1))
    (hm : ∀ x ∈ A1 :: A2 :: (bw ++ bi), ¬ Mine B S (.slice none 0 0) x) (hb : Below w.heap.size w wr) (hlo : ∀ x ∈ bw ++ bi, w.heap.size ≤ x) (hA : w.heap.size ≤ A1 ∧ w.heap.size ≤ A2)
    (q1 : Blk W A1 28 ((bw.map sl ++ nil8 bw.length).set k (sl g1))) (q2 : Blk W A2 28 ((bi.map sl ++ nil8 bi.length).set k (sl g2))) (q3 : Blk W g1 5 (B8 zeros)) (q4 : Blk W g2 5 (B8 zeros))
    (q5 : Keep (fun x => x = A1 ∨ x = A2) wr W) (q6 : wr.heap.size ≤ g1) (q7 : wr.heap.size ≤ g2) (q8 : g1 ≠ g2) : L1 w B S A1 A2 (k + 1) W := by
  have hlt := ha.lt
  have hnd := ha.nd
  have n1 : A1 ∉ bw ∧ A1 ∉ bi ∧ A2 ∉ bw ∧ A2 ∉ bi := by
    have hnd2 := hnd
    simp only [List.nodup_cons, List.mem_cons, List.mem_append, not_or] at hnd2
    exact ⟨hnd2.1.2.1, hnd2.1.2.2, hnd2.2.1.1, hnd2.2.1.2⟩
  refine ⟨bw ++ [g1], bi ++ [g2], by simp [e1], by simp [e2], ⟨?_, ?_, ?_, ?_, ?_⟩, ?_, ?_, ?_, ?_⟩
  · rw [← e1, set_next bw g1 (by omega)] at q1; exact q1
  · rw [← e2, set_next bi g2 (by omega)] at q2; exact q2
  · intro i g hg
    by_cases h : i < bw.length
    · rw [List.getElem?_append_left h] at hg
      have hgm := List.mem_of_getElem? hg
      exact (ha.r1 i g hg).keep q5 (by rintro (rfl | rfl); exact n1.1 hgm; exact n1.2.2.1 hgm)
    · have hi : i = bw.length := by
        have := (List.getElem?_eq_some_iff.1 hg).1
        simp at this; omega
      subst hi
      obtain rfl : g1 = g := by simpa using hg
      rw [Z8_get _ (by omega)]; exact q3
  · intro i g hg
    by_cases h : i < bi.length
    · rw [List.getElem?_append_left h] at hg
      have hgm := List.mem_of_getElem? hg
      exact (ha.r2 i g hg).keep q5 (by rintro (rfl | rfl); exact n1.2.1 hgm; exact n1.2.2.2 hgm)
    · have hi : i = bi.length := by
        have := (List.getElem?_eq_some_iff.1 hg).1
        simp at this; omega
      subst hi
      obtain rfl : g2 = g := by simpa using hg
      rw [Z8_get _ (by omega)]; exact q4
  · have l1 : ∀ x ∈ A1 :: A2 :: (bw ++ bi), x ≠ g1 ∧ x ≠ g2 := fun x hx => by have := hlt x hx; omega
    have p : (A1 :: A2 :: ((bw ++ [g1]) ++ (bi ++ [g2]))).Perm (g1 :: g2 :: (A1 :: A2 :: (bw ++ bi))) := by
      rw [List.perm_iff_count]
      intro x
      simp only [List.count_cons, List.count_append, List.count_nil]
      omega
    rw [p.nodup_iff, List.nodup_cons, List.nodup_cons]
    refine ⟨fun h => ?_, fun h => (l1 g2 h).2 rfl, hnd⟩
    rcases List.mem_cons.1 h with h | h
    · exact q8 h
    · exact (l1 g1 h).1 rfl
  · exact hd.keep q5 (by
      rintro x hx (rfl | rfl)
      · exact hm _ (by simp) hx
      · exact hm _ (by simp) hx)
  · intro x hx hmx
    have hx2 : x ∈ A1 :: A2 :: (bw ++ bi) ∨ x = g1 ∨ x = g2 := by
      simp only [List.mem_cons, List.mem_append, List.mem_singleton, List.not_mem_nil, or_false] at hx ⊢
      rcases hx with h | h | (h | h) | (h | h) <;> simp [h]
    rcases hx2 with hx2 | rfl | rfl
    · exact hm x hx2 hmx
    · have := hd.mine_lt _ hmx; omega
    · have := hd.mine_lt _ hmx; omega
  · exact hb.trans (q5.below (by rintro x (rfl | rfl); exact hA.1; exact hA.2) hb.size)
  · intro x hx
    have hs := hb.size
    have hx2 : x ∈ bw ++ bi ∨ x = g1 ∨ x = g2 := by
      simp only [List.mem_append, List.mem_singleton] at hx ⊢
      rcases hx with (h | h) | (h | h) <;> simp [h]
    rcases hx2 with hx2 | rfl | rfl
    · exact hlo x hx2
    · omega
    · omega

/-- What the second and the third loop hold. -/
structure L2 (w : World) (B S A1 A2 : Nat) (bw bi : List Nat) (secs sw si : List (List Int)) (k : Nat) (wr : World) : Prop where
  disk : ∃ vu uns, IsDisk wr B S vu secs uns (-1) ∧ uns.length ≤ k ∧ ∀ x ∈ A1 :: A2 :: (bw ++ bi), ¬ Mine B S vu x
  arrs : Arrs wr A1 A2 bw bi sw si
  below : Below w.heap.size w wr
theorem apart_next {w : World} {B S : Nat} {vu vu4 : Value} {l : List Nat} (hm : ∀ x ∈ l, ¬ Mine B S vu x) (hlt : ∀ x ∈ l, x < w.heap.size) (hv : vu4.ownBlock = vu.ownBlock ∨ ∀ k, vu4.ownBlock = some k → w.heap.size ≤ k) : ∀ x ∈ l, ¬ Mine B S vu4 x := by
  rintro x hx (h | h | h)
  · exact hm x hx (.inl h)
  · exact hm x hx (.inr (.inl h))
  · rcases hv with e | e
    · exact hm x hx (.inr (.inr (by rw [← e]; exact h)))
    · have := e x h; have := hlt x hx; omega
/-- A conversion that is known. -/
theorem exec_conv {P : Program} {ev : Operand → Value} {o : Oper} {W : World} (s d : TypeId) (x : Operand) (ho : o.op = .convert s d x) (v r : Value) (hx : ev x = v) (hr : (convert s d v).run P W = .ok r W) : (execOp ev o).run P W = .ok (.value r) W := by
  unfold execOp
  simp only [ho, hx, Sem.run_bind, hr, Result.andThen_ok]
  rfl
end Go.Proofs.Ytnjmlkohgbbafaa.K
