/- What a slot that is torn reads as. -/
import Derived.Test.YthecjhjomkpgkaaSlot7
namespace Go.Proofs.Ythecjhjomkpgkaa.K
open Go.ChangeShapes Go.WideShapes Go.ChangeAt Go.RowKit
set_option linter.unusedVariables false

theorem slotB_get56 (c g a j : Nat) (hj : j < 8) : (slotB c g a).getD (56 + j) 0 = ((byteOf c j : Nat) : Int) := by
  match j, hj with
  | 0, _ => rfl
  | 1, _ => rfl
  | 2, _ => rfl
  | 3, _ => rfl
  | 4, _ => rfl
  | 5, _ => rfl
  | 6, _ => rfl
  | 7, _ => rfl
/-- The first n bytes of one, the others of another. -/
def mixS (a b : List Int) (n : Nat) : List Int := a.take n ++ b.drop n
theorem mixS_len {a b : List Int} (ha : a.length = 64) (hb : b.length = 64) (n : Nat) : (mixS a b n).length = 64 := by
  unfold mixS; rw [List.length_append, List.length_take, List.length_drop, ha, hb]; omega
theorem mixS_get {a b : List Int} (ha : a.length = 64) (hb : b.length = 64) (n : Nat) (hn : n ≤ 64) (j : Nat) (hj : j < 64) : (mixS a b n).getD j 0 = if j < n then a.getD j 0 else b.getD j 0 := by
  unfold mixS
  have hl : (a.take n).length = n := by rw [List.length_take, ha]; omega
  rw [List.getD_eq_getElem?_getD]
  by_cases h : j < n
  · rw [if_pos h, List.getElem?_append_left (by omega), List.getElem?_take, if_pos h, ← List.getD_eq_getElem?_getD]
  · rw [if_neg h, List.getElem?_append_right (by omega), hl, List.getElem?_drop, show n + (j - n) = j by omega, ← List.getD_eq_getElem?_getD]
theorem getD_drop' (b : List Int) (i j : Nat) : (b.drop i).getD j 0 = b.getD (i + j) 0 := by
  rw [List.getD_eq_getElem?_getD, List.getElem?_drop, ← List.getD_eq_getElem?_getD]
theorem zeros_get (j : Nat) : zeros.getD j 0 = 0 := by
  unfold zeros
  rw [List.getD_eq_getElem?_getD, List.getElem?_replicate]
  split <;> rfl
theorem readS_mix (c g a n : Nat) (hc0 : 1 ≤ c) (hc : c < 2 ^ 64) (hg : g < 2 ^ 64) (ha : a ≤ 1) (hn : n ≤ 64) : readS (mixS (slotB c g a) zeros n) = none ∨ readS (mixS (slotB c g a) zeros n) = some (c, g, a) := by
  have hz : zeros.length = 64 := rfl
  have hs := slotB_len c g a
  have get := mixS_get hs hz n hn
  by_cases h : (mixS (slotB c g a) zeros n).length = 64 ∧ num8 (mixS (slotB c g a) zeros n) 8 ≠ 0 ∧ num8 ((mixS (slotB c g a) zeros n).drop 16) 8 ≤ 1 ∧ slotB (num8 (mixS (slotB c g a) zeros n) 8) (num8 ((mixS (slotB c g a) zeros n).drop 8) 8) (num8 ((mixS (slotB c g a) zeros n).drop 16) 8) = mixS (slotB c g a) zeros n
  · by_cases h56 : n ≤ 56
    · exfalso
      obtain ⟨h1, h2, h3, h4⟩ := h
      have hb : ∀ j, j < 8 → (mixS (slotB c g a) zeros n).getD j 0 = ((byteOf (num8 (mixS (slotB c g a) zeros n) 8) j : Nat) : Int) := fun j hj => by
        rw [← slotB_get0 _ (num8 ((mixS (slotB c g a) zeros n).drop 8) 8) (num8 ((mixS (slotB c g a) zeros n).drop 16) 8) j hj, h4]
      have hlt := num8_le8 _ _ hb 8 (Nat.le_refl _)
      have ht : ∀ j, j < 8 → (List.replicate 8 (0 : Int)).getD j 0 = ((byteOf (num8 (mixS (slotB c g a) zeros n) 8) j : Nat) : Int) := fun j hj => by
        rw [← slotB_get56 _ (num8 ((mixS (slotB c g a) zeros n).drop 8) 8) (num8 ((mixS (slotB c g a) zeros n).drop 16) 8) j hj, h4, get (56 + j) (by omega), if_neg (by omega), zeros_get, List.getD_eq_getElem?_getD, List.getElem?_replicate, if_pos hj]
        rfl
      have h0 := num8_le8 _ _ ht 8 (Nat.le_refl _)
      rw [← hlt, show num8 (List.replicate 8 (0 : Int)) 8 = 0 by decide] at h0
      exact h2 h0.symm
    · right
      have e0 : num8 (mixS (slotB c g a) zeros n) 8 = c := (num8_le8 c _ (fun j hj => by rw [get j (by omega), if_pos (by omega)]; exact slotB_get0 c g a j hj) 8 (Nat.le_refl _)).trans (Nat.mod_eq_of_lt hc)
      have e1 : num8 ((mixS (slotB c g a) zeros n).drop 8) 8 = g := (num8_le8 g _ (fun j hj => by rw [getD_drop', get (8 + j) (by omega), if_pos (by omega), ← getD_drop']; exact slotB_get8 c g a j hj) 8 (Nat.le_refl _)).trans (Nat.mod_eq_of_lt hg)
      have e2 : num8 ((mixS (slotB c g a) zeros n).drop 16) 8 = a := (num8_le8 a _ (fun j hj => by rw [getD_drop', get (16 + j) (by omega), if_pos (by omega), ← getD_drop']; exact slotB_get16 c g a j hj) 8 (Nat.le_refl _)).trans (Nat.mod_eq_of_lt (Nat.lt_of_le_of_lt ha (by decide)))
      unfold readS
      rw [if_pos h, e0, e1, e2]
  · left; exact readS_no h
theorem mixS_all {a b : List Int} (ha : a.length = 64) (hb : b.length = 64) : mixS a b 64 = a := by
  unfold mixS
  rw [List.take_of_length_le (by omega), List.drop_of_length_le (by omega), List.append_nil]
theorem mixS_none (a b : List Int) : mixS a b 0 = b := by simp [mixS]
/-- The sectors behind a slot that was set, and behind one more of which n bytes came through. -/
def oneS (q : Nat) (SB : List Int) : List (List Int) := (List.replicate 3 zeros).set q SB
theorem choose_mix (q p c1 g1 a1 c2 g2 a2 n : Nat) (hq : q < 2) (hp : p < 2) (hqp : q ≠ p) (h1 : 1 ≤ c1) (hc1 : c1 < 2 ^ 64) (hg1 : g1 < 2 ^ 64) (ha1 : a1 ≤ 1) (h12 : c1 < c2) (hc2 : c2 < 2 ^ 64) (hg2 : g2 < 2 ^ 64) (ha2 : a2 ≤ 1) (hn : n ≤ 64) :
    ∃ b : Bool, (n = 64 → b = true) ∧ chooseS (readS (((oneS q (slotB c1 g1 a1)).set p (mixS (slotB c2 g2 a2) zeros n)).getD 0 [])) (readS (((oneS q (slotB c1 g1 a1)).set p (mixS (slotB c2 g2 a2) zeros n)).getD 1 [])) = if b then some (c2, g2, a2) else some (c1, g1, a1) := by
  have r1 := readS_slot c1 g1 a1 h1 hc1 hg1 ha1
  have r2 := readS_slot c2 g2 a2 (by omega) hc2 hg2 ha2
  have rm := readS_mix c2 g2 a2 n (by omega) hc2 hg2 ha2 hn
  have r64 : n = 64 → readS (mixS (slotB c2 g2 a2) zeros n) = some (c2, g2, a2) := by rintro rfl; rw [mixS_all (slotB_len _ _ _) rfl, r2]
  have hd : decide (c1 < c2) = true := decide_eq_true h12
  have hd2 : decide (c2 < c1) = false := decide_eq_false (by omega)
  have hcase : (q = 0 ∧ p = 1) ∨ (q = 1 ∧ p = 0) := by omega
  obtain ⟨x, hx⟩ : ∃ x, mixS (slotB c2 g2 a2) zeros n = x := ⟨_, rfl⟩
  rw [hx] at rm r64 ⊢
  rcases hcase with ⟨rfl, rfl⟩ | ⟨rfl, rfl⟩
  · show ∃ b : Bool, _ ∧ chooseS (readS (slotB c1 g1 a1)) (readS x) = _
    rw [r1]
    rcases rm with rm | rm
    · rw [rm]
      refine ⟨false, fun h => ?_, rfl⟩
      have := r64 h; rw [rm] at this; cases this
    · rw [rm]
      refine ⟨true, fun _ => rfl, ?_⟩
      unfold chooseS
      rw [if_pos]
      · rfl
      · show (true && (!true || decide (c1 < c2))) = true
        rw [hd]; rfl
  · show ∃ b : Bool, _ ∧ chooseS (readS x) (readS (slotB c1 g1 a1)) = _
    rw [r1]
    rcases rm with rm | rm
    · rw [rm]
      refine ⟨false, fun h => ?_, rfl⟩
      have := r64 h; rw [rm] at this; cases this
    · rw [rm]
      refine ⟨true, fun _ => rfl, ?_⟩
      unfold chooseS
      rw [if_neg]
      · rfl
      · show ¬ (true && (!true || decide (c2 < c1))) = true
        rw [hd2]; decide
end Go.Proofs.Ythecjhjomkpgkaa.K
