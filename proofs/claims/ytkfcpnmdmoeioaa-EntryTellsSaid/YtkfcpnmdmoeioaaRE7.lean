/- What the two ReadBase read is the same. -/
import Derived.Test.YtkfcpnmdmoeioaaRE6
namespace Go.Proofs.Ytkfcpnmdmoeioaa.K
open Go.ChangeShapes Go.WideShapes Go.ChangeAt Go.RowKit
set_option linter.unusedVariables false

theorem numR_67 (bs : List Int) (e : Int) : numR bs e 6 = numR bs e 7 ∨ ((numR bs e 7).1 = 7 ∧ (numR bs e 6).2.2 ≠ 0) := by
  by_cases he : e = 0
  · subst he
    unfold numR
    rw [if_pos rfl, if_pos rfl]
    cases dec 0 0 bs with
    | err er => exact .inl rfl
    | ok n k =>
      show ((if (6 : Int) < (n : Int) then ((0 : Int), ([] : List Int), (22 : Int)) else ((n : Int), bs.drop k, 0)) = if (7 : Int) < (n : Int) then ((0 : Int), ([] : List Int), (22 : Int)) else ((n : Int), bs.drop k, 0)) ∨ ((if (7 : Int) < (n : Int) then ((0 : Int), ([] : List Int), (22 : Int)) else ((n : Int), bs.drop k, 0)).1 = 7 ∧ (if (6 : Int) < (n : Int) then ((0 : Int), ([] : List Int), (22 : Int)) else ((n : Int), bs.drop k, 0)).2.2 ≠ 0)
      by_cases h6 : (6 : Int) < (n : Int)
      · by_cases h7 : (7 : Int) < (n : Int)
        · rw [if_pos h6, if_pos h7]; exact .inl rfl
        · rw [if_pos h6, if_neg h7]
          exact .inr ⟨by show (n : Int) = 7; omega, by decide⟩
      · rw [if_neg h6, if_neg (by omega)]; exact .inl rfl
  · rw [numR_bad bs e 6 he, numR_bad bs e 7 he]; exact .inl rfl
theorem conf_67 (bs : List Int) (e : Int) : ∀ k, confN bs e k = confM bs e k ∨ ((7 : Int) ∈ (confM bs e k).1 ∧ (confN bs e k).2.2 ≠ 0)
  | 0 => .inl rfl
  | k + 1 => by
    rcases conf_67 bs e k with h | ⟨h1, h2⟩
    · rcases numR_67 (confM bs e k).2.1 (confM bs e k).2.2 with g | ⟨g1, g2⟩
      · left
        rw [confN, confM, h, g]
      · right
        rw [confN, confM, h]
        exact ⟨List.mem_append_right _ (by rw [g1]; exact List.mem_singleton.2 rfl), g2⟩
    · right
      rw [confN, confM]
      refine ⟨List.mem_append_left _ h1, ?_⟩
      show (numR (confN bs e k).2.1 (confN bs e k).2.2 6).2.2 ≠ 0
      rw [numR_bad _ _ _ h2]
      exact h2
theorem base_67 (bs : List Int) (e : Int) : rbaseROk bs e = baseROk bs e ∧ rbaseRV bs e = baseRV bs e ∧ (baseROk bs e = true → (rbaseR bs e).2 = (baseR bs e).2) := by
  rcases conf_67 (bR3 bs e).2.1 (bR3 bs e).2.2 (bR3 bs e).1.toNat with h | ⟨h1, h2⟩
  · have h4 : rR4 bs e = bR4 bs e := h.symm
    have h5 : rR5 bs e = bR5 bs e := by unfold rR5 bR5; rw [h4]
    have hr : rbaseR bs e = baseR bs e := by unfold rbaseR baseR; rw [h4, h5]
    have ho : rbaseROk bs e = baseROk bs e := by unfold rbaseROk baseROk; rw [hr]
    exact ⟨ho, by unfold rbaseRV baseRV; rw [ho, hr], fun _ => by rw [hr]⟩
  · have hb : baseROk bs e = false := by
      have h3 : (baseR bs e).2.2 ≠ 0 := by
        show (lumpR (bR4 bs e).2.1 (bR4 bs e).2.2 32767).2.2 ≠ 0
        rw [lumpR_bad _ _ _ (show (bR4 bs e).2.2 ≠ 0 from h2)]
        exact h2
      unfold baseROk
      rw [decide_eq_false h3]; rfl
    have hr : rbaseROk bs e = false := by
      have hn : baseOk (rbaseR bs e).1.1 (rbaseR bs e).1.2.1 (rbaseR bs e).1.2.2.1 (rbaseR bs e).1.2.2.2 = false := by
        cases hc : baseOk (rbaseR bs e).1.1 (rbaseR bs e).1.2.1 (rbaseR bs e).1.2.2.1 (rbaseR bs e).1.2.2.2 with
        | false => rfl
        | true =>
          exfalso
          have hbd := (right_bd (baseOk_bd hc).2.2.1).2
          have hm : (7 : Int) ∈ (rbaseR bs e).1.2.2.1 := h1
          obtain ⟨j, hj, hj7⟩ := List.getElem_of_mem hm
          have := hbd j hj
          rw [List.getD_eq_getElem?_getD, List.getElem?_eq_getElem hj, hj7] at this
          have h9 : (7 : Int) ≤ 6 := this.2
          omega
      unfold rbaseROk
      rw [hn, Bool.and_false]
    exact ⟨by rw [hb, hr], by unfold rbaseRV baseRV; rw [hb, hr]; rfl, fun h => by rw [hb] at h; cases h⟩
end Go.Proofs.Ytkfcpnmdmoeioaa.K
