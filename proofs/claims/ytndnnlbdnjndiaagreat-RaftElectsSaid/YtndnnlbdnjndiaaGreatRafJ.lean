/- raft: votes told by a list of Bools, one a member. -/
import Derived.Test.YtndnnlbdnjndiaaGreatRafB
import Derived.Test.YtndnnlbdnjndiaaGreatG3
namespace Go.Proofs.YtndnnlbdnjndiaaGreat.K
open Go.ChangeShapes Go.WideShapes Go.ChangeAt Go.RowKit
set_option linter.unusedVariables false
set_option linter.unusedSimpArgs false
def ysB (G : List Bool) (k : Nat) : List Int := (upL k).filter fun n => G.getD n.toNat false
def cntB (G : List Bool) (k : Nat) : Nat := (G.take k).countP id
def E2 (k : Nat) : RS := preN (B1 1 k) (k / 2)
def LdS (k : Nat) : RS := clrS (winS (E2 k))
def stE (k : Nat) (G : List Bool) (y : List Int) : RS := if k < 2 * cntB G k then { LdS k with ys := y } else { E2 k with ys := ysB G k }
theorem with_B : ∀ k, k < 7 → 2 ≤ k → ∀ f, f < k → ∀ g0 g1 g2 g3 g4 g5 : Bool, withY (ysB [g0, g1, g2, g3, g4, g5] k) (f : Int) = ysB ([g0, g1, g2, g3, g4, g5].set f true) k := by decide +kernel
theorem fav_B : ∀ k, k < 7 → 2 ≤ k → ∀ g0 g1 g2 g3 g4 g5 : Bool, favS { E2 k with ys := ysB [g0, g1, g2, g3, g4, g5] k } = decide (k < 2 * cntB [g0, g1, g2, g3, g4, g5] k) := by decide +kernel
theorem cnt_B : ∀ k, k < 7 → ∀ f, f < k → ∀ g0 g1 g2 g3 g4 g5 : Bool, cntB [g0, g1, g2, g3, g4, g5] k ≤ cntB ([g0, g1, g2, g3, g4, g5].set f true) k := by decide +kernel
theorem E2_ok : ∀ k, k < 7 → 2 ≤ k → (rcB 1 (E2 k) && decide ((E2 k).x.te = 1) && decide ((E2 k).x.ro = 2) && rcB 1 (LdS k) && decide ((LdS k).x.te = 1) && decide ((LdS k).x.ro = 3)) = true := by decide +kernel
theorem pre_ok : ∀ k, k < 7 → 2 ≤ k → ∀ j, j < k / 2 + 1 → rcB 1 (preN (B1 1 k) j) = true := by decide +kernel
theorem B1_role : ∀ k, k < 7 → 2 ≤ k → (decide ((B1 1 k).x.ro = 1) && decide ((B1 1 k).x.te = 0)) = true := by decide +kernel
theorem win_ys (s : RS) (y : List Int) : winS { s with ys := y } = { winS s with ys := y } := rfl
theorem E2_clr : ∀ k, k < 7 → 2 ≤ k → ((E2 k).ms.isEmpty && (E2 k).rs.isEmpty && decide ((E2 k).re = false)) = true := by decide +kernel
theorem set_B : ∀ f, f < 6 → ∀ g0 g1 g2 g3 g4 g5 : Bool, [g0, g1, g2, g3, g4, g5].set f ([g0, g1, g2, g3, g4, g5].getD f false) = [g0, g1, g2, g3, g4, g5] := by decide +kernel
theorem ysB_len (G : List Bool) (k : Nat) : (ysB G k).length ≤ k := by
 have := List.length_filter_le (fun n : Int => G.getD n.toNat false) (upL k)
 rw [upL_len] at this; exact this
theorem ROk.setY {s : RS} (h : ROk s) {y : List Int} (hy : y.length ≤ 800) : ROk { s with ys := y } := ⟨h.l, h.n, h.co, h.ld, h.ms, h.rs, h.te, h.id, h.si, h.be, hy⟩
theorem E2_out {k : Nat} (h1 : k < 7) (h2 : 2 ≤ k) : ROk (E2 k) ∧ (E2 k).x.gr = 1 ∧ (E2 k).x.id = 0 ∧ (E2 k).x.te = 1 ∧ (E2 k).x.ro = 2 ∧ ROk (LdS k) ∧ (LdS k).x.gr = 1 ∧ (LdS k).x.id = 0 ∧ (LdS k).x.te = 1 ∧ (LdS k).x.ro = 3 := by
 have h := E2_ok k h1 h2
 simp only [Bool.and_eq_true, decide_eq_true_eq] at h
 obtain ⟨⟨⟨⟨⟨a, b⟩, c⟩, d⟩, e⟩, f⟩ := h
 have ha := rcB_ok a
 have hd := rcB_ok d
 exact ⟨ha.1, ha.2.1, ha.2.2, b, c, hd.1, hd.2.1, hd.2.2, e, f⟩
theorem stE_ok {k : Nat} (h1 : k < 7) (h2 : 2 ≤ k) (G : List Bool) {y : List Int} (hy : y.length ≤ 7) : ROk (stE k G y) ∧ (stE k G y).x.gr = 1 ∧ (stE k G y).x.id = 0 ∧ (stE k G y).x.te = 1 := by
 obtain ⟨a1, a2, a3, a4, a5, b1, b2, b3, b4, b5⟩ := E2_out h1 h2
 have hl := ysB_len G k
 unfold stE
 split
 · exact ⟨b1.setY (by omega), b2, b3, b4⟩
 · exact ⟨a1.setY (by omega), a2, a3, a4⟩
theorem stE_role {k : Nat} (h1 : k < 7) (h2 : 2 ≤ k) (G : List Bool) (y : List Int) : (stE k G y).x.ro = if k < 2 * cntB G k then 3 else 2 := by
 obtain ⟨a1, a2, a3, a4, a5, b1, b2, b3, b4, b5⟩ := E2_out h1 h2
 unfold stE
 split
 · exact b5
 · exact a5
theorem clr_E2 {k : Nat} (h1 : k < 7) (h2 : 2 ≤ k) (y : List Int) : clrS { E2 k with ys := y } = { E2 k with ys := y } := by
 have h := E2_clr k h1 h2
 simp only [Bool.and_eq_true, decide_eq_true_eq, List.isEmpty_iff] at h
 obtain ⟨⟨a, b⟩, c⟩ := h
 show { E2 k with ys := y, ms := [], rs := [], re := false } = { E2 k with ys := y }
 rw [← a, ← b, ← c]
theorem vote_step {k f : Nat} (h1 : k < 7) (h2 : 2 ≤ k) (hf : f < k) (g0 g1 g2 g3 g4 g5 v : Bool) (y : List Int) (hy : y.length ≤ 7) :
   ∃ y' : List Int, y'.length ≤ 7 ∧ clrS (voteOkS (stE k [g0, g1, g2, g3, g4, g5] y) (f : Int) v) = stE k ([g0, g1, g2, g3, g4, g5].set f ([g0, g1, g2, g3, g4, g5].getD f false || v)) y' := by
 obtain ⟨a1, a2, a3, a4, a5, b1, b2, b3, b4, b5⟩ := E2_out h1 h2
 have hclr : ∀ y, clrS (stE k [g0, g1, g2, g3, g4, g5] y) = stE k [g0, g1, g2, g3, g4, g5] y := by
   intro y; unfold stE
   split
   · rfl
   · exact clr_E2 h1 h2 _
 cases v with
 | false =>
   refine ⟨y, hy, ?_⟩
   rw [voteOk_no _ _ _ (.inl rfl), Bool.or_false, set_B f (by omega), hclr]
 | true =>
   rw [Bool.or_true]
   by_cases hc : k < 2 * cntB [g0, g1, g2, g3, g4, g5] k
   · have hc2 := cnt_B k h1 f hf g0 g1 g2 g3 g4 g5
     refine ⟨y, hy, ?_⟩
     rw [voteOk_no _ _ _ (.inr (by rw [stE_role h1 h2, if_pos hc]; decide)), hclr]
     unfold stE
     rw [if_pos hc, if_pos (by omega)]
   · have e : stE k [g0, g1, g2, g3, g4, g5] y = { E2 k with ys := ysB [g0, g1, g2, g3, g4, g5] k } := by unfold stE; exact if_neg hc
     have hw := with_B k h1 h2 f hf g0 g1 g2 g3 g4 g5
     obtain ⟨q0, q1, q2, q3, q4, q5, hq⟩ : ∃ q0 q1 q2 q3 q4 q5, [g0, g1, g2, g3, g4, g5].set f true = [q0, q1, q2, q3, q4, q5] := by
       rcases (show f = 0 ∨ f = 1 ∨ f = 2 ∨ f = 3 ∨ f = 4 ∨ f = 5 by omega) with rfl | rfl | rfl | rfl | rfl | rfl <;> exact ⟨_, _, _, _, _, _, rfl⟩
     have hfv := fav_B k h1 h2 q0 q1 q2 q3 q4 q5
     refine ⟨ysB [q0, q1, q2, q3, q4, q5] k, by have := ysB_len [q0, q1, q2, q3, q4, q5] k; omega, ?_⟩
     rw [e, hq]
     rw [hq] at hw
     have e2 : ({ { E2 k with ys := ysB [g0, g1, g2, g3, g4, g5] k } with ys := withY ({ E2 k with ys := ysB [g0, g1, g2, g3, g4, g5] k } : RS).ys (f : Int) } : RS) = { E2 k with ys := ysB [q0, q1, q2, q3, q4, q5] k } := by
       show ({ E2 k with ys := withY (ysB [g0, g1, g2, g3, g4, g5] k) (f : Int) } : RS) = _
       rw [hw]
     by_cases hc2 : k < 2 * cntB [q0, q1, q2, q3, q4, q5] k
     · rw [voteOk_yes ({ E2 k with ys := ysB [g0, g1, g2, g3, g4, g5] k } : RS) (f : Int) true rfl a5 (by rw [e2, hfv]; exact decide_eq_true hc2), e2, win_ys]
       unfold stE
       rw [if_pos hc2]; rfl
     · rw [voteOk_wait ({ E2 k with ys := ysB [g0, g1, g2, g3, g4, g5] k } : RS) (f : Int) true rfl a5 (by rw [e2, hfv]; exact decide_eq_false hc2), e2, clr_E2 h1 h2]
       unfold stE
       rw [if_neg hc2]
theorem stE_start : ∀ k, k < 7 → 2 ≤ k → (decide ((E2 k).ys = ysB [true, false, false, false, false, false] k) && decide (¬ k < 2 * cntB [true, false, false, false, false, false] k)) = true := by decide +kernel
theorem E2_st {k : Nat} (h1 : k < 7) (h2 : 2 ≤ k) : E2 k = stE k [true, false, false, false, false, false] [] := by
 have h := stE_start k h1 h2
 simp only [Bool.and_eq_true, decide_eq_true_eq] at h
 unfold stE
 rw [if_neg h.2, ← h.1]
theorem cnt_snoc6 : ∀ j, j < 6 → ∀ g0 g1 g2 g3 g4 g5 : Bool, cntB [g0, g1, g2, g3, g4, g5] (j + 1) = cntB [g0, g1, g2, g3, g4, g5] j + (if [g0, g1, g2, g3, g4, g5].getD j false = true then 1 else 0) := by decide +kernel
end Go.Proofs.YtndnnlbdnjndiaaGreat.K
