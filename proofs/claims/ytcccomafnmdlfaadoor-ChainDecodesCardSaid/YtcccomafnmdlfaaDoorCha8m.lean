/- chain: which chain bytes are: pure. -/
import Derived.Test.YtcccomafnmdlfaaDoorStr17
import Derived.Test.YtcccomafnmdlfaaDoorCha4
namespace Go.Proofs.YtcccomafnmdlfaaDoor.K
open Go.ChangeShapes Go.WideShapes Go.ChangeAt Go.RowKit
set_option linter.unusedVariables false
set_option linter.unusedSimpArgs false
def RdOk (b : List Int) (v : StrV) : Prop := StreamOk v.bl v.sz v.fr v.to v.its ∧ (∀ e ∈ v.its, BytesL e.2) ∧ strB v.bl v.sz v.fr v.to v.its = b
theorem ReadIs.two {b : List Int} {bl sz fr to er : Int} {its : List (Int × List Int)} (h : ReadIs b bl sz fr to its er) : (er = 0 ∧ RdOk b ⟨bl, sz, fr, to, its⟩) ∨ (er ≠ 0 ∧ er = errE b ∧ ∀ v, ¬ RdOk b v) := by
 rcases h with ⟨h1, h2, h3, h4⟩ | ⟨h1, _, _, _, _, _, h2⟩
 · exact .inl ⟨h1, h2, h3, h4⟩
 refine .inr ⟨?_, h1, fun v hv => h2 _ _ _ _ _ hv.1 hv.2.1 hv.2.2⟩
 rw [h1]; unfold errE; split <;> (try split) <;> decide
theorem RdOk.one {b : List Int} {v v' : StrV} (h : RdOk b v) (h' : RdOk b v') : v = v' := by
 obtain ⟨bl, sz, fr, to, its⟩ := v
 obtain ⟨bl', sz', fr', to', its'⟩ := v'
 have := strB_inj h.1 h'.1 (h.2.2.trans h'.2.2.symm)
 injection this with q1 q2
 injection q2 with q2 q3
 injection q3 with q3 q4
 injection q4 with q4 q5
 subst q1; subst q2; subst q3; subst q4; subst q5
 rfl
def FB (vs : List StrV) (k : Nat) : Prop := k ≤ vs.length ∧ (∀ i, i < k → OkAt vs i) ∧ (k < vs.length → ¬ OkAt vs k)
theorem FB.one {vs : List StrV} {k k' : Nat} (h : FB vs k) (h' : FB vs k') : k = k' := by
 rcases Nat.lt_trichotomy k k' with h9 | h9 | h9
 · exact absurd (h'.2.1 k h9) (h.2.2 (Nat.lt_of_lt_of_le h9 h'.1))
 · exact h9
 exact absurd (h.2.1 k' h9) (h'.2.2 (Nat.lt_of_lt_of_le h9 h.1))
def RdAll (bs : List (List Int)) (k : Nat) (vs : List StrV) : Prop := vs.length = k ∧ ∀ j, j < k → RdOk (bs.getD j []) (vs.getD j s0V)
def DecIs (bs : List (List Int)) (ss : List StrV) (i er : Int) : Prop :=
 (∃ (vs : List StrV) (k : Nat), k < bs.length ∧ RdAll bs k vs ∧ (∀ v, ¬ RdOk (bs.getD k []) v) ∧ i = (k : Int) ∧ er = errE (bs.getD k []) ∧ ss = []) ∨
 (∃ (vs : List StrV) (k : Nat), RdAll bs bs.length vs ∧ FB vs k ∧ (((vs.length = 0 ∨ k < vs.length) ∧ ss = [] ∧ i = (k : Int) ∧ er = 38) ∨ ((vs.length ≠ 0 ∧ k = vs.length) ∧ ss = vs ∧ i = 0 ∧ er = 0)))
theorem RdAll.snoc {bs : List (List Int)} {k : Nat} {vs : List StrV} {v : StrV} (h : RdAll bs k vs) (hv : RdOk (bs.getD k []) v) : RdAll bs (k + 1) (vs ++ [v]) := by
 refine ⟨by rw [List.length_append, h.1]; rfl, fun j hj => ?_⟩
 rcases Nat.lt_or_ge j k with h9 | h9
 · have e : (vs ++ [v]).getD j s0V = vs.getD j s0V := by simp only [List.getD]; rw [List.getElem?_append_left (by rw [h.1]; exact h9)]
   rw [e]; exact h.2 j h9
 obtain rfl : j = k := by omega
 have e : (vs ++ [v]).getD j s0V = v := by simp only [List.getD]; rw [List.getElem?_append_right (by rw [h.1]; exact Nat.le_refl _), h.1, Nat.sub_self]; rfl
 rw [e]; exact hv
theorem getD_at {l : List StrV} {j : Nat} (h : j < l.length) : l.getD j s0V = l[j] := by simp only [List.getD]; rw [List.getElem?_eq_getElem h]; rfl
theorem RdAll.one {bs : List (List Int)} {k : Nat} {vs vs' : List StrV} (h : RdAll bs k vs) (h' : RdAll bs k vs') : vs = vs' := by
 refine List.ext_getElem (h.1.trans h'.1.symm) fun j h1 h2 => ?_
 have h3 := h.2 j (by rw [← h.1]; exact h1)
 have h4 := h'.2 j (by rw [← h'.1]; exact h2)
 rw [getD_at h1] at h3
 rw [getD_at h2] at h4
 exact h3.one h4
theorem RdAll.lt {bs : List (List Int)} {k k' : Nat} {vs : List StrV} (h : RdAll bs k vs) (hn : ∀ v, ¬ RdOk (bs.getD k' []) v) : k ≤ k' := by
 rcases Nat.lt_or_ge k' k with h9 | h9
 · exact absurd (h.2 k' h9) (hn _)
 exact h9
theorem RdAll.oks {bs : List (List Int)} {k : Nat} {vs : List StrV} (h : RdAll bs k vs) : ∀ s ∈ vs, StreamOk s.bl s.sz s.fr s.to s.its := fun s hs => by
 obtain ⟨j, hj, rfl⟩ := List.getElem_of_mem hs
 have h3 := h.2 j (by rw [← h.1]; exact hj)
 rw [getD_at hj] at h3
 exact h3.1
theorem DecIs.one {bs : List (List Int)} {ss ss' : List StrV} {i er i' er' : Int} (h : DecIs bs ss i er) (h' : DecIs bs ss' i' er') : ss = ss' ∧ i = i' ∧ er = er' := by
 rcases h with ⟨vs, k, h1, h2, h3, rfl, rfl, rfl⟩ | ⟨vs, k, h2, h3, h4⟩
 · rcases h' with ⟨vs', k', q1, q2, q3, rfl, rfl, rfl⟩ | ⟨vs', k', q2, q3, q4⟩
   · have e1 := h2.lt q3
     have e2 := q2.lt h3
     obtain rfl : k = k' := by omega
     exact ⟨rfl, rfl, rfl⟩
   have := q2.lt h3; omega
 rcases h' with ⟨vs', k', q1, q2, q3, rfl, rfl, rfl⟩ | ⟨vs', k', q2, q3, q4⟩
 · have := h2.lt q3; omega
 obtain rfl := h2.one q2
 obtain rfl := h3.one q3
 rcases h4 with ⟨a1, rfl, rfl, rfl⟩ | ⟨a1, rfl, rfl, rfl⟩ <;> rcases q4 with ⟨b1, rfl, rfl, rfl⟩ | ⟨b1, rfl, rfl, rfl⟩
 · exact ⟨rfl, rfl, rfl⟩
 · exfalso; omega
 · exfalso; omega
 exact ⟨rfl, rfl, rfl⟩
theorem DecIs.ok {bs : List (List Int)} {ss : List StrV} {i er : Int} (h : DecIs bs ss i er) : ss.length ≤ bs.length ∧ ∀ s ∈ ss, StreamOk s.bl s.sz s.fr s.to s.its := by
 rcases h with ⟨_, _, _, _, _, _, _, rfl⟩ | ⟨vs, k, h2, h3, ⟨_, rfl, _⟩ | ⟨_, rfl, _⟩⟩
 · exact ⟨Nat.zero_le _, fun s hs => by cases hs⟩
 · exact ⟨Nat.zero_le _, fun s hs => by cases hs⟩
 exact ⟨Nat.le_of_eq h2.1, h2.oks⟩
end Go.Proofs.YtcccomafnmdlfaaDoor.K
