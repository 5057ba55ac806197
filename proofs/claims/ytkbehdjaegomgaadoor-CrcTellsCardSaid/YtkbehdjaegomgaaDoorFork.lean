/- A region that draws its order: one allocation and the call that reads it, beside another allocation: three orders, one way on. For any program. -/
import Derived.Test.YtkbehdjaegomgaaDoorRegion
namespace Go.Proofs.YtkbehdjaegomgaaDoor.K
open Go.ChangeShapes Go.WideShapes Go.ChangeAt Go.RowKit
set_option linter.unusedVariables false

theorem put_comm (a : Act) {d e : Tmp} (h : d ≠ e) (u v : Value) : (a.put (some d) u).put (some e) v = (a.put (some e) v).put (some d) u := by
  show ({ a with tmps := (a.tmps.setIfInBounds d u).setIfInBounds e v } : Act) = { a with tmps := (a.tmps.setIfInBounds e v).setIfInBounds d u }
  rw [Array.setIfInBounds_comm _ _ h]

section
variable {P : Program} {ops : Array Oper} {Q : Exit → Act → World → Prop} {md : Region.Mode}

theorem step_fork (i j k : Nat) (d1 d2 d3 : Tmp) {oi oj ok : Oper} {fuel : Nat} {L : Array Bool} {a : Act} {w : World} (Ri Rk : Value → World → Prop) (vj : Value)
    (hi : ops[i]? = some oi) (hj : ops[j]? = some oj) (hk : ops[k]? = some ok) (n12 : d1 ≠ d2) (n13 : d1 ≠ d3) (n23 : d2 ≠ d3) (m12 : i ≠ j) (m13 : i ≠ k) (m23 : j ≠ k)
    (r0 : Region.ready md ops L = [i, k]) (r1 : Region.ready md ops (L.setIfInBounds i true) = [j, k]) (r2 : Region.ready md ops (L.setIfInBounds k true) = [i])
    (r3 : Region.ready md ops ((L.setIfInBounds i true).setIfInBounds k true) = [j]) (r4 : Region.ready md ops ((L.setIfInBounds i true).setIfInBounds j true) = [k])
    (wi0 : Region.wanted oi (yielded ops a.tmps) = true) (wi1 : ∀ vk, Region.wanted oi (yielded ops (a.put (some d3) vk).tmps) = true)
    (wj0 : ∀ vi, Region.wanted oj (yielded ops (a.put (some d1) vi).tmps) = true) (wj1 : ∀ vi vk, Region.wanted oj (yielded ops ((a.put (some d1) vi).put (some d3) vk).tmps) = true)
    (wk0 : Region.wanted ok (yielded ops a.tmps) = true) (wk1 : ∀ vi, Region.wanted ok (yielded ops (a.put (some d1) vi).tmps) = true) (wk2 : ∀ vi, Region.wanted ok (yielded ops ((a.put (some d1) vi).put (some d2) vj).tmps) = true)
    (mi : ∀ v W W', Ext W W' → Ri v W → Ri v W') (mk : ∀ v W W', Ext W W' → Rk v W → Rk v W')
    (Ei : ∀ (W : World) (x : Act), (x = a ∨ ∃ vk, x = a.put (some d3) vk) → Ext w W → ∀ K' : Act → World → Prop, (∀ v w', Ext W w' → Ri v w' → K' (x.put (some d1) v) w') → Oper.wp P oi x W K' Q)
    (Ej : ∀ (W : World) (x : Act) (vi : Value), (x = a.put (some d1) vi ∨ ∃ vk, x = (a.put (some d1) vi).put (some d3) vk) → Ext w W → Ri vi W → ∀ K' : Act → World → Prop, (∀ w', Ext W w' → K' (x.put (some d2) vj) w') → Oper.wp P oj x W K' Q)
    (Ek : ∀ (W : World) (x : Act), (x = a ∨ (∃ vi, x = a.put (some d1) vi) ∨ ∃ vi, x = (a.put (some d1) vi).put (some d2) vj) → Ext w W → ∀ K' : Act → World → Prop, (∀ v w', Ext W w' → Rk v w' → K' (x.put (some d3) v) w') → Oper.wp P ok x W K' Q)
    (h : ∀ vi vk w', Ext w w' → Rk vk w' → wpAnyH P md ops Q (Ext w') fuel (((L.setIfInBounds i true).setIfInBounds j true).setIfInBounds k true) (((a.put (some d1) vi).put (some d2) vj).put (some d3) vk) w') :
    wpAnyH P md ops Q (Ext w) (fuel + 1 + 1 + 1) L a w := by
  have tr : ∀ {A B C : World}, Ext A B → Ext B C → Ext A C := fun h1 h2 => h1.trans (h2.mono h1.size)
  have fin : ∀ vi vk w', Ext w w' → Rk vk w' → wpAnyH P md ops Q (Ext w) fuel (((L.setIfInBounds i true).setIfInBounds j true).setIfInBounds k true) (((a.put (some d1) vi).put (some d2) vj).put (some d3) vk) w' :=
    fun vi vk w' hw hr => wpAnyH_weaken (fun W hW => tr hw hW) fuel _ _ w' (h vi vk w' hw hr)
  refine wpAnyH_all r0 (by simp) (fun q hq => ?_)
  obtain rfl | rfl : q = i ∨ q = k := by simpa using hq
  · refine wpOp_step hi (fun K' hK => ?_)
    rw [if_pos wi0]
    refine Ei w a (.inl rfl) (Below.refl _ _) K' (fun vi w1 hb1 hR1 => hK _ _ ⟨hb1, ?_⟩)
    refine wpAnyH_all r1 (by simp) (fun q' hq' => ?_)
    obtain rfl | rfl : q' = j ∨ q' = k := by simpa using hq'
    · refine wpOp_step hj (fun K' hK => ?_)
      rw [if_pos (wj0 vi)]
      refine Ej w1 _ vi (.inl rfl) hb1 hR1 K' (fun w2 hb2 => hK _ _ ⟨tr hb1 hb2, ?_⟩)
      refine wpAnyH_all r4 (by simp) (fun q'' hq'' => ?_)
      obtain rfl : q'' = k := by simpa using hq''
      refine wpOp_step hk (fun K' hK => ?_)
      rw [if_pos (wk2 vi)]
      refine Ek w2 _ (.inr (.inr ⟨vi, rfl⟩)) (tr hb1 hb2) K' (fun vk w3 hb3 hR3 => hK _ _ ⟨tr (tr hb1 hb2) hb3, ?_⟩)
      exact fin vi vk w3 (tr (tr hb1 hb2) hb3) hR3
    · refine wpOp_step hk (fun K' hK => ?_)
      rw [if_pos (wk1 vi)]
      refine Ek w1 _ (.inr (.inl ⟨vi, rfl⟩)) hb1 K' (fun vk w2 hb2 hR2 => hK _ _ ⟨tr hb1 hb2, ?_⟩)
      refine wpAnyH_all r3 (by simp) (fun q'' hq'' => ?_)
      obtain rfl : q'' = j := by simpa using hq''
      refine wpOp_step hj (fun K' hK => ?_)
      rw [if_pos (wj1 vi vk)]
      refine Ej w2 _ vi (.inr ⟨vk, rfl⟩) (tr hb1 hb2) (mi _ _ _ hb2 hR1) K' (fun w3 hb3 => hK _ _ ⟨tr (tr hb1 hb2) hb3, ?_⟩)
      rw [put_comm _ (Ne.symm n23), Array.setIfInBounds_comm _ _ (Ne.symm m23)]
      exact fin vi vk w3 (tr (tr hb1 hb2) hb3) (mk _ _ _ hb3 hR2)
  · refine wpOp_step hk (fun K' hK => ?_)
    rw [if_pos wk0]
    refine Ek w a (.inl rfl) (Below.refl _ _) K' (fun vk w1 hb1 hR1 => hK _ _ ⟨hb1, ?_⟩)
    refine wpAnyH_all r2 (by simp) (fun q' hq' => ?_)
    obtain rfl : q' = i := by simpa using hq'
    refine wpOp_step hi (fun K' hK => ?_)
    rw [if_pos (wi1 vk)]
    refine Ei w1 _ (.inr ⟨vk, rfl⟩) hb1 K' (fun vi w2 hb2 hR2 => hK _ _ ⟨tr hb1 hb2, ?_⟩)
    rw [put_comm _ (Ne.symm n13), Array.setIfInBounds_comm _ _ (Ne.symm m13)]
    refine wpAnyH_all r3 (by simp) (fun q'' hq'' => ?_)
    obtain rfl : q'' = j := by simpa using hq''
    refine wpOp_step hj (fun K' hK => ?_)
    rw [if_pos (wj1 vi vk)]
    refine Ej w2 _ vi (.inr ⟨vk, rfl⟩) (tr hb1 hb2) hR2 K' (fun w3 hb3 => hK _ _ ⟨tr (tr hb1 hb2) hb3, ?_⟩)
    rw [put_comm _ (Ne.symm n23), Array.setIfInBounds_comm _ _ (Ne.symm m23)]
    exact fin vi vk w3 (tr (tr hb1 hb2) hb3) (mk _ _ _ hb3 (mk _ _ _ hb2 hR1))
end
end Go.Proofs.YtkbehdjaegomgaaDoor.K
