/- A region that draws its order: one allocation beside a chain of three operations: four orders, one way on. What is held is that the blocks of the world at the fork stay. For any program. -/
import Derived.Test.YtkbehdjaegomgaaDoorFork
namespace Go.Proofs.YtkbehdjaegomgaaDoor.K
open Go.ChangeShapes Go.WideShapes Go.ChangeAt Go.RowKit
set_option linter.unusedVariables false

section
variable {P : Program} {ops : Array Oper} {Q : Exit → Act → World → Prop} {md : Region.Mode} {w0 : World}

theorem step_read0 (i : Nat) (d : Option Tmp) {oi : Oper} {v : Value} {fuel : Nat} {listed : Array Bool} {a : Act} {w : World} (hw0 : Ext w0 w) (hi : ops[i]? = some oi) (hd : oi.dst = d)
    (hs : Region.noSelect ops = true) (hf : Region.free md ops listed i = true) (hr : (Region.ready md ops listed).contains i = true)
    (hQ : ∀ c a w, Q (.panic c) (a.put d v) w → Q (.panic c) a w) (hw : Region.wanted oi (yielded ops a.tmps) = true)
    (hy : ∀ W, Ext w0 W → (execOp a.eval oi).run P W = .ok (.value v) W)
    (h : wpAnyH P md ops Q (Ext w0) fuel (listed.setIfInBounds i true) (a.put d v) w) : wpAnyH P md ops Q (Ext w0) (fuel + 1) listed a w := by
  subst hd
  exact wpAnyH_take hi hs hf hr hQ (Or.inl ⟨hw, hy⟩) hw0 h

theorem step_only0 (i : Nat) {o : Oper} {fuel : Nat} {listed : Array Bool} {a : Act} {w : World} (hi : ops[i]? = some o) (hr : Region.ready md ops listed = [i])
    (hw : Region.wanted o (yielded ops a.tmps) = true)
    (h : ∀ K' : Act → World → Prop, (∀ a' w', Ext w0 w' → wpAnyH P md ops Q (Ext w0) fuel (listed.setIfInBounds i true) a' w' → K' a' w') → Oper.wp P o a w K' Q) :
    wpAnyH P md ops Q (Ext w0) (fuel + 1) listed a w := by
  refine wpAnyH_all hr (by simp) (fun j hj => ?_)
  obtain rfl : j = i := by simpa using hj
  refine wpOp_step hi (fun K' hK => ?_)
  rw [if_pos hw]
  exact h K' (fun a' w' hb hn => hK a' w' ⟨hb, hn⟩)

theorem step_side3 (j1 j2 j3 k : Nat) (e1 e2 e3 d : Tmp) {o1 o2 o3 ok : Oper} {fuel : Nat} {L : Array Bool} {a : Act} {w : World} (R3 Rk : Value → World → Prop) (v1 v2 : Value)
    (h1 : ops[j1]? = some o1) (h2 : ops[j2]? = some o2) (h3 : ops[j3]? = some o3) (hk : ops[k]? = some ok) (n1 : e1 ≠ d) (n2 : e2 ≠ d) (n3 : e3 ≠ d) (m1 : j1 ≠ k) (m2 : j2 ≠ k) (m3 : j3 ≠ k)
    (r0 : Region.ready md ops L = [j1, k]) (r1 : Region.ready md ops (L.setIfInBounds j1 true) = [j2, k]) (r2 : Region.ready md ops ((L.setIfInBounds j1 true).setIfInBounds j2 true) = [j3, k])
    (r3 : Region.ready md ops (((L.setIfInBounds j1 true).setIfInBounds j2 true).setIfInBounds j3 true) = [k])
    (s0 : Region.ready md ops (L.setIfInBounds k true) = [j1]) (s1 : Region.ready md ops ((L.setIfInBounds j1 true).setIfInBounds k true) = [j2]) (s2 : Region.ready md ops (((L.setIfInBounds j1 true).setIfInBounds j2 true).setIfInBounds k true) = [j3])
    (u1 : ∀ x, (x = a ∨ ∃ vk, x = a.put (some d) vk) → Region.wanted o1 (yielded ops x.tmps) = true)
    (u2 : ∀ x, (x = a.put (some e1) v1 ∨ ∃ vk, x = (a.put (some e1) v1).put (some d) vk) → Region.wanted o2 (yielded ops x.tmps) = true)
    (u3 : ∀ x, (x = (a.put (some e1) v1).put (some e2) v2 ∨ ∃ vk, x = ((a.put (some e1) v1).put (some e2) v2).put (some d) vk) → Region.wanted o3 (yielded ops x.tmps) = true)
    (uk : ∀ x, (x = a ∨ x = a.put (some e1) v1 ∨ x = (a.put (some e1) v1).put (some e2) v2 ∨ ∃ v3, x = ((a.put (some e1) v1).put (some e2) v2).put (some e3) v3) → Region.wanted ok (yielded ops x.tmps) = true)
    (mk : ∀ v W W', Ext W W' → Rk v W → Rk v W') (mr : ∀ v W W', Ext W W' → R3 v W → R3 v W')
    (E1 : ∀ (W : World) (x : Act), (x = a ∨ ∃ vk, x = a.put (some d) vk) → Ext w W → ∀ K' : Act → World → Prop, (∀ w', Ext W w' → K' (x.put (some e1) v1) w') → Oper.wp P o1 x W K' Q)
    (E2 : ∀ (W : World) (x : Act), (x = a.put (some e1) v1 ∨ ∃ vk, x = (a.put (some e1) v1).put (some d) vk) → Ext w W → ∀ K' : Act → World → Prop, (∀ w', Ext W w' → K' (x.put (some e2) v2) w') → Oper.wp P o2 x W K' Q)
    (E3 : ∀ (W : World) (x : Act), (x = (a.put (some e1) v1).put (some e2) v2 ∨ ∃ vk, x = ((a.put (some e1) v1).put (some e2) v2).put (some d) vk) → Ext w W → ∀ K' : Act → World → Prop, (∀ v w', Ext W w' → R3 v w' → K' (x.put (some e3) v) w') → Oper.wp P o3 x W K' Q)
    (Ek : ∀ (W : World) (x : Act), (x = a ∨ x = a.put (some e1) v1 ∨ x = (a.put (some e1) v1).put (some e2) v2 ∨ ∃ v3, x = ((a.put (some e1) v1).put (some e2) v2).put (some e3) v3) → Ext w W → ∀ K' : Act → World → Prop, (∀ v w', Ext W w' → Rk v w' → K' (x.put (some d) v) w') → Oper.wp P ok x W K' Q)
    (h : ∀ v3 vk w', Ext w w' → R3 v3 w' → Rk vk w' → wpAnyH P md ops Q (Ext w) fuel ((((L.setIfInBounds j1 true).setIfInBounds j2 true).setIfInBounds j3 true).setIfInBounds k true) ((((a.put (some e1) v1).put (some e2) v2).put (some e3) v3).put (some d) vk) w') :
    wpAnyH P md ops Q (Ext w) (fuel + 1 + 1 + 1 + 1) L a w := by
  have tr : ∀ {A B C : World}, Ext A B → Ext B C → Ext A C := fun h1 h2 => h1.trans (h2.mono h1.size)
  have kd2 : ∀ vk W, Ext w W → Rk vk W → wpAnyH P md ops Q (Ext w) (fuel + 1) (((L.setIfInBounds j1 true).setIfInBounds j2 true).setIfInBounds k true) (((a.put (some e1) v1).put (some e2) v2).put (some d) vk) W := by
    intro vk W hW hR
    refine wpAnyH_all s2 (by simp) (fun q hq => ?_)
    obtain rfl : q = j3 := by simpa using hq
    refine wpOp_step h3 (fun K' hK => ?_)
    rw [if_pos (u3 _ (.inr ⟨vk, rfl⟩))]
    refine E3 W _ (.inr ⟨vk, rfl⟩) hW K' (fun v3 w' hb hR3 => hK _ _ ⟨tr hW hb, ?_⟩)
    rw [put_comm _ (Ne.symm n3), Array.setIfInBounds_comm _ _ (Ne.symm m3)]
    exact h v3 vk w' (tr hW hb) hR3 (mk _ _ _ hb hR)
  have kd1 : ∀ vk W, Ext w W → Rk vk W → wpAnyH P md ops Q (Ext w) (fuel + 1 + 1) ((L.setIfInBounds j1 true).setIfInBounds k true) ((a.put (some e1) v1).put (some d) vk) W := by
    intro vk W hW hR
    refine wpAnyH_all s1 (by simp) (fun q hq => ?_)
    obtain rfl : q = j2 := by simpa using hq
    refine wpOp_step h2 (fun K' hK => ?_)
    rw [if_pos (u2 _ (.inr ⟨vk, rfl⟩))]
    refine E2 W _ (.inr ⟨vk, rfl⟩) hW K' (fun w' hb => hK _ _ ⟨tr hW hb, ?_⟩)
    rw [put_comm _ (Ne.symm n2), Array.setIfInBounds_comm _ _ (Ne.symm m2)]
    exact kd2 vk w' (tr hW hb) (mk _ _ _ hb hR)
  have kd0 : ∀ vk W, Ext w W → Rk vk W → wpAnyH P md ops Q (Ext w) (fuel + 1 + 1 + 1) (L.setIfInBounds k true) (a.put (some d) vk) W := by
    intro vk W hW hR
    refine wpAnyH_all s0 (by simp) (fun q hq => ?_)
    obtain rfl : q = j1 := by simpa using hq
    refine wpOp_step h1 (fun K' hK => ?_)
    rw [if_pos (u1 _ (.inr ⟨vk, rfl⟩))]
    refine E1 W _ (.inr ⟨vk, rfl⟩) hW K' (fun w' hb => hK _ _ ⟨tr hW hb, ?_⟩)
    rw [put_comm _ (Ne.symm n1), Array.setIfInBounds_comm _ _ (Ne.symm m1)]
    exact kd1 vk w' (tr hW hb) (mk _ _ _ hb hR)
  have nk3 : ∀ v3 W, Ext w W → R3 v3 W → wpAnyH P md ops Q (Ext w) (fuel + 1) (((L.setIfInBounds j1 true).setIfInBounds j2 true).setIfInBounds j3 true) (((a.put (some e1) v1).put (some e2) v2).put (some e3) v3) W := by
    intro v3 W hW hR
    refine wpAnyH_all r3 (by simp) (fun q hq => ?_)
    obtain rfl : q = k := by simpa using hq
    refine wpOp_step hk (fun K' hK => ?_)
    rw [if_pos (uk _ (.inr (.inr (.inr ⟨v3, rfl⟩))))]
    refine Ek W _ (.inr (.inr (.inr ⟨v3, rfl⟩))) hW K' (fun vk w' hb hRk => hK _ _ ⟨tr hW hb, ?_⟩)
    exact h v3 vk w' (tr hW hb) (mr _ _ _ hb hR) hRk
  have nk2 : ∀ W, Ext w W → wpAnyH P md ops Q (Ext w) (fuel + 1 + 1) ((L.setIfInBounds j1 true).setIfInBounds j2 true) ((a.put (some e1) v1).put (some e2) v2) W := by
    intro W hW
    refine wpAnyH_all r2 (by simp) (fun q hq => ?_)
    obtain rfl | rfl : q = j3 ∨ q = k := by simpa using hq
    · refine wpOp_step h3 (fun K' hK => ?_)
      rw [if_pos (u3 _ (.inl rfl))]
      exact E3 W _ (.inl rfl) hW K' (fun v3 w' hb hR3 => hK _ _ ⟨tr hW hb, nk3 v3 w' (tr hW hb) hR3⟩)
    · refine wpOp_step hk (fun K' hK => ?_)
      rw [if_pos (uk _ (.inr (.inr (.inl rfl))))]
      exact Ek W _ (.inr (.inr (.inl rfl))) hW K' (fun vk w' hb hRk => hK _ _ ⟨tr hW hb, kd2 vk w' (tr hW hb) hRk⟩)
  have nk1 : ∀ W, Ext w W → wpAnyH P md ops Q (Ext w) (fuel + 1 + 1 + 1) (L.setIfInBounds j1 true) (a.put (some e1) v1) W := by
    intro W hW
    refine wpAnyH_all r1 (by simp) (fun q hq => ?_)
    obtain rfl | rfl : q = j2 ∨ q = k := by simpa using hq
    · refine wpOp_step h2 (fun K' hK => ?_)
      rw [if_pos (u2 _ (.inl rfl))]
      exact E2 W _ (.inl rfl) hW K' (fun w' hb => hK _ _ ⟨tr hW hb, nk2 w' (tr hW hb)⟩)
    · refine wpOp_step hk (fun K' hK => ?_)
      rw [if_pos (uk _ (.inr (.inl rfl)))]
      exact Ek W _ (.inr (.inl rfl)) hW K' (fun vk w' hb hRk => hK _ _ ⟨tr hW hb, kd1 vk w' (tr hW hb) hRk⟩)
  refine wpAnyH_all r0 (by simp) (fun q hq => ?_)
  obtain rfl | rfl : q = j1 ∨ q = k := by simpa using hq
  · refine wpOp_step h1 (fun K' hK => ?_)
    rw [if_pos (u1 _ (.inl rfl))]
    exact E1 w _ (.inl rfl) (Below.refl _ _) K' (fun w' hb => hK _ _ ⟨hb, nk1 w' hb⟩)
  · refine wpOp_step hk (fun K' hK => ?_)
    rw [if_pos (uk _ (.inl rfl))]
    exact Ek w _ (.inl rfl) (Below.refl _ _) K' (fun vk w' hb hRk => hK _ _ ⟨hb, kd0 vk w' hb hRk⟩)
end
end Go.Proofs.YtkbehdjaegomgaaDoor.K
