/- Stage's reads, where what an operation waits for is found in one pass (long regions). For any program. -/
import Derived.Test.YtocfbocdnklllaaStage
namespace Go.Proofs.Ytocfbocdnklllaa.K
open Go.ChangeShapes Go.WideShapes Go.ChangeAt Go.RowKit
set_option linter.unusedVariables false

section
variable {P : Program} {ops : Array Oper} {Q : Exit → Act → World → Prop} {md : Region.Mode} {S : World → Prop} {e : Nat}

def waitSet (md : Region.Mode) (ops : Array Oper) : Nat → List Nat → List Nat
 | 0, s => s
 | n + 1, s => bif s.contains n then (match ops[n]? with
     | some o => waitSet md ops n ((o.after.toList.filter (fun ed => Region.binds md ed)).map (·.on) ++ s)
     | none => waitSet md ops n s) else waitSet md ops n s
theorem waitSet_listed {L : Array Bool} (hc : Closed md ops L) : ∀ (n : Nat) (s : List Nat), (∀ x ∈ s, L.getD x false = true) → ∀ x ∈ waitSet md ops n s, L.getD x false = true
 | 0, s, h => h
 | n + 1, s, h => by
   unfold waitSet
   cases hs : s.contains n with
   | false => exact waitSet_listed hc n s h
   | true =>
     cases ho : ops[n]? with
     | none => exact waitSet_listed hc n s h
     | some o =>
       refine waitSet_listed hc n _ (fun x hx => ?_)
       rcases List.mem_append.1 hx with hx | hx
       · obtain ⟨ed, hed, rfl⟩ := List.mem_map.1 hx
         obtain ⟨h1, h2⟩ := List.mem_filter.1 hed
         exact hc.2 n o ho (h n (by simpa using hs)) ed (by simpa using h1) h2
       · exact h x hx
def waits (md : Region.Mode) (ops : Array Oper) (e i : Nat) : Bool := (waitSet md ops ops.size [e]).contains i
theorem waits_listed {L : Array Bool} (hc : Closed md ops L) {i : Nat} (h : waits md ops e i = true) (hl : L.getD e false = true) : L.getD i false = true :=
 waitSet_listed hc ops.size [e] (fun x hx => by rw [List.mem_singleton.1 hx]; exact hl) i (by simpa [waits] using h)

theorem wpAnyE_firstW {i : Nat} {oi : Oper} {v : Value} (hi : ops[i]? = some oi) (hsel : ∀ (j : Nat) (o : Oper) cs b, ops[j]? = some o → o.op ≠ .select cs b)
   (hQ : ∀ c a w, Q (.panic c) (a.put oi.dst v) w → Q (.panic c) a w) (hreach : waits md ops e i = true) (hei : i ≠ e) :
   ∀ (fuel : Nat) (listed : Array Bool) (a : Act) (w : World), Closed md ops listed →
     (∀ j oj, ops[j]? = some oj → j ≠ i → listed.getD j true = false → (∀ ed ∈ oj.after, Region.binds md ed = true → ed.on ≠ i) → oi.apart ops oj = true) →
     i ∈ Region.ready md ops listed → YieldsIf P ops S oi v a → S w →
     wpAnyE P md ops Q e S fuel (listed.setIfInBounds i true) (a.put oi.dst v) w → wpAnyE P md ops Q e S (fuel + 1) listed a w := by
 intro fuel
 induction fuel with
 | zero =>
   intro listed a w hc _ hr hy hS H
   refine ⟨fun h => (by rw [h] at hr; cases hr), fun j hj => ?_⟩
   by_cases hji : j = i
   · subst hji; exact hy.wpOp hi hS ⟨fun _ => hS, H⟩
   · have := ready_mono hj hji
     rw [H.1] at this
     cases this
 | succ fuel ih =>
   intro listed a w hc hfree hr hy hS H
   refine ⟨fun h => (by rw [h] at hr; cases hr), fun j hj => ?_⟩
   by_cases hji : j = i
   · subst hji; exact hy.wpOp hi hS ⟨fun _ => hS, H⟩
   · have h1 := H.2 j (ready_mono hj hji)
     obtain ⟨hjun, oj, hoj, hall⟩ := mem_ready.1 hj
     have hnot : ∀ ed ∈ oj.after, Region.binds md ed = true → ed.on ≠ i := fun ed he hb heq => by
       have h1 := hall ed he hb
       have h0 := (mem_ready.1 hr).1
       rw [heq, getD_both h0] at h1
       cases h1
     have h2 := wpOp_putIf hoj (hfree j oj hoj hji hjun hnot) (fun cs b => hsel i oi cs b hi) (fun cs b => hsel j oj cs b hoj) hQ hy h1
     have hfree' : ∀ k ok, ops[k]? = some ok → k ≠ i → (listed.setIfInBounds j true).getD k true = false →
         (∀ ed ∈ ok.after, Region.binds md ed = true → ed.on ≠ i) → oi.apart ops ok = true := fun k ok hk hki hun hno => by
       refine hfree k ok hk hki ?_ hno
       by_cases hjk : j = k
       · subst hjk; exact hjun
       · rw [getD_set_ne true hjk] at hun; exact hun
     have hc' := hc.set hj
     have hr' := ready_mono hr (Ne.symm hji)
     have hen : (listed.setIfInBounds j true).getD e false = false := by
       cases hq : (listed.setIfInBounds j true).getD e false with
       | false => rfl
       | true =>
         have := waits_listed hc' hreach hq
         rw [getD_both (mem_ready.1 hr').1] at this
         cases this
     refine wpOp_mono (fun a' w' h3 => ?_) h2
     have hS' : S w' := h3.2.1 (by rw [Array.setIfInBounds_comm _ _ (Ne.symm hji), getD_set_ne false hei]; exact hen)
     refine ⟨fun _ => hS', ih (listed.setIfInBounds j true) a' w' hc' hfree' hr' h3.1 hS' ?_⟩
     rw [Array.setIfInBounds_comm _ _ hji]
     exact h3.2.2

theorem stepE_readW (i : Nat) (d : Option Tmp) {oi : Oper} {v : Value} {fuel : Nat} {listed : Array Bool} {a : Act} {w : World} (hS : S w) (hi : ops[i]? = some oi) (hd : oi.dst = d)
   (hs : Region.noSelect ops = true) (hf : Region.free md ops listed i = true) (hr : (Region.ready md ops listed).contains i = true)
   (hc : closedB md ops listed = true) (hre : (waits md ops e i && decide (i ≠ e)) = true)
   (hQ : ∀ c a w, Q (.panic c) (a.put d v) w → Q (.panic c) a w) (hw : Region.wanted oi (yielded ops a.tmps) = true)
   (hy : ∀ W, S W → (execOp a.eval oi).run P W = .ok (.value v) W)
   (h : wpAnyE P md ops Q e S fuel (listed.setIfInBounds i true) (a.put d v) w) : wpAnyE P md ops Q e S (fuel + 1) listed a w := by
 subst hd
 simp only [Bool.and_eq_true, decide_eq_true_eq] at hre
 exact wpAnyE_firstW hi (Region.noSelect_spec hs) hQ hre.1 hre.2 fuel listed a w (closedB_spec hc) (Region.free_spec hi hf) (by simpa using hr) (.inl ⟨hw, hy⟩) hS h
end
end Go.Proofs.Ytocfbocdnklllaa.K
