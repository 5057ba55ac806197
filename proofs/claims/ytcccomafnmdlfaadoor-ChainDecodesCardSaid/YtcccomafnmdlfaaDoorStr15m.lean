/- stream: a volume's stream, whole or of what differs: pure. -/
import Derived.Test.YtcccomafnmdlfaaDoorStr14
import Derived.Test.YtcccomafnmdlfaaDoorCha3
namespace Go.Proofs.YtcccomafnmdlfaaDoor.K
open Go.ChangeShapes Go.WideShapes Go.ChangeAt Go.RowKit
set_option linter.unusedVariables false
set_option linter.unusedSimpArgs false
theorem itemB_len2 {e : Int × List Int} (h0 : 0 ≤ e.1 ∧ e.1 ≤ 256) (h : e.2.length ≤ 32) : (itemB e).length ≤ 38 := by
 have := enc_two h0.1 (by omega)
 rw [itemB, sealC_len, List.length_append]; omega
theorem itemsB_len2 (its : List (Int × List Int)) (h : ∀ e ∈ its, (0 ≤ e.1 ∧ e.1 ≤ 256) ∧ e.2.length ≤ 32) : (itemsB its).length ≤ 38 * its.length := by
 induction its with
 | nil => simp [itemsB]
 | cons e es ih =>
   have h1 := ih (fun x hx => h x (List.mem_cons_of_mem _ hx))
   have h3 := h e List.mem_cons_self
   have h2 := itemB_len2 h3.1 h3.2
   simp only [itemsB, List.flatMap_cons, List.length_append, List.length_cons] at h1 ⊢
   omega
theorem str_len {bl sz fr to : Int} {its : List (Int × List Int)} (h : StreamOk bl sz fr to its) : (strB bl sz fr to its).length ≤ 9800 := by
 have h1 := headB_len bl sz fr to its.length
 have h2 := itemsB_len2 its (fun e he => ⟨(h.it e he).1, by have := (h.it e he).2; have := h.z; omega⟩)
 have h3 := h.len
 rw [strB, List.length_append, bodyB, List.length_append, fourC_len]; omega
def difI (fl : Bool) (A B : List (List Int)) (k : Nat) : List (Int × List Int) := (List.range k).filterMap fun j => if (fl || !decide (A.getD j [] = B.getD j [])) = true then some ((j : Int), B.getD j []) else none
theorem stSteps_by (l : List PI) (hl : ∀ x ∈ l, BytesL x.2) : ∀ (L : List (List Int)), (∀ d ∈ L, BytesL d) → ∀ d ∈ l.foldl stStep L, BytesL d := by
 induction l with
 | nil => intro L h; exact h
 | cons x l ih =>
   intro L h
   rw [List.foldl_cons]
   refine ih (fun y hy => hl y (List.mem_cons_of_mem _ hy)) _ (fun d hd => ?_)
   unfold stStep at hd
   split at hd
   · rcases List.mem_or_eq_of_mem_set hd with h1 | rfl
     · exact h d h1
     exact hl x List.mem_cons_self
   exact h d hd
theorem stWs_by (l : List PWr) (hl : WBy l) : ∀ (L : List (List Int)), (∀ d ∈ L, BytesL d) → ∀ d ∈ l.foldl stW L, BytesL d := by
 induction l with
 | nil => intro L h; exact h
 | cons e l ih => intro L h; rw [List.foldl_cons]; exact ih (fun y hy => hl y (List.mem_cons_of_mem _ hy)) _ (stSteps_by e.2 (hl e List.mem_cons_self) L h)
theorem stL_by {ws : List PWr} (h : WBy ws) (bl sz : Int) (t k : Nat) : BytesL ((stL bl sz ws t).getD k []) := by
 by_cases hk : k < (stL bl sz ws t).length
 · rw [List.getD, List.getElem?_eq_getElem hk]
   exact stWs_by _ (fun e he => h e (List.mem_of_mem_take he)) _ (fun d hd9 x hx => by rw [(List.mem_replicate.1 hd9).2] at hx; rw [(List.mem_replicate.1 hx).2]; omega) _ (List.getElem_mem hk)
 rw [List.getD, List.getElem?_eq_none (by omega)]; exact fun x hx => by cases hx
end Go.Proofs.YtcccomafnmdlfaaDoor.K
