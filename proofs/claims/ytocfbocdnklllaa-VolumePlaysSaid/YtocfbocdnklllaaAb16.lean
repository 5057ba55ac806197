/- A cell of an element of a slice of one's own is written. For any program. -/
import Derived.Test.YtocfbocdnklllaaAb15
namespace Go.Proofs.Ytocfbocdnklllaa.K
open Go.ChangeShapes Go.WideShapes Go.ChangeAt Go.RowKit
set_option linter.unusedVariables false
set_option linter.unusedSimpArgs false

theorem flatten_set {α : Type} {mm : Nat} (v : α) (q : Nat) (hq : q < mm) : ∀ (cs : List (List α)) (J : Nat) (c : List α), (∀ c ∈ cs, c.length = mm) → cs[J]? = some c → cs.flatten.set (J * mm + q) v = (cs.set J (c.set q v)).flatten
 | [], J, c, _, h => by simp at h
 | a :: cs, 0, c, hc, h => by
   simp at h; subst h
   have ha := hc a (by simp)
   rw [List.set_cons_zero, List.flatten_cons, List.flatten_cons, Nat.zero_mul, Nat.zero_add, List.set_append_left _ _ (by omega)]
 | a :: cs, J + 1, c, hc, h => by
   have ha := hc a (by simp)
   have ih := flatten_set v q hq cs J c (fun c h => hc c (by simp [h])) (by simpa using h)
   rw [List.set_cons_succ, List.flatten_cons, List.flatten_cons, ← ih, List.set_append_right _ _ (by rw [ha, Nat.add_mul]; omega)]
   congr 2
   rw [ha, Nat.add_mul]; omega
theorem RowOk.cast {N : Nat} {S S' : Nat → Prop} {w : World} {v : Value} {e : TypeId} {m : Nat} {rows : List (List D)} (h : RowOk N S w v e m rows) (hs : ∀ b, S b → S' b) : RowOk N S' w v e m rows := by
 obtain ⟨cs, h1, h2, h3, h4, h5⟩ := h
 exact ⟨cs, h1, h2, h3, h4, fun j q c r x d a1 a2 a3 a4 => (h5 j q c r x d a1 a2 a3 a4).cast hs⟩
section
variable {P : Program} {n : Nat} {T : List (Nat × Value)} {a : Act} {w w0 : World} {X : Cx} {M : Mm} {tt : TypeId} {pos : String} {af : Array Edge} {gd : Option (Nat × Bool)} {Q : Exit → Act → World → Prop} {K : Act → World → Prop}
end
end Go.Proofs.Ytocfbocdnklllaa.K
