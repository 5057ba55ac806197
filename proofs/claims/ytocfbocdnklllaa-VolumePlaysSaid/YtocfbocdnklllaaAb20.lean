/- A row of data, opened. For any program. -/
import Derived.Test.YtocfbocdnklllaaAb19
namespace Go.Proofs.Ytocfbocdnklllaa.K
open Go.ChangeShapes Go.WideShapes Go.ChangeAt Go.RowKit
set_option linter.unusedVariables false
theorem RdL.cons_inv {S : Nat → Prop} {w : World} {vs : List Value} {d : D} {ds : List D} (h : RdL S w vs (d :: ds)) : ∃ v r, vs = v :: r ∧ Rd S w v d ∧ RdL S w r ds := by
 cases h with
 | cons h t => exact ⟨_, _, rfl, h, t⟩
theorem RdL.nil_inv {S : Nat → Prop} {w : World} {vs : List Value} (h : RdL S w vs []) : vs = [] := by
 cases h; rfl
end Go.Proofs.Ytocfbocdnklllaa.K
