/- chain: a chain of which one is left out. -/
import Derived.Test.YtflcgpajodfkoaaDoorCha4
namespace Go.Proofs.YtflcgpajodfkoaaDoor.K
open Go.ChangeShapes Go.WideShapes Go.ChangeAt Go.RowKit
set_option linter.unusedVariables false
set_option linter.unusedSimpArgs false
theorem tmod_natC {a : Int} {n : Nat} (ha : 0 ≤ a) (hn : 0 < n) : ∃ x : Nat, a.tmod (n : Int) = (x : Int) ∧ x < n := by
 have h1 := Int.emod_nonneg a (show (n : Int) ≠ 0 by omega)
 have h2 := Int.emod_lt_of_pos a (show (0 : Int) < n by omega)
 exact ⟨(a % n).toNat, by rw [Int.tmod_eq_emod_of_nonneg ha]; omega, by omega⟩
abbrev restV (ss : List StrV) (k : Nat) : List StrV := ss.take k ++ ss.drop (k + 1)
end Go.Proofs.YtflcgpajodfkoaaDoor.K
