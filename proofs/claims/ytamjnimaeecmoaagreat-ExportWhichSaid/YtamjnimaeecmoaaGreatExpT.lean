/- export: a remainder is no less than 0. -/
import Derived.Test.YtamjnimaeecmoaaGreatG1
namespace Go.Proofs.YtamjnimaeecmoaaGreat.K
open Go.ChangeShapes Go.WideShapes Go.ChangeAt Go.RowKit
set_option linter.unusedVariables false
set_option linter.unusedSimpArgs false
theorem tm_at {x d : Int} (hx : 0 ≤ x) (hd : 0 < d) : ∃ r : Int, x.tmod d = r ∧ 0 ≤ r := ⟨_, rfl, by rw [Int.tmod_eq_emod_of_nonneg hx]; exact Int.emod_nonneg x (by omega)⟩
end Go.Proofs.YtamjnimaeecmoaaGreat.K
