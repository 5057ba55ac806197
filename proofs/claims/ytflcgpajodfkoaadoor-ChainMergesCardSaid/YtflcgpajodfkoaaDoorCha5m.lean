/- chain: a chain of which one is left out. -/
import Derived.Test.YtflcgpajodfkoaaDoorCha4
namespace Go.Proofs.YtflcgpajodfkoaaDoor.K
open Go.ChangeShapes Go.WideShapes Go.ChangeAt Go.RowKit
set_option linter.unusedVariables false
set_option linter.unusedSimpArgs false
abbrev restV (ss : List StrV) (k : Nat) : List StrV := ss.take k ++ ss.drop (k + 1)
end Go.Proofs.YtflcgpajodfkoaaDoor.K
