/- chain: parts of a chain, some merged with the one ahead. -/
import Derived.Test.YtflcgpajodfkoaaDoorCha5m
import Derived.Test.YtflcgpajodfkoaaDoorG2
namespace Go.Proofs.YtflcgpajodfkoaaDoor.K
open Go.ChangeShapes Go.WideShapes Go.ChangeAt Go.RowKit
set_option linter.unusedVariables false
set_option linter.unusedSimpArgs false
theorem endT_next {y : VolV} {fr : Int} {l : List StrV} {i t : Nat} {a : Int} (h : l[i]? = some (seg y a t)) : endT fr (l.take (i + 1)) = (t : Int) := endT_take h
end Go.Proofs.YtflcgpajodfkoaaDoor.K
