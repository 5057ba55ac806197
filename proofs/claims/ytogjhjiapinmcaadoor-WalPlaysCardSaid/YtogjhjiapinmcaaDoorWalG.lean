/- Lists of records written one behind another. -/
import Derived.Test.YtogjhjiapinmcaaDoorWal6
namespace Go.Proofs.YtogjhjiapinmcaaDoor.K
open Go.ChangeShapes Go.WideShapes Go.ChangeAt Go.RowKit
set_option linter.unusedVariables false
set_option linter.unusedSimpArgs false

def putRs (secs : List (List Int)) (gn : Int) : Nat → List (List Int) → List (List Int)
 | _, [] => secs
 | f, b :: t => putRs (putK secs f gn (recV b) (secN (recN b.length))) gn (f + secN (recN b.length)) t
end Go.Proofs.YtogjhjiapinmcaaDoor.K
