/- volume: noughts, itemsOf. -/
import Derived.Test.YtkdnhndjjfjppaaVol5
import Derived.Test.YtkdnhndjjfjppaaG2
namespace Go.Proofs.Ytkdnhndjjfjppaa.K
open Go.ChangeShapes Go.WideShapes Go.ChangeAt Go.RowKit
set_option linter.unusedVariables false
set_option linter.unusedSimpArgs false
def bD (l : List Int) : List D := [.ns .u8 l]
def itemsL (fi cn9 : Int) (es : List (Int × List Int)) : List (Int × List Int) := (es.filter (fun x => decide (fi ≤ x.1 ∧ x.1 ≤ fi + cn9 - 1))).map (fun x => (x.1 - fi, x.2))
set_option maxRecDepth 100000
set_option maxHeartbeats 4000000
end Go.Proofs.Ytkdnhndjjfjppaa.K
