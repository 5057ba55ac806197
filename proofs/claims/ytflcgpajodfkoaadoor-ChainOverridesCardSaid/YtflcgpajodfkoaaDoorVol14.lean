/- volume: pins. -/
import Derived.Test.YtflcgpajodfkoaaDoorVol12
import Derived.Test.YtflcgpajodfkoaaDoorG2
import Derived.Lib.Slices
namespace Go.Proofs.YtflcgpajodfkoaaDoor.K
open Go.ChangeShapes Go.WideShapes Go.ChangeAt Go.RowKit Go.Sort
set_option linter.unusedVariables false
set_option linter.unusedSimpArgs false
def sortP (l : List Int) : List Int := l.mergeSort fun x y => decide (x ≤ y)
def pinR (hi : Bool) (fl at0 nd : Int) (pins : List Int) : List Int × Int := if reachR hi fl at0 nd = 0 then (sortP (pins ++ [at0]), 0) else (pins, reachR hi fl at0 nd)
def unpinR (hi : Bool) (at0 : Int) (pins : List Int) : List Int × Int := if hi = true ∨ Lib.idxOf pins at0 < 0 then (pins, 28) else (pins.take (Lib.idxOf pins at0).toNat ++ pins.drop ((Lib.idxOf pins at0).toNat + 1), 0)
set_option maxRecDepth 100000
set_option maxHeartbeats 4000000
end Go.Proofs.YtflcgpajodfkoaaDoor.K
