/- volume: what a call does. -/
import Derived.Test.YtflcgpajodfkoaaDoorVol11
namespace Go.Proofs.YtflcgpajodfkoaaDoor.K
open Go.ChangeShapes Go.WideShapes Go.ChangeAt Go.RowKit
set_option linter.unusedVariables false
set_option linter.unusedSimpArgs false
open Classical in
noncomputable def wrR (bl sz : Int) (ws : List (Int × List (Int × List Int))) (it : List (Int × List Int)) : List (Int × List (Int × List Int)) × Int := if ItemsR bl sz it then (ws ++ [((ws.length : Int) + 1, it)], 0) else (ws, 23)
abbrev VolO := Int × Bool × Int × List (Int × List (Int × List Int)) × Int
noncomputable def putR (bl sz ne fl : Int) (hi : Bool) (ws : List (Int × List (Int × List Int))) (it : List (Int × List Int)) : VolO := if hi = true then (ne, hi, fl, ws, 28) else (ne, hi, fl, (wrR bl sz ws it).1, (wrR bl sz ws it).2)
def reachR (hi : Bool) (fl at0 nd : Int) : Int := if hi = true then 28 else if at0 < fl then 30 else if nd < at0 then 31 else 0
def pruneR (ne fl : Int) (hi : Bool) (pins : List Int) (ws : List (Int × List (Int × List Int))) (at0 : Int) : VolO := if reachR hi fl at0 (lowL ws.length pins) = 0 then (ne, hi, at0, ws, 0) else (ne, hi, fl, ws, reachR hi fl at0 (lowL ws.length pins))
noncomputable def takeR (bl sz to ne fl : Int) (hi : Bool) (ws : List (Int × List (Int × List Int))) (ix : Int) (it : List (Int × List Int)) : VolO :=
 if hi = false then (ne, hi, fl, ws, 33) else if 0 ≤ ix ∧ ix ≤ ne - 1 then (ne, hi, fl, ws, 0) else if ix ≠ ne ∨ ne = to then (ne, hi, fl, ws, 33)
 else if (wrR bl sz ws it).2 = 0 then (ne + 1, hi, fl, (wrR bl sz ws it).1, 0) else (ne, hi, fl, (wrR bl sz ws it).1, (wrR bl sz ws it).2)
def publishR (to ne fl : Int) (hi : Bool) (ws : List (Int × List (Int × List Int))) : VolO := if hi = false ∨ ne ≠ to then (ne, hi, fl, ws, 33) else (ne, false, (ws.length : Int), ws, 0)
noncomputable def doR (bl sz to ne fl : Int) (hi : Bool) (pins : List Int) (ws : List (Int × List (Int × List Int))) (kd at0 ix : Int) (it : List (Int × List Int)) : VolO :=
 if kd = 2 then putR bl sz ne fl hi ws it else if kd = 3 then pruneR ne fl hi pins ws at0 else if kd = 6 then takeR bl sz to ne fl hi ws ix it
 else if kd = 7 then publishR to ne fl hi ws else if kd = 8 then (ne, hi, fl, ws, 0) else (ne, hi, fl, ws, 23)
set_option maxRecDepth 100000
set_option maxHeartbeats 4000000
end Go.Proofs.YtflcgpajodfkoaaDoor.K
