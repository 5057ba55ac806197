/- stream: StreamCut's walk. -/
import Derived.Test.YtodiklpfdfjikaaDoorStr17
import Derived.Test.YtodiklpfdfjikaaDoorStr16
namespace Go.Proofs.YtodiklpfdfjikaaDoor.K
open Go.ChangeShapes Go.WideShapes Go.ChangeAt Go.RowKit
set_option linter.unusedVariables false
set_option linter.unusedSimpArgs false
section
variable {bs mo : List Int} {F : Nat} {bl sz fr to bl2 sz2 fr2 to2 er : Int} {its its2 : List (Int × List Int)}
end
set_option maxRecDepth 100000
set_option maxHeartbeats 4000000
end Go.Proofs.YtodiklpfdfjikaaDoor.K
