/- stream: bits turned: pure. -/
import Derived.Test.YtodiklpfdfjikaaDoorStr15
namespace Go.Proofs.YtodiklpfdfjikaaDoor.K
open Go.ChangeShapes Go.WideShapes Go.ChangeAt Go.RowKit
set_option linter.unusedVariables false
set_option linter.unusedSimpArgs false
end Go.Proofs.YtodiklpfdfjikaaDoor.K
