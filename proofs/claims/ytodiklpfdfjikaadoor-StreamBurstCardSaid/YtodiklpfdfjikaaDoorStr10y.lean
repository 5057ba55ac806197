/- stream: append onto bytes of a constant. -/
import Derived.Test.YtodiklpfdfjikaaDoorStr9
import Derived.ArgAppend
namespace Go.Proofs.YtodiklpfdfjikaaDoor.K
open Go.ChangeShapes Go.WideShapes Go.ChangeAt Go.RowKit
set_option linter.unusedVariables false
set_option linter.unusedSimpArgs false
end Go.Proofs.YtodiklpfdfjikaaDoor.K
