/- stream: heads of streams compared. -/
import Derived.Test.YtcccomafnmdlfaaDoorStr12
import Derived.Laws.StructEq
import Derived.ChangeKeysEq
namespace Go.Proofs.YtcccomafnmdlfaaDoor.K
open Go.ChangeShapes Go.WideShapes Go.ChangeAt Go.RowKit
set_option linter.unusedVariables false
set_option linter.unusedSimpArgs false
end Go.Proofs.YtcccomafnmdlfaaDoor.K
