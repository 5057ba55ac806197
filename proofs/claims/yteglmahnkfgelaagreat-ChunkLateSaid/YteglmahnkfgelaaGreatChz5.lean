/- ChunkChanges' walk. -/
import Derived.Test.YteglmahnkfgelaaGreatChz4
import Derived.Test.YteglmahnkfgelaaGreatChuR
namespace Go.Proofs.YteglmahnkfgelaaGreat.K
open Go.ChangeShapes Go.WideShapes Go.ChangeAt Go.RowKit
set_option linter.unusedVariables false
set_option linter.unusedSimpArgs false
def rdF (y : VolV) (fn cnt m i : Nat) (t : Int) : List Int := (atF ((chN y fn cnt m).getD i []) t).getD (List.replicate y.sz.toNat 0)
set_option maxRecDepth 100000
set_option maxHeartbeats 4000000
end Go.Proofs.YteglmahnkfgelaaGreat.K
