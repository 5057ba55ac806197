/- raft: reply. -/
import Derived.Test.YtndnnlbdnjndiaaGreatRaf3
namespace Go.Proofs.YtndnnlbdnjndiaaGreat.K
open Go.ChangeShapes Go.WideShapes Go.ChangeAt Go.RowKit
set_option linter.unusedVariables false
set_option linter.unusedSimpArgs false

theorem Rd.nil4 (S : Nat → Prop) (w : World) : Rd S w (.slice none 0 0) (.l 4 (([] : List En).map entD)) := .l0 none 0 4
def replyR (x : RV) (kd : Int) (ok : Bool) (ix : Int) : RM := ⟨kd, 0, 0, 0, x.te, ix, 0, 0, ok, [], 0, 0, [], [], [], 0, 0, 0, 0⟩
set_option maxRecDepth 100000
set_option maxHeartbeats 4000000
end Go.Proofs.YtndnnlbdnjndiaaGreat.K
