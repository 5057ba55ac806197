/- stream: append onto bytes of a constant. -/
import Derived.Test.YtogjhjiapinmcaaDoorWalV0
import Derived.ArgAppend
namespace Go.Proofs.YtogjhjiapinmcaaDoor.K
open Go.ChangeShapes Go.WideShapes Go.ChangeAt Go.RowKit
set_option linter.unusedVariables false
set_option linter.unusedSimpArgs false

theorem rsum_x {w0 : World} {v : Value} {bs : List Int} (hv : IsNums .u8 w0 v bs) (hb : BytesL bs) (hl : bs.length ≤ 1000000) :
   Calls Tryd.prog 55 #[v] w0 fun e w' => e = .returned (.int .u32 (sumC [bs])) ∧ Below w0.heap.size w0 w' := by
 refine (sum_ref v bs w0 hv (bytesLB hb) hl).mono fun e w' h => ?_
 obtain ⟨rfl, rfl⟩ := h
 exact ⟨rfl, Below.refl _ _⟩
end Go.Proofs.YtogjhjiapinmcaaDoor.K
