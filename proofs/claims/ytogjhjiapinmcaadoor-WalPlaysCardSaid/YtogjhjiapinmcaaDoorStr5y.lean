/- stream: 'and not' in walks. -/
import Derived.Test.YtogjhjiapinmcaaDoorStr4m
namespace Go.Proofs.YtogjhjiapinmcaaDoor.K
open Go.ChangeShapes Go.WideShapes Go.ChangeAt Go.RowKit
set_option linter.unusedVariables false
set_option linter.unusedSimpArgs false

theorem y_andNot {P : Program} {T : List (Nat × Value)} {n : Nat} {a : Act} {w : World} {k : IntKind} {p q r : Int} {d : Option Tmp} {x y : Operand} {t t2 tt : TypeId} {pos : String} {af : Array Edge} {gd : Option (Nat × Bool)} (h : Has n T a) (hx : evT T x = some (.int k p)) (hy : evT T y = some (.int k q)) (hr : bits .andNot k p q = r) : Yl P a w ⟨d, .binOp .andNot t x y t2, tt, pos, af, gd⟩ (.int k r) := by
 subst hr
 show (execOp _ _).run P w = _; simp only [execOp, eqGuard, binOp, Op.intBits, h.ev hx, h.ev hy, bits]; simp
end Go.Proofs.YtogjhjiapinmcaaDoor.K
