/- stream: 'and not' in walks. -/
import Derived.Test.YtcccomafnmdlfaaDoorStr4m
namespace Go.Proofs.YtcccomafnmdlfaaDoor.K
open Go.ChangeShapes Go.WideShapes Go.ChangeAt Go.RowKit
set_option linter.unusedVariables false
set_option linter.unusedSimpArgs false
theorem y_andNot {P : Program} {T : List (Nat × Value)} {n : Nat} {a : Act} {w : World} {k : IntKind} {p q r : Int} {d : Option Tmp} {x y : Operand} {t t2 tt : TypeId} {pos : String} {af : Array Edge} {gd : Option (Nat × Bool)} (h : Has n T a) (hx : evT T x = some (.int k p)) (hy : evT T y = some (.int k q)) (hr : bits .andNot k p q = r) : Yl P a w ⟨d, .binOp .andNot t x y t2, tt, pos, af, gd⟩ (.int k r) := by
 subst hr
 show (execOp _ _).run P w = _; simp only [execOp, eqGuard, binOp, Op.intBits, h.ev hx, h.ev hy, bits]; simp
theorem retCTT {P : Program} {n : Nat} {T : List (Nat × Value)} {a : Act} {w w0 : World} {X : Cx} {M : Mm} (ha : Has n T a) (m : MemOk X w0 M w) {fn : Func} {t s r : Tmp} {ty : TypeId} {td : TypeDesc} {i g : Nat} {e : TypeId} {cs : List Value} {u v : Value} {R : Ending → World → Prop} (hr : fn.results = #[.cell t ty, .tmp s, .tmp r]) (hv : lk T t = some (.pointer (some ⟨g, 0, none⟩))) (hu2 : lk T s = some u) (hu3 : lk T r = some v) (hm : lk M i = some (.box g e cs)) (hu : P.underlying ty = some td) (hd : td.isRow = true) (hs : (P.info? ty).map (·.size) = some cs.length) (h : R (.returned (.tuple #[.agg cs.toArray, u, v])) w) : bodyPost P fn R .ret a w :=
 ⟨ha.d, _, by
   have h1 := ha.h t _ hv
   have h2 := ha.h s _ hu2
   have h3 := ha.h r _ hu3
   rw [Array.getD_eq_getD_getElem?] at h1 h2 h3
   simp [results, hr, h1, h2, h3, asAddr, run_loadBox m hm hu hd hs], h⟩
end Go.Proofs.YtcccomafnmdlfaaDoor.K
