/- Function values: method values are made and called, held against nil. For any program. -/
import Derived.Test.YtndnnlbdnjndiaaGreatRafY
namespace Go.Proofs.YtndnnlbdnjndiaaGreat.K
open Go.ChangeShapes Go.WideShapes Go.ChangeAt Go.RowKit
set_option linter.unusedVariables false
set_option linter.unusedSimpArgs false
section
variable {P : Program} {n : Nat} {T : List (Nat × Value)} {a : Act} {w : World} {d : Option Tmp} {tt : TypeId} {pos : String} {af : Array Edge} {gd : Option (Nat × Bool)}
theorem y_makeFuncB (h : Has n T a) {f : FuncId} {firsts caps : Array Operand} {us vs : List Value} (hf : evA T firsts.toList = some us) (hargs : evA T caps.toList = some vs) : Yl P a w ⟨d, .makeFunc (.func f) firsts caps, tt, pos, af, gd⟩ (.func (.func f) us.toArray vs.toArray) := by
 have hv : caps.map a.eval = vs.toArray := by
   apply Array.ext'; rw [Array.toList_map, h.evA hargs]
 have hu : firsts.map a.eval = us.toArray := by
   apply Array.ext'; rw [Array.toList_map, h.evA hf]
 show (execOp _ _).run P w = _
 simp [execOp, Instr.makeFunc, hv, hu]
theorem run_eqF {t : TypeId} {ps rs : Array TypeId} {v : Bool} (hu : P.underlying t = some (.func ps rs v)) (f : Fn) (x y : Array Value) (w : World) : (Op.equal t (.func f x y) .nilFunc).run P w = .ok false w := by
 show (Op.equalIn (9999 + 1) t (.func f x y) .nilFunc).run P w = _
 generalize 9999 = m
 simp [Op.equalIn, run_underlying hu]
theorem y_neqF (h : Has n T a) {x y : Operand} {t t2 : TypeId} {ps rs : Array TypeId} {v : Bool} {f : Fn} {us vs : Array Value} (hx : evT T x = some (.func f us vs)) (hy : evT T y = some .nilFunc) (hu : P.underlying t = some (.func ps rs v)) : Yl P a w ⟨d, .binOp .neq t x y t2, tt, pos, af, gd⟩ (.bool true) := by
 show (execOp _ _).run P w = _
 simp [execOp, eqGuard, binOp, h.ev hx, h.ev hy, run_eqF hu]
theorem y_fieldS (h : Has n T a) {t : TypeId} {x : Operand} {i : Nat} {cs : Array Value} {fs : Array Field} {f : Field} {td : TypeDesc} {s : Nat} {c2 : List Value} (hx : evT T x = some (.agg cs)) (hu : P.underlying t = some (.struct fs)) (hf : fs[i]? = some f) (hd : P.underlying f.type = some td) (hr : td.isRow = true) (hs : (P.info? f.type).map (·.size) = some s) (hv : (cs.toList.drop f.offset).take s = c2) : Yl P a w ⟨d, .field t x i, tt, pos, af, gd⟩ (.agg c2.toArray) := by
 show (execOp _ _).run P w = _
 have e : cs.extract f.offset (f.offset + s) = c2.toArray := by
   apply Array.ext'
   rw [← hv]; simp
 cases hq : P.info? f.type with
 | none => simp [hq] at hs
 | some j =>
   have hj : j.size = s := by simpa [hq] using hs
   simp [execOp, h.ev hx, Instr.field, run_underlying hu, hf, asAgg, part, run_isAgg hd, hr, sizeOf, typeInfo, hq, hj, e]
end
section
variable {P : Program} {n : Nat} {T : List (Nat × Value)} {a : Act} {w : World} {Q : Exit → Act → World → Prop} {K : Act → World → Prop} {tt : TypeId} {pos : String} {af : Array Edge} {gd : Option (Nat × Bool)}
theorem e_callG (ha : Has n T a) {d : Tmp} {f : FuncId} {x : Operand} {args : Array Operand} {ats : Array TypeId} {fn : Func} {us vs cs : List Value} (hxf : evT T x = some (.func (.func f) us.toArray cs.toArray)) (hf : P.funcs[f]? = some fn) (hn : (fn.name == "runtime.NumGoroutine") = false) (hb : fn.body.isNone = false) (hargs : evA T args.toList = some vs) (ht : Nat.blt d n = true) {R : Ending → World → Prop} (hc : Calls P f (us ++ vs ++ cs).toArray w R) (h : ∀ e w', R e w' → ∃ v, e = .returned v ∧ ∀ a', Has n ((d, v) :: T) a' → K a' w') : Oper.wp P ⟨some d, .call { callee := .value x, args := args, argTypes := ats }, tt, pos, af, gd⟩ a w K Q := by
 have hv : args.map a.eval = vs.toArray := by
   apply Array.ext'; rw [Array.toList_map, ha.evA hargs]
 have hr : (execOp a.eval ⟨some d, .call { callee := .value x, args := args, argTypes := ats }, tt, pos, af, gd⟩).run P w = .ok (.enter f (us ++ vs ++ cs).toArray) w := by
   have hn' : ¬ fn.name = "runtime.NumGoroutine" := by simpa using hn
   have hb' : ¬ fn.body = none := by cases h9 : fn.body with | none => rw [h9] at hb; cases hb | some c => simp
   simp [execOp, resolve, ha.ev hxf, Deferred.ofValue, invoke, callFunc, hf, hn', hb', hv]
 show Oper.upon P _ a K Q _
 rw [hr]
 show Calls P f (us ++ vs ++ cs).toArray w _
 refine hc.mono (fun e w' hR => ?_)
 obtain ⟨v, rfl, hh⟩ := h e w' hR
 exact hh _ (ha.put ht v)
end
end Go.Proofs.YtndnnlbdnjndiaaGreat.K
