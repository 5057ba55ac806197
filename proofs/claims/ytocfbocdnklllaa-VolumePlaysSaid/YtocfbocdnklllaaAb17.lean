/- Functions with captured variables: made, called. For any program. -/
import Derived.Test.YtocfbocdnklllaaAb16
namespace Go.Proofs.Ytocfbocdnklllaa.K
open Go.ChangeShapes Go.WideShapes Go.ChangeAt Go.RowKit
set_option linter.unusedVariables false
set_option linter.unusedSimpArgs false

section
variable {P : Program} {n : Nat} {T : List (Nat × Value)} {a : Act} {w : World} {d : Option Tmp} {tt : TypeId} {pos : String} {af : Array Edge} {gd : Option (Nat × Bool)}
theorem y_makeFunc (h : Has n T a) {f : FuncId} {caps : Array Operand} {vs : List Value} (hargs : evA T caps.toList = some vs) : Yl P a w ⟨d, .makeFunc (.func f) #[] caps, tt, pos, af, gd⟩ (.func (.func f) #[] vs.toArray) := by
 have hv : caps.map a.eval = vs.toArray := by
   apply Array.ext'; rw [Array.toList_map, h.evA hargs]
 show (execOp _ _).run P w = _
 simp [execOp, Instr.makeFunc, hv]
end
section
variable {P : Program} {n : Nat} {T : List (Nat × Value)} {a : Act} {w : World} {Q : Exit → Act → World → Prop} {K : Act → World → Prop} {tt : TypeId} {pos : String} {af : Array Edge} {gd : Option (Nat × Bool)}
theorem e_callC (ha : Has n T a) {d : Tmp} {f : FuncId} {x : Operand} {args : Array Operand} {ats : Array TypeId} {fn : Func} {vs cs : List Value} (hxf : evT T x = some (.func (.func f) #[] cs.toArray)) (hf : P.funcs[f]? = some fn) (hn : (fn.name == "runtime.NumGoroutine") = false) (hb : fn.body.isNone = false) (hargs : evA T args.toList = some vs) (ht : Nat.blt d n = true) {R : Ending → World → Prop} (hc : Calls P f (vs ++ cs).toArray w R) (h : ∀ e w', R e w' → ∃ v, e = .returned v ∧ ∀ a', Has n ((d, v) :: T) a' → K a' w') : Oper.wp P ⟨some d, .call { callee := .value x, args := args, argTypes := ats }, tt, pos, af, gd⟩ a w K Q := by
 have hv : args.map a.eval = vs.toArray := by
   apply Array.ext'; rw [Array.toList_map, ha.evA hargs]
 have hr : (execOp a.eval ⟨some d, .call { callee := .value x, args := args, argTypes := ats }, tt, pos, af, gd⟩).run P w = .ok (.enter f (vs ++ cs).toArray) w := by
   have hn' : ¬ fn.name = "runtime.NumGoroutine" := by simpa using hn
   have hb' : ¬ fn.body = none := by cases h9 : fn.body with | none => rw [h9] at hb; cases hb | some c => simp
   simp [execOp, resolve, ha.ev hxf, Deferred.ofValue, invoke, callFunc, hf, hn', hb', hv]
 show Oper.upon P _ a K Q _
 rw [hr]
 show Calls P f (vs ++ cs).toArray w _
 refine hc.mono (fun e w' hR => ?_)
 obtain ⟨v, rfl, hh⟩ := h e w' hR
 exact hh _ (ha.put ht v)
end
section
variable {P : Program} {n : Nat} {T : List (Nat × Value)} {a : Act} {w w0 : World} {X : Cx} {M : Mm}
theorem retCC (ha : Has n T a) (m : MemOk X w0 M w) {fn : Func} {t s : Tmp} {ty ty2 : TypeId} {td td2 : TypeDesc} {i g i2 g2 : Nat} {e e2 : TypeId} {cs cs2 : List Value} {R : Ending → World → Prop} (hr : fn.results = #[.cell t ty, .cell s ty2]) (hv : lk T t = some (.pointer (some ⟨g, 0, none⟩))) (hv2 : lk T s = some (.pointer (some ⟨g2, 0, none⟩))) (hm : lk M i = some (.box g e cs)) (hm2 : lk M i2 = some (.box g2 e2 cs2)) (hu : P.underlying ty = some td) (hd : td.isRow = true) (hs : (P.info? ty).map (·.size) = some cs.length) (hu2 : P.underlying ty2 = some td2) (hd2 : td2.isRow = true) (hs2 : (P.info? ty2).map (·.size) = some cs2.length) (h : R (.returned (.tuple #[.agg cs.toArray, .agg cs2.toArray])) w) : bodyPost P fn R .ret a w :=
 ⟨ha.d, _, by
   have h1 := ha.h t _ hv
   have h2 := ha.h s _ hv2
   rw [Array.getD_eq_getD_getElem?] at h1 h2
   simp [results, hr, h1, h2, asAddr, run_loadBox m hm hu hd hs, run_loadBox m hm2 hu2 hd2 hs2], h⟩
end
end Go.Proofs.Ytocfbocdnklllaa.K
