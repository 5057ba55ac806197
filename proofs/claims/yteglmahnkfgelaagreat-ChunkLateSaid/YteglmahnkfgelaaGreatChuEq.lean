/- chunk: shapes compared. -/
import Derived.Test.YteglmahnkfgelaaGreatChu3y
import Derived.Laws.StructEq
import Derived.ChangeKeysEq
namespace Go.Proofs.YteglmahnkfgelaaGreat.K
open Go.ChangeShapes Go.WideShapes Go.ChangeAt Go.RowKit
set_option linter.unusedVariables false
set_option linter.unusedSimpArgs false
theorem eqF_int {P : Program} (w : World) (d : Nat) (xs ys : Array Value) (f : Field) (fs : List Field) (hn : (f.name == "_") = false) {t o : Nat} {k k' : IntKind} (ht : f.type = t) (ho : f.offset = o) (hp : P.plainKey t = true) (hu : P.underlying t = some (.int k')) {x y : Int} (hx : xs[o]? = some (.int k x)) (hy : ys[o]? = some (.int k y)) :
   (Op.eqFields (d + 1) xs ys (f :: fs)).run P w = if x == y then (Op.eqFields (d + 1) xs ys fs).run P w else .ok false w := by
 have hne : f.name ≠ "_" := by simpa using hn
 subst ht; subst ho
 rw [Op.eqFields, if_pos hne]
 simp only [Sem.run_bind, run_part_plain w hp hx, run_part_plain w hp hy, Result.andThen_ok, run_equalIn_int w d _ k k' x y hu]
 cases x == y <;> simp
theorem head_fields : ((Tryz.prog.fieldsOf 88).toList.map fun f => (f.name == "_", f.type, f.offset)) = [(false, 3, 0), (false, 3, 1), (false, 3, 2), (false, 3, 3)] := by kernel_rfl
theorem eq_head (w : World) (a1 a2 a3 a4 b1 b2 b3 b4 : Int) : (binOp .eql 88 (.agg #[.int .i64 a1, .int .i64 a2, .int .i64 a3, .int .i64 a4]) (.agg #[.int .i64 b1, .int .i64 b2, .int .i64 b3, .int .i64 b4])).run Tryz.prog w = .ok (.bool (a1 == b1 && (a2 == b2 && (a3 == b3 && a4 == b4)))) w := by
 rw [run_eql_struct, run_equalIn_agg w 9999 88 _ _ (by kernel_rfl) (by kernel_rfl)]
 have hf := head_fields
 generalize (Tryz.prog.fieldsOf 88).toList = L at hf
 have hL : L.length = 4 := by have := congrArg List.length hf; simpa using this
 match L, hL, hf with
 | [f1, f2, f3, f4], _, hf =>
   simp only [List.map_cons, List.map_nil, List.cons.injEq, Prod.mk.injEq, and_true] at hf
   obtain ⟨⟨n1, t1, o1⟩, ⟨n2, t2, o2⟩, ⟨n3, t3, o3⟩, ⟨n4, t4, o4⟩⟩ := hf
   rw [eqF_int w 9998 _ _ f1 _ n1 t1 o1 (by kernel_rfl) (k' := .i64) (by kernel_rfl) rfl rfl, eqF_int w 9998 _ _ f2 _ n2 t2 o2 (by kernel_rfl) (k' := .i64) (by kernel_rfl) rfl rfl, eqF_int w 9998 _ _ f3 _ n3 t3 o3 (by kernel_rfl) (k' := .i64) (by kernel_rfl) rfl rfl, eqF_int w 9998 _ _ f4 _ n4 t4 o4 (by kernel_rfl) (k' := .i64) (by kernel_rfl) rfl rfl]
   cases a1 == b1 <;> cases a2 == b2 <;> cases a3 == b3 <;> cases a4 == b4 <;> simp [Op.eqFields]
theorem y_eqlH {T : List (Nat × Value)} {n : Nat} {a : Act} {w : World} {d : Option Tmp} {x y : Operand} {t2 tt : TypeId} {pos : String} {af : Array Edge} {gd : Option (Nat × Bool)} (h : Has n T a) {a1 a2 a3 a4 b1 b2 b3 b4 : Int} (hx : evT T x = some (.agg #[.int .i64 a1, .int .i64 a2, .int .i64 a3, .int .i64 a4])) (hy : evT T y = some (.agg #[.int .i64 b1, .int .i64 b2, .int .i64 b3, .int .i64 b4])) : Yl Tryz.prog a w ⟨d, .binOp .eql 88 x y t2, tt, pos, af, gd⟩ (.bool (a1 == b1 && (a2 == b2 && (a3 == b3 && a4 == b4)))) := by
 show (execOp _ _).run _ w = _
 have hg := run_eqGuard_agg (P := Tryz.prog) w .eql 88 x y #[.int .i64 a1, .int .i64 a2, .int .i64 a3, .int .i64 a4] #[.int .i64 b1, .int .i64 b2, .int .i64 b3, .int .i64 b4] (by kernel_rfl)
 simp only [execOp, h.ev hx, h.ev hy, Sem.run_bind, hg, Result.andThen_ok, eq_head, Sem.run_pure]
theorem neq_head (w : World) (a1 a2 a3 a4 b1 b2 b3 b4 : Int) : (binOp .neq 88 (.agg #[.int .i64 a1, .int .i64 a2, .int .i64 a3, .int .i64 a4]) (.agg #[.int .i64 b1, .int .i64 b2, .int .i64 b3, .int .i64 b4])).run Tryz.prog w = .ok (.bool (!(a1 == b1 && (a2 == b2 && (a3 == b3 && a4 == b4))))) w := by
 rw [run_neq_struct, run_equalIn_agg w 9999 88 _ _ (by kernel_rfl) (by kernel_rfl)]
 have hf := head_fields
 generalize (Tryz.prog.fieldsOf 88).toList = L at hf
 have hL : L.length = 4 := by have := congrArg List.length hf; simpa using this
 match L, hL, hf with
 | [f1, f2, f3, f4], _, hf =>
   simp only [List.map_cons, List.map_nil, List.cons.injEq, Prod.mk.injEq, and_true] at hf
   obtain ⟨⟨n1, t1, o1⟩, ⟨n2, t2, o2⟩, ⟨n3, t3, o3⟩, ⟨n4, t4, o4⟩⟩ := hf
   rw [eqF_int w 9998 _ _ f1 _ n1 t1 o1 (by kernel_rfl) (k' := .i64) (by kernel_rfl) rfl rfl, eqF_int w 9998 _ _ f2 _ n2 t2 o2 (by kernel_rfl) (k' := .i64) (by kernel_rfl) rfl rfl, eqF_int w 9998 _ _ f3 _ n3 t3 o3 (by kernel_rfl) (k' := .i64) (by kernel_rfl) rfl rfl, eqF_int w 9998 _ _ f4 _ n4 t4 o4 (by kernel_rfl) (k' := .i64) (by kernel_rfl) rfl rfl]
   cases a1 == b1 <;> cases a2 == b2 <;> cases a3 == b3 <;> cases a4 == b4 <;> simp [Op.eqFields]
theorem y_neqH {T : List (Nat × Value)} {n : Nat} {a : Act} {w : World} {d : Option Tmp} {x y : Operand} {t2 tt : TypeId} {pos : String} {af : Array Edge} {gd : Option (Nat × Bool)} (h : Has n T a) {a1 a2 a3 a4 b1 b2 b3 b4 : Int} (hx : evT T x = some (.agg #[.int .i64 a1, .int .i64 a2, .int .i64 a3, .int .i64 a4])) (hy : evT T y = some (.agg #[.int .i64 b1, .int .i64 b2, .int .i64 b3, .int .i64 b4])) : Yl Tryz.prog a w ⟨d, .binOp .neq 88 x y t2, tt, pos, af, gd⟩ (.bool (!(a1 == b1 && (a2 == b2 && (a3 == b3 && a4 == b4))))) := by
 show (execOp _ _).run _ w = _
 have hg := run_eqGuard_agg (P := Tryz.prog) w .neq 88 x y #[.int .i64 a1, .int .i64 a2, .int .i64 a3, .int .i64 a4] #[.int .i64 b1, .int .i64 b2, .int .i64 b3, .int .i64 b4] (by kernel_rfl)
 simp only [execOp, h.ev hx, h.ev hy, Sem.run_bind, hg, Result.andThen_ok, neq_head, Sem.run_pure]
end Go.Proofs.YteglmahnkfgelaaGreat.K
