/- msg: structs of numbers held against each other. -/
import Derived.Test.YtmoghepeggohhaaDoorMsg1
import Derived.Laws.StructEq
import Derived.ChangeKeysEq
namespace Go.Proofs.YtmoghepeggohhaaDoor.K
open Go.ChangeShapes Go.WideShapes Go.ChangeAt Go.RowKit
set_option linter.unusedVariables false
set_option linter.unusedSimpArgs false

theorem eqF_int {P : Program} (w : World) (d : Nat) (xs ys : Array Value) (f : Field) (fs : List Field) (hn : (f.name == "_") = false) {t o : Nat} {k k' : IntKind} (ht : f.type = t) (ho : f.offset = o) (hp : P.plainKey t = true) (hu : P.underlying t = some (.int k')) {x y : Int} (hx : xs[o]? = some (.int k x)) (hy : ys[o]? = some (.int k y)) :
   (Op.eqFields (d + 1) xs ys (f :: fs)).run P w = if x = y then (Op.eqFields (d + 1) xs ys fs).run P w else .ok false w := by
 have hne : f.name ≠ "_" := by simpa using hn
 subst ht; subst ho
 rw [Op.eqFields, if_pos hne]
 simp only [Sem.run_bind, run_part_plain w hp hx, run_part_plain w hp hy, Result.andThen_ok, run_equalIn_int w d _ k k' x y hu]
 by_cases h : x = y
 · subst h; simp
 · have : (x == y) = false := by simpa using h
   simp [h, this]
theorem eqF_bool {P : Program} (w : World) (d : Nat) (xs ys : Array Value) (f : Field) (fs : List Field) (hn : (f.name == "_") = false) {t o : Nat} (ht : f.type = t) (ho : f.offset = o) (hp : P.plainKey t = true) (hu : P.underlying t = some .bool) {x y : Bool} (hx : xs[o]? = some (.bool x)) (hy : ys[o]? = some (.bool y)) :
   (Op.eqFields (d + 1) xs ys (f :: fs)).run P w = if x = y then (Op.eqFields (d + 1) xs ys fs).run P w else .ok false w := by
 have hne : f.name ≠ "_" := by simpa using hn
 subst ht; subst ho
 rw [Op.eqFields, if_pos hne]
 simp only [Sem.run_bind, run_part_plain w hp hx, run_part_plain w hp hy, Result.andThen_ok, run_equalIn_bool' w d _ x y hu]
 cases x <;> cases y <;> simp
theorem eqF_agg {P : Program} (w : World) (d : Nat) (xs ys : Array Value) (f : Field) (fs : List Field) (hn : (f.name == "_") = false) {t o : Nat} (ht : f.type = t) (ho : f.offset = o) (hu : P.underlying t = some (.struct (P.fieldsOf t))) {i : TypeInfo} (hi : P.info? t = some i) {b : Bool} (hr : (Op.equalIn (d + 1) t (.agg (xs.extract o (o + P.cellsOf t))) (.agg (ys.extract o (o + P.cellsOf t)))).run P w = .ok b w) :
   (Op.eqFields (d + 1) xs ys (f :: fs)).run P w = if b = true then (Op.eqFields (d + 1) xs ys fs).run P w else .ok false w := by
 have hne : f.name ≠ "_" := by simpa using hn
 subst ht; subst ho
 have hp : ∀ zs : Array Value, (Go.part f.type zs f.offset).run P w = .ok (.agg (zs.extract f.offset (f.offset + P.cellsOf f.type))) w := fun zs => by
   simp [Go.part, isAgg, run_underlying hu, run_sizeOf w hi]
 rw [Op.eqFields, if_pos hne]
 simp only [Sem.run_bind, hp, Result.andThen_ok, hr]
 cases b <;> simp
theorem nums_fields : ((Tryd.prog.fieldsOf 55).toList.map fun f => (f.name == "_", f.type, f.offset)) = [(false, 3, 0), (false, 3, 1), (false, 3, 2), (false, 3, 3), (false, 4, 4), (false, 3, 5), (false, 3, 6), (false, 2, 7), (false, 2, 8)] := by kernel_rfl
theorem nums_eqIn (w : World) (d : Nat) (A B : NV) : (Op.equalIn (d + 2) 55 (.agg #[.int .i64 A.te, .int .i64 A.ix, .int .i64 A.lt, .int .i64 A.co, .bool A.ok, .int .i64 A.vo, .int .i64 A.ch, .int .i64 A.ma, .int .i64 A.fl]) (.agg #[.int .i64 B.te, .int .i64 B.ix, .int .i64 B.lt, .int .i64 B.co, .bool B.ok, .int .i64 B.vo, .int .i64 B.ch, .int .i64 B.ma, .int .i64 B.fl])).run Tryd.prog w = .ok (decide (A = B)) w := by
 rw [run_equalIn_agg w (d + 1) 55 _ _ (by kernel_rfl) (by kernel_rfl)]
 obtain ⟨a0, a1, a2, a3, a4, a5, a6, a7, a8⟩ := A
 obtain ⟨b0, b1, b2, b3, b4, b5, b6, b7, b8⟩ := B
 have hf := nums_fields
 generalize (Tryd.prog.fieldsOf 55).toList = L at hf
 have hL : L.length = 9 := by have := congrArg List.length hf; simpa using this
 match L, hL, hf with
 | [f0, f1, f2, f3, f4, f5, f6, f7, f8], _, hf =>
   simp only [List.map_cons, List.map_nil, List.cons.injEq, Prod.mk.injEq, and_true] at hf
   obtain ⟨⟨n0, t0, o0⟩, ⟨n1, t1, o1⟩, ⟨n2, t2, o2⟩, ⟨n3, t3, o3⟩, ⟨n4, t4, o4⟩, ⟨n5, t5, o5⟩, ⟨n6, t6, o6⟩, ⟨n7, t7, o7⟩, ⟨n8, t8, o8⟩⟩ := hf
   rw [eqF_int w d _ _ f0 _ n0 t0 o0 (by kernel_rfl) (k' := .i64) (by kernel_rfl) rfl rfl, eqF_int w d _ _ f1 _ n1 t1 o1 (by kernel_rfl) (k' := .i64) (by kernel_rfl) rfl rfl, eqF_int w d _ _ f2 _ n2 t2 o2 (by kernel_rfl) (k' := .i64) (by kernel_rfl) rfl rfl, eqF_int w d _ _ f3 _ n3 t3 o3 (by kernel_rfl) (k' := .i64) (by kernel_rfl) rfl rfl, eqF_bool w d _ _ f4 _ n4 t4 o4 (by kernel_rfl) (by kernel_rfl) rfl rfl, eqF_int w d _ _ f5 _ n5 t5 o5 (by kernel_rfl) (k' := .i64) (by kernel_rfl) rfl rfl, eqF_int w d _ _ f6 _ n6 t6 o6 (by kernel_rfl) (k' := .i64) (by kernel_rfl) rfl rfl, eqF_int w d _ _ f7 _ n7 t7 o7 (by kernel_rfl) (k' := .i64) (by kernel_rfl) rfl rfl, eqF_int w d _ _ f8 _ n8 t8 o8 (by kernel_rfl) (k' := .i64) (by kernel_rfl) rfl rfl]
   by_cases h0 : a0 = b0
   case neg => rw [if_neg h0, decide_eq_false (fun h => h0 (by injection h))]
   rw [if_pos h0]; subst h0
   by_cases h1 : a1 = b1
   case neg => rw [if_neg h1, decide_eq_false (fun h => h1 (by injection h))]
   rw [if_pos h1]; subst h1
   by_cases h2 : a2 = b2
   case neg => rw [if_neg h2, decide_eq_false (fun h => h2 (by injection h))]
   rw [if_pos h2]; subst h2
   by_cases h3 : a3 = b3
   case neg => rw [if_neg h3, decide_eq_false (fun h => h3 (by injection h))]
   rw [if_pos h3]; subst h3
   by_cases h4 : a4 = b4
   case neg => rw [if_neg h4, decide_eq_false (fun h => h4 (by injection h))]
   rw [if_pos h4]; subst h4
   by_cases h5 : a5 = b5
   case neg => rw [if_neg h5, decide_eq_false (fun h => h5 (by injection h))]
   rw [if_pos h5]; subst h5
   by_cases h6 : a6 = b6
   case neg => rw [if_neg h6, decide_eq_false (fun h => h6 (by injection h))]
   rw [if_pos h6]; subst h6
   by_cases h7 : a7 = b7
   case neg => rw [if_neg h7, decide_eq_false (fun h => h7 (by injection h))]
   rw [if_pos h7]; subst h7
   by_cases h8 : a8 = b8
   case neg => rw [if_neg h8, decide_eq_false (fun h => h8 (by injection h))]
   rw [if_pos h8]; subst h8
   simp [Op.eqFields]
theorem head_fields : ((Tryd.prog.fieldsOf 57).toList.map fun f => (f.name == "_", f.type, f.offset)) = [(false, 3, 0), (false, 3, 1), (false, 3, 2), (false, 3, 3), (false, 55, 4)] := by kernel_rfl
theorem nums_cells : Tryd.prog.cellsOf 55 = 9 := by kernel_rfl
theorem nums_inf : ∃ i, Tryd.prog.info? 55 = some i := info_of_underlying (d := .struct (Tryd.prog.fieldsOf 55)) (by kernel_rfl)
theorem head_eqIn (w : World) (d : Nat) (k g f t k' g' f' t' : Int) (A B : NV) : (Op.equalIn (d + 3) 57 (.agg #[.int .i64 k, .int .i64 g, .int .i64 f, .int .i64 t, .int .i64 A.te, .int .i64 A.ix, .int .i64 A.lt, .int .i64 A.co, .bool A.ok, .int .i64 A.vo, .int .i64 A.ch, .int .i64 A.ma, .int .i64 A.fl]) (.agg #[.int .i64 k', .int .i64 g', .int .i64 f', .int .i64 t', .int .i64 B.te, .int .i64 B.ix, .int .i64 B.lt, .int .i64 B.co, .bool B.ok, .int .i64 B.vo, .int .i64 B.ch, .int .i64 B.ma, .int .i64 B.fl])).run Tryd.prog w = .ok (decide ((k, g, f, t, A) = (k', g', f', t', B))) w := by
 rw [run_equalIn_agg w (d + 2) 57 _ _ (by kernel_rfl) (by kernel_rfl)]
 obtain ⟨i, hi⟩ := nums_inf
 have hf := head_fields
 generalize (Tryd.prog.fieldsOf 57).toList = L at hf
 have hL : L.length = 5 := by have := congrArg List.length hf; simpa using this
 match L, hL, hf with
 | [f0, f1, f2, f3, f4], _, hf =>
   simp only [List.map_cons, List.map_nil, List.cons.injEq, Prod.mk.injEq, and_true] at hf
   obtain ⟨⟨n0, t0, o0⟩, ⟨n1, t1, o1⟩, ⟨n2, t2, o2⟩, ⟨n3, t3, o3⟩, ⟨n4, t4, o4⟩⟩ := hf
   rw [eqF_int w (d + 1) _ _ f0 _ n0 t0 o0 (by kernel_rfl) (k' := .i64) (by kernel_rfl) rfl rfl, eqF_int w (d + 1) _ _ f1 _ n1 t1 o1 (by kernel_rfl) (k' := .i64) (by kernel_rfl) rfl rfl, eqF_int w (d + 1) _ _ f2 _ n2 t2 o2 (by kernel_rfl) (k' := .i64) (by kernel_rfl) rfl rfl, eqF_int w (d + 1) _ _ f3 _ n3 t3 o3 (by kernel_rfl) (k' := .i64) (by kernel_rfl) rfl rfl, eqF_agg w (d + 1) _ _ f4 _ n4 t4 o4 (by kernel_rfl) hi (b := decide (A = B)) (by rw [nums_cells]; exact nums_eqIn w d A B)]
   by_cases h0 : k = k'
   case neg => rw [if_neg h0, decide_eq_false (fun h => h0 (by injection h))]
   by_cases h1 : g = g'
   case neg => rw [if_pos h0, if_neg h1, decide_eq_false (fun h => h1 (by simp only [Prod.mk.injEq] at h; exact h.2.1))]
   by_cases h2 : f = f'
   case neg => rw [if_pos h0, if_pos h1, if_neg h2, decide_eq_false (fun h => h2 (by simp only [Prod.mk.injEq] at h; exact h.2.2.1))]
   by_cases h3 : t = t'
   case neg => rw [if_pos h0, if_pos h1, if_pos h2, if_neg h3, decide_eq_false (fun h => h3 (by simp only [Prod.mk.injEq] at h; exact h.2.2.2.1))]
   by_cases h4 : A = B
   case neg => rw [if_pos h0, if_pos h1, if_pos h2, if_pos h3, if_neg (by simpa using h4), decide_eq_false (fun h => h4 (by simp only [Prod.mk.injEq] at h; exact h.2.2.2.2))]
   rw [if_pos h0, if_pos h1, if_pos h2, if_pos h3, if_pos (by simpa using h4)]
   subst h0; subst h1; subst h2; subst h3; subst h4
   simp [Op.eqFields]
theorem y_eqlH {T : List (Nat × Value)} {n : Nat} {a : Act} {w : World} {d : Option Tmp} {x y : Operand} {t2 tt : TypeId} {pos : String} {af : Array Edge} {gd : Option (Nat × Bool)} (h : Has n T a) {A B : NV} (hx : evT T x = some (.agg #[.int .i64 A.te, .int .i64 A.ix, .int .i64 A.lt, .int .i64 A.co, .bool A.ok, .int .i64 A.vo, .int .i64 A.ch, .int .i64 A.ma, .int .i64 A.fl])) (hy : evT T y = some (.agg #[.int .i64 B.te, .int .i64 B.ix, .int .i64 B.lt, .int .i64 B.co, .bool B.ok, .int .i64 B.vo, .int .i64 B.ch, .int .i64 B.ma, .int .i64 B.fl])) : Yl Tryd.prog a w ⟨d, .binOp .eql 55 x y t2, tt, pos, af, gd⟩ (.bool (decide (A = B))) := by
 show (execOp _ _).run _ w = _
 have hg := run_eqGuard_agg (P := Tryd.prog) w .eql 55 x y #[.int .i64 A.te, .int .i64 A.ix, .int .i64 A.lt, .int .i64 A.co, .bool A.ok, .int .i64 A.vo, .int .i64 A.ch, .int .i64 A.ma, .int .i64 A.fl] #[.int .i64 B.te, .int .i64 B.ix, .int .i64 B.lt, .int .i64 B.co, .bool B.ok, .int .i64 B.vo, .int .i64 B.ch, .int .i64 B.ma, .int .i64 B.fl] (by kernel_rfl)
 have he : (binOp .eql 55 (.agg #[.int .i64 A.te, .int .i64 A.ix, .int .i64 A.lt, .int .i64 A.co, .bool A.ok, .int .i64 A.vo, .int .i64 A.ch, .int .i64 A.ma, .int .i64 A.fl]) (.agg #[.int .i64 B.te, .int .i64 B.ix, .int .i64 B.lt, .int .i64 B.co, .bool B.ok, .int .i64 B.vo, .int .i64 B.ch, .int .i64 B.ma, .int .i64 B.fl])).run Tryd.prog w = .ok (.bool (decide (A = B))) w := by
   rw [run_eql_struct, nums_eqIn w 9998 A B]; rfl
 simp only [execOp, h.ev hx, h.ev hy, Sem.run_bind, hg, Result.andThen_ok, he, Sem.run_pure]
theorem y_eqlHd {T : List (Nat × Value)} {n : Nat} {a : Act} {w : World} {d : Option Tmp} {x y : Operand} {t2 tt : TypeId} {pos : String} {af : Array Edge} {gd : Option (Nat × Bool)} (h : Has n T a) {k g f t k' g' f' t' : Int} {A B : NV} (hx : evT T x = some (.agg #[.int .i64 k, .int .i64 g, .int .i64 f, .int .i64 t, .int .i64 A.te, .int .i64 A.ix, .int .i64 A.lt, .int .i64 A.co, .bool A.ok, .int .i64 A.vo, .int .i64 A.ch, .int .i64 A.ma, .int .i64 A.fl])) (hy : evT T y = some (.agg #[.int .i64 k', .int .i64 g', .int .i64 f', .int .i64 t', .int .i64 B.te, .int .i64 B.ix, .int .i64 B.lt, .int .i64 B.co, .bool B.ok, .int .i64 B.vo, .int .i64 B.ch, .int .i64 B.ma, .int .i64 B.fl])) : Yl Tryd.prog a w ⟨d, .binOp .eql 57 x y t2, tt, pos, af, gd⟩ (.bool (decide ((k, g, f, t, A) = (k', g', f', t', B)))) := by
 show (execOp _ _).run _ w = _
 have hg := run_eqGuard_agg (P := Tryd.prog) w .eql 57 x y #[.int .i64 k, .int .i64 g, .int .i64 f, .int .i64 t, .int .i64 A.te, .int .i64 A.ix, .int .i64 A.lt, .int .i64 A.co, .bool A.ok, .int .i64 A.vo, .int .i64 A.ch, .int .i64 A.ma, .int .i64 A.fl] #[.int .i64 k', .int .i64 g', .int .i64 f', .int .i64 t', .int .i64 B.te, .int .i64 B.ix, .int .i64 B.lt, .int .i64 B.co, .bool B.ok, .int .i64 B.vo, .int .i64 B.ch, .int .i64 B.ma, .int .i64 B.fl] (by kernel_rfl)
 have he : (binOp .eql 57 (.agg #[.int .i64 k, .int .i64 g, .int .i64 f, .int .i64 t, .int .i64 A.te, .int .i64 A.ix, .int .i64 A.lt, .int .i64 A.co, .bool A.ok, .int .i64 A.vo, .int .i64 A.ch, .int .i64 A.ma, .int .i64 A.fl]) (.agg #[.int .i64 k', .int .i64 g', .int .i64 f', .int .i64 t', .int .i64 B.te, .int .i64 B.ix, .int .i64 B.lt, .int .i64 B.co, .bool B.ok, .int .i64 B.vo, .int .i64 B.ch, .int .i64 B.ma, .int .i64 B.fl])).run Tryd.prog w = .ok (.bool (decide ((k, g, f, t, A) = (k', g', f', t', B)))) w := by
   rw [run_eql_struct, head_eqIn w 9997 k g f t k' g' f' t' A B]; rfl
 simp only [execOp, h.ev hx, h.ev hy, Sem.run_bind, hg, Result.andThen_ok, he, Sem.run_pure]
end Go.Proofs.YtmoghepeggohhaaDoor.K
