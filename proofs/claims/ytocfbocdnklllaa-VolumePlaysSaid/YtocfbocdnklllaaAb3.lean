/- The steps of a walk: operations that read, that make, that write, that call. For any program. -/
import Derived.Test.YtocfbocdnklllaaAb2
namespace Go.Proofs.Ytocfbocdnklllaa.K
open Go.ChangeShapes Go.WideShapes Go.ChangeAt Go.RowKit
set_option linter.unusedVariables false

inductive RdL (S : Nat → Prop) (w : World) : List Value → List D → Prop
 | nil : RdL S w [] []
 | cons {v : Value} {d : D} {vs : List Value} {ds : List D} (h : Rd S w v d) (t : RdL S w vs ds) : RdL S w (v :: vs) (d :: ds)
theorem RdL.of {S : Nat → Prop} {w : World} : ∀ {vs : List Value} {ds : List D}, vs.length = ds.length → (∀ (q : Nat) (v : Value) (d : D), vs[q]? = some v → ds[q]? = some d → Rd S w v d) → RdL S w vs ds
 | [], [], _, _ => .nil
 | v :: vs, d :: ds, hl, h => .cons (h 0 v d rfl rfl) (RdL.of (by simpa using hl) (fun q v d h1 h2 => h (q + 1) v d (by simpa using h1) (by simpa using h2)))
 | [], _ :: _, hl, _ => by simp at hl
 | _ :: _, [], hl, _ => by simp at hl
theorem RdL.len {S : Nat → Prop} {w : World} {vs : List Value} {ds : List D} (h : RdL S w vs ds) : vs.length = ds.length := by
 induction h with
 | nil => rfl
 | cons _ _ ih => simp [ih]
theorem RdL.get {S : Nat → Prop} {w : World} {vs : List Value} {ds : List D} (h : RdL S w vs ds) : ∀ (q : Nat) (v : Value) (d : D), vs[q]? = some v → ds[q]? = some d → Rd S w v d := by
 induction h with
 | nil => intro q v d h1; simp at h1
 | cons hh _ ih =>
   intro q v d h1 h2
   cases q with
   | zero => simp at h1 h2; subst h1; subst h2; exact hh
   | succ q => exact ih q v d (by simpa using h1) (by simpa using h2)
theorem RdL.mono {S S' : Nat → Prop} {w W : World} {vs : List Value} {ds : List D} (h : RdL S w vs ds) (hs : w.heap.size ≤ W.heap.size) (hk : ∀ b, b < w.heap.size → S b → W.heap[b]? = w.heap[b]? ∧ S' b) : RdL S' W vs ds := by
 induction h with
 | nil => exact .nil
 | cons hh _ ih => exact .cons (hh.mono hs hk) ih

section
variable {P : Program} {n : Nat} {T : List (Nat × Value)} {a : Act} {w w0 : World} {X : Cx} {M : Mm} {tt : TypeId} {pos : String} {af : Array Edge} {gd : Option (Nat × Bool)} {ops : Array Oper} {rest : List Oper} {Q : Exit → Act → World → Prop} {K : Act → World → Prop}
theorem st_y {d : Tmp} {op : Op} {v : Value} (ha : Has n T a) (ht : Nat.blt d n = true) (hy : Yl P a w ⟨some d, op, tt, pos, af, none⟩ v) (h : ∀ a', Has n ((d, v) :: T) a' → wpList P ops Q rest a' w) : wpList P ops Q (⟨some d, op, tt, pos, af, none⟩ :: rest) a w := by
 refine wpList_plain rfl fun K hK => ?_
 show Oper.upon P _ a K Q ((execOp a.eval _).run P w)
 rw [hy]
 exact hK _ _ (h _ (ha.put ht v))
theorem Has.yielded (ha : Has n T a) {j t : Nat} {b : Bool} (hj : (ops[j]?).bind (·.dst) = some t) (hb : lk T t = some (.bool b)) (ht : Nat.blt t n = true) : Go.yielded ops a.tmps j = some b := by
 have hlt : t < a.tmps.size := by rw [ha.sz]; simpa [Nat.blt_eq] using ht
 have := ha.h t _ hb
 unfold Go.yielded
 rw [hj]
 show (match a.tmps[t]? with | some (.bool b) => some b | _ => none) = some b
 rw [Array.getElem?_eq_getElem hlt]
 have e : a.tmps[t] = .bool b := by simpa [Array.getD, hlt] using this
 rw [e]
theorem st_g {d : Tmp} {op : Op} {v : Value} {j t : Nat} {b : Bool} (ha : Has n T a) (hj : (ops[j]?).bind (·.dst) = some t) (hb : lk T t = some (.bool b)) (ht2 : Nat.blt t n = true) (ht : Nat.blt d n = true) (hy : Yl P a w ⟨some d, op, tt, pos, af, some (j, b)⟩ v) (h : ∀ a', Has n ((d, v) :: T) a' → wpList P ops Q rest a' w) : wpList P ops Q (⟨some d, op, tt, pos, af, some (j, b)⟩ :: rest) a w := by
 refine wpList_step fun K hK => ?_
 rw [if_pos (by simp [Region.wanted, ha.yielded hj hb ht2])]
 show Oper.upon P _ a K Q ((execOp a.eval _).run P w)
 rw [hy]
 exact hK _ _ (h _ (ha.put ht v))
theorem st_ge {o : Oper} {j t : Nat} {b : Bool} (ha : Has n T a) (hg : o.guard = some (j, b)) (hj : (ops[j]?).bind (·.dst) = some t) (hb : lk T t = some (.bool b)) (ht2 : Nat.blt t n = true) (h : ∀ K : Act → World → Prop, (∀ a w, wpList P ops Q rest a w → K a w) → o.wp P a w K Q) : wpList P ops Q (o :: rest) a w := by
 refine wpList_step fun K hK => ?_
 rw [if_pos (by simp [Region.wanted, hg, ha.yielded hj hb ht2])]
 exact h K hK
theorem st_skip {d : Tmp} {op : Op} {j t : Nat} {b : Bool} (ha : Has n T a) (hj : (ops[j]?).bind (·.dst) = some t) (hb : lk T t = some (.bool !b)) (ht2 : Nat.blt t n = true) (ht : Nat.blt d n = true) (h : ∀ a', Has n ((d, undef) :: T) a' → wpList P ops Q rest a' w) : wpList P ops Q (⟨some d, op, tt, pos, af, some (j, b)⟩ :: rest) a w := by
 refine wpList_step fun K hK => ?_
 rw [if_neg (by simp [Region.wanted, ha.yielded hj hb ht2])]
 exact hK _ _ (h _ (ha.put ht _))

/-! ### Reading -/
theorem run_load1 {w : World} {t : TypeId} {td : TypeDesc} {p : Addr} {v : Value} (hu : P.underlying t = some td) (hr : td.isRow = false) (hc : w.cell? p = some v) : (loadVar t p).run P w = .ok v w := by
 simp [loadVar, run_isAgg hu, hr, hc]
theorem y_loadB1 (ha : Has n T a) (m : MemOk X w0 M w) {d : Option Tmp} {t : TypeId} {td : TypeDesc} {x : Operand} {i g o : Nat} {e : TypeId} {cs : List Value} {v : Value} (hm : lk M i = some (.box g e cs)) (hx : evT T x = some (.pointer (some ⟨g, o, none⟩))) (hv : cs[o]? = some v) (hu : P.underlying t = some td) (hr : td.isRow = false) : Yl P a w ⟨d, .load t x, tt, pos, af, gd⟩ v := by
 have hc : w.cell? ⟨g, o, none⟩ = some v := by rw [(m.ok i _ hm).1.cell]; exact hv
 show (execOp _ _).run P w = _
 simp [execOp, ha.ev hx, Instr.loadAt, Instr.sureAddr, run_load1 hu hr hc]
theorem y_loadBR (ha : Has n T a) (m : MemOk X w0 M w) {d : Option Tmp} {t : TypeId} {td : TypeDesc} {x : Operand} {i g o k : Nat} {e : TypeId} {cs vs : List Value} (hm : lk M i = some (.box g e cs)) (hx : evT T x = some (.pointer (some ⟨g, o, none⟩))) (hu : P.underlying t = some td) (hr : td.isRow = true) (hs : (P.info? t).map (·.size) = some k) (hk : o + k ≤ cs.length) (hv : (cs.drop o).take k = vs) : Yl P a w ⟨d, .load t x, tt, pos, af, gd⟩ (.agg vs.toArray) := by
 have hl : vs.length = k := by rw [← hv, List.length_take, List.length_drop]; omega
 have hc : w.rangeAt g o vs := fun j v hj => by
   have hjl := (List.getElem?_eq_some_iff.1 hj).1
   rw [(m.ok i _ hm).1.cell, ← hj, ← hv, List.getElem?_take, if_pos (by omega), List.getElem?_drop]
 show (execOp _ _).run P w = _
 rw [exec_load t x rfl g o (ha.ev hx) vs td hc hu hr (by rw [hs, hl])]
theorem y_loadC1 (ha : Has n T a) (m : MemOk X w0 M w) {d : Option Tmp} {t : TypeId} {td : TypeDesc} {x : Operand} {i b o q : Nat} {vs : List Value} {v : Value} (hm : lk M i = some (.cel b o vs)) (hx : evT T x = some (.pointer (some ⟨b, o + q, none⟩))) (hv : vs[q]? = some v) (hu : P.underlying t = some td) (hr : td.isRow = false) : Yl P a w ⟨d, .load t x, tt, pos, af, gd⟩ v := by
 have hc : w.cell? ⟨b, o + q, none⟩ = some v := (m.ok i _ hm).2.2 q v hv
 show (execOp _ _).run P w = _
 simp [execOp, ha.ev hx, Instr.loadAt, Instr.sureAddr, run_load1 hu hr hc]
theorem y_loadC0 (ha : Has n T a) (m : MemOk X w0 M w) {d : Option Tmp} {t : TypeId} {td : TypeDesc} {x : Operand} {i b o : Nat} {vs : List Value} {v : Value} (hm : lk M i = some (.cel b o (v :: vs))) (hx : evT T x = some (.pointer (some ⟨b, o, none⟩))) (hu : P.underlying t = some td) (hr : td.isRow = false) : Yl P a w ⟨d, .load t x, tt, pos, af, gd⟩ v :=
 y_loadC1 ha m (q := 0) hm hx rfl hu hr
theorem y_loadCR (ha : Has n T a) (m : MemOk X w0 M w) {d : Option Tmp} {t : TypeId} {td : TypeDesc} {x : Operand} {i b o : Nat} {vs : List Value} (hm : lk M i = some (.cel b o vs)) (hx : evT T x = some (.pointer (some ⟨b, o, none⟩))) (hu : P.underlying t = some td) (hr : td.isRow = true) (hs : (P.info? t).map (·.size) = some vs.length) : Yl P a w ⟨d, .load t x, tt, pos, af, gd⟩ (.agg vs.toArray) := by
 show (execOp _ _).run P w = _
 rw [exec_load t x rfl b o (ha.ev hx) vs td (m.ok i _ hm).2.2 hu hr hs]
theorem run_idx {w : World} {t e : TypeId} {b o l c s : Nat} {k : IntKind} {q : Int} (hu : P.underlying t = some (.slice e)) (hs : (P.info? e).map (·.size) = some s) (j : Nat) (hq : q = j) (hj : j < l) : (Instr.indexAt t (.slice (some ⟨b, o, none⟩) l c) (.int k q)).run P w = .ok (.pointer (some ⟨b, o + j * s, none⟩)) w := by
 subst hq
 cases hi : P.info? e with
 | none => simp [hi] at hs
 | some i =>
   have hj' : i.size = s := by simpa [hi] using hs
   have h2 : ((j : Int) < (l : Int)) := by omega
   have h3 : ¬ l ≤ j := by omega
   simp [Instr.indexAt, asIntOf, run_underlying hu, h2, h3, sizeOf, typeInfo, hi, hj', Addr.add_mid]
theorem Rd.ns_out {S : Nat → Prop} {v : Value} {k : IntKind} {zs : List Int} (h : Rd S w v (.ns k zs)) : NumsS S k w v zs := by cases h with | ns h => exact h
theorem Rd.v_out {S : Nat → Prop} {v x : Value} (h : Rd S w v (.v x)) : v = x := by cases h; rfl
theorem Rd.ns_shape {S : Nat → Prop} {v : Value} {k : IntKind} {zs : List Int} (h : Rd S w v (.ns k zs)) : ∃ p c, v = .slice p zs.length c ∧ zs.length ≤ c := by
 obtain ⟨p, c, rfl, hc, -⟩ := h.ns_out; exact ⟨p, c, rfl, hc.1⟩
theorem Rd.l_shape {S : Nat → Prop} {v : Value} {m : Nat} {rows : List (List D)} (h : Rd S w v (.l m rows)) : ∃ p c, v = .slice p rows.length c ∧ rows.length ≤ c := by
 cases h with
 | l0 a c m => exact ⟨a, c, rfl, Nat.zero_le _⟩
 | l m b off c rows f hS hb hc => exact ⟨_, c, rfl, hc⟩
/-! ### Making, writing, calling -/
theorem e_alloc (ha : Has n T a) (m : MemOk X w0 M w) (i : Nat) {d : Tmp} {t : TypeId} {cs : List Value} (hz : ((P.info? t).bind (·.zero)).map (·.cells.toList) = some cs) (ht : Nat.blt d n = true) (h : ∀ g a' w', Has n ((d, .pointer (some ⟨g, 0, none⟩)) :: T) a' → MemOk X w0 ((i, .box g t cs) :: M) w' → Below w.heap.size w w' → g = w.heap.size → K a' w') : Oper.wp P ⟨some d, .alloc t, tt, pos, af, gd⟩ a w K Q := by
 cases hi : P.info? t with
 | none => simp [hi] at hz
 | some it =>
   cases hzz : it.zero with
   | none => simp [hi, hzz] at hz
   | some z =>
     have hc : z.cells.toList = cs := by simpa [hi, hzz] using hz
     have hr : (execOp a.eval ⟨some d, .alloc t, tt, pos, af, gd⟩).run P w = .ok (.value (.pointer (some ⟨w.heap.size, 0, none⟩))) (w.alloc (.cells z.cells t)) := by
       simp [execOp, Instr.alloc, zeroValue, typeInfo, hi, hzz, newVar, newRow]
     show Oper.upon P _ a K Q _
     rw [hr]
     have := m.box i t z.cells
     rw [hc] at this
     exact h _ _ _ (ha.put ht _) this ((Below.refl _ w).alloc (Nat.le_refl _) _) rfl
theorem e_box (ha : Has n T a) (m : MemOk X w0 M w) (i : Nat) {d : Tmp} {t : TypeId} {x : Operand} {v : Value} {cs : List Value} (hx : evT T x = some v) (hc : v.cells.toList = cs) (ht : Nat.blt d n = true) (h : ∀ g a' w', Has n ((d, .pointer (some ⟨g, 0, none⟩)) :: T) a' → MemOk X w0 ((i, .box g t cs) :: M) w' → Below w.heap.size w w' → g = w.heap.size → K a' w') : Oper.wp P ⟨some d, .box t x, tt, pos, af, gd⟩ a w K Q := by
 have hr : (execOp a.eval ⟨some d, .box t x, tt, pos, af, gd⟩).run P w = .ok (.value (.pointer (some ⟨w.heap.size, 0, none⟩))) (w.alloc (.cells v.cells t)) := by
   simp [execOp, Instr.box, newVar, newRow, ha.ev hx]
 show Oper.upon P _ a K Q _
 rw [hr]
 have := m.box i t v.cells
 rw [hc] at this
 exact h _ _ _ (ha.put ht _) this ((Below.refl _ w).alloc (Nat.le_refl _) _) rfl
theorem MemOk.setB (m : MemOk X w0 M w) {i g : Nat} {e : TypeId} {cs cs' : List Value} (hm : lk M i = some (.box g e cs)) {w' : World} (hb : Blk w' g e cs') (hk : Keep (fun b => b = g) w w') : MemOk X w0 ((i, .box g e cs') :: M) w' :=
 m.upd i _ (hk.mono (fun b e => ⟨_, hm, by rw [show b = g from e]; rfl⟩)) (fun b hb => .inl ⟨_, hm, hb⟩) (fun _ _ => ⟨hb, (m.ok i _ hm).2⟩)
theorem e_store1 (ha : Has n T a) (m : MemOk X w0 M w) (i : Nat) {g o : Nat} {t e : TypeId} {x y : Operand} {cs cs' : List Value} {v : Value} (hm : lk M i = some (.box g e cs)) (hx : evT T x = some (.pointer (some ⟨g, o, none⟩))) (hy : evT T y = some v) (h1 : v.oneCell' = true) (ho : Nat.blt o cs.length = true) (hs : (P.info? t).map (·.size) = some 1) (hc : cs.set o v = cs') (h : ∀ w', MemOk X w0 ((i, .box g e cs') :: M) w' → Keep (fun b => b = g) w w' → K a w') : Oper.wp P ⟨none, .store t x y, tt, pos, af, gd⟩ a w K Q := by
 have ho' : o < cs.length := by simpa [Nat.blt_eq] using ho
 obtain ⟨w', hr, hb, hk⟩ := run_storeVar_blk (P := P) (m.ok i _ hm).1 o t [v] (by simp; omega) (by simpa using hs) (by simpa using h1)
 have hst : (Instr.storeAt t (.pointer (some ⟨g, o, none⟩)) v).run P w = .ok () w' := by
   have e1 : v.cells = #[v] := cells_one h1
   have e2 : (Value.agg #[v]).cells = #[v] := rfl
   simp only [Instr.storeAt, storeVar, List.toArray, e1, e2] at hr ⊢
   exact hr
 have hrun : (execOp a.eval ⟨none, .store t x y, tt, pos, af, gd⟩).run P w = .ok .skip w' := by
   simp [execOp, ha.ev hx, ha.ev hy, hst]
 show Oper.upon P _ a K Q _
 rw [hrun]
 refine h w' (m.setB hm ?_ (hk _ rfl)) (hk _ rfl)
 rw [← hc, List.set_eq_take_append_cons_drop, if_pos ho']
 simpa using hb
theorem e_storeR (ha : Has n T a) (m : MemOk X w0 M w) (i : Nat) {g o : Nat} {t e : TypeId} {x y : Operand} {cs cs' : List Value} {xs : Array Value} (hm : lk M i = some (.box g e cs)) (hx : evT T x = some (.pointer (some ⟨g, o, none⟩))) (hy : evT T y = some (.agg xs)) (h1 : xs.toList.all (fun v => v.oneCell') = true) (ho : Nat.ble (o + xs.size) cs.length = true) (hs : (P.info? t).map (·.size) = some xs.size) (hc : cs.take o ++ xs.toList ++ cs.drop (o + xs.size) = cs') (h : ∀ w', MemOk X w0 ((i, .box g e cs') :: M) w' → Keep (fun b => b = g) w w' → K a w') : Oper.wp P ⟨none, .store t x y, tt, pos, af, gd⟩ a w K Q := by
 obtain ⟨w', hr, hb, hk⟩ := run_storeVar_blk (P := P) (m.ok i _ hm).1 o t xs.toList (by simpa using ho) (by simpa using hs) (List.all_eq_true.1 h1)
 have hrun : (execOp a.eval ⟨none, .store t x y, tt, pos, af, gd⟩).run P w = .ok .skip w' := by
   have hr' : (Instr.storeAt t (.pointer (some ⟨g, o, none⟩)) (.agg xs)).run P w = .ok () w' := by simpa using hr
   simp [execOp, ha.ev hx, ha.ev hy, hr']
 show Oper.upon P _ a K Q _
 rw [hrun]
 refine h w' (m.setB hm ?_ (hk _ rfl)) (hk _ rfl)
 rw [← hc]
 simpa using hb
theorem e_storeW (ha : Has n T a) (m : MemOk X w0 M w) (i : Nat) {g : Nat} {t e : TypeId} {x y : Operand} {cs xs : List Value} (hm : lk M i = some (.box g e cs)) (hx : evT T x = some (.pointer (some ⟨g, 0, none⟩))) (hy : evT T y = some (.agg xs.toArray)) (h1 : xs.all (fun v => v.oneCell') = true) (hl : xs.length = cs.length) (hs : (P.info? t).map (·.size) = some xs.length) (h : ∀ w', MemOk X w0 ((i, .box g e xs) :: M) w' → Keep (fun b => b = g) w w' → K a w') : Oper.wp P ⟨none, .store t x y, tt, pos, af, gd⟩ a w K Q :=
 e_storeR ha m i hm hx hy (by simpa using h1) (by simp; omega) (by simpa using hs) (by simp [hl]) h
theorem e_call (ha : Has n T a) {d : Tmp} {f : FuncId} {args : Array Operand} {ats : Array TypeId} {fn : Func} {vs : List Value} (hf : P.funcs[f]? = some fn) (hn : (fn.name == "runtime.NumGoroutine") = false) (hb : fn.body.isNone = false) (hargs : evA T args.toList = some vs) (ht : Nat.blt d n = true) {R : Ending → World → Prop} (hc : Calls P f vs.toArray w R) (h : ∀ e w', R e w' → ∃ v, e = .returned v ∧ ∀ a', Has n ((d, v) :: T) a' → K a' w') : Oper.wp P ⟨some d, .call { callee := .value (.func f), args := args, argTypes := ats }, tt, pos, af, gd⟩ a w K Q := by
 have hv : args.map a.eval = vs.toArray := by
   apply Array.ext'; rw [Array.toList_map, ha.evA hargs]
 have hr : (execOp a.eval ⟨some d, .call { callee := .value (.func f), args := args, argTypes := ats }, tt, pos, af, gd⟩).run P w = .ok (.enter f vs.toArray) w := by
   have hn' : ¬ fn.name = "runtime.NumGoroutine" := by simpa using hn
   have hb' : ¬ fn.body = none := by cases h9 : fn.body with | none => rw [h9] at hb; cases hb | some c => simp
   simp [execOp, resolve, Act.eval, Deferred.ofValue, invoke, callFunc, hf, hn', hb', hv]
 show Oper.upon P _ a K Q _
 rw [hr]
 show Calls P f vs.toArray w _
 refine hc.mono (fun e w' hR => ?_)
 obtain ⟨v, rfl, hh⟩ := h e w' hR
 exact hh _ (ha.put ht v)
end
end Go.Proofs.Ytocfbocdnklllaa.K
