/- Opening what is read, literals, strings, returns, regions that draw. For any program. -/
import Derived.Test.YtocfbocdnklllaaAb4
import Derived.Great.FillDense
namespace Go.Proofs.Ytocfbocdnklllaa.K
open Go.ChangeShapes Go.WideShapes Go.ChangeAt Go.RowKit
set_option linter.unusedVariables false

def evLit (T : List (Nat × Value)) : Nat → List (Nat × Operand) → Option (List Value)
 | _, [] => some []
 | i, (j, x) :: l => bif Nat.beq j i then (match evT T x, evLit T (i + 1) l with
   | some v, some r => some (v :: r)
   | _, _ => none) else none
def intsOf (k : IntKind) : List Value → Option (List Int)
 | [] => some []
 | .int k' z :: r => if k' = k then (match intsOf k r with | some t => some (z :: t) | none => none) else none
 | _ :: _ => none
theorem intsOf_map {k : IntKind} : ∀ {vs : List Value} {zs : List Int}, intsOf k vs = some zs → vs = zs.map (Value.int k)
 | [], zs, h => by cases h; rfl
 | v :: r, zs, h => by
   cases v <;> try (cases h; done)
   case int k' z =>
     unfold intsOf at h
     split at h
     · rename_i e; subst e
       cases hr : intsOf k' r with
       | none => rw [hr] at h; cases h
       | some t => rw [hr] at h; cases h; rw [List.map_cons, ← intsOf_map hr]
     · cases h
theorem Has.evLit {n : Nat} {T : List (Nat × Value)} {a : Act} (h : Has n T a) : ∀ {l : List (Nat × Operand)} {i : Nat} {vs : List Value}, K.evLit T i l = some vs → l.map (fun x => (x.1, a.eval x.2)) = (vs.zipIdx i).map (fun x => (x.2, x.1))
 | [], i, vs, e => by cases e; rfl
 | (j, x) :: l, i, vs, e => by
   unfold K.evLit at e
   cases hb : Nat.beq j i with
   | false => rw [hb] at e; cases e
   | true =>
     rw [hb] at e
     dsimp only [cond] at e
     obtain rfl := Nat.eq_of_beq_eq_true hb
     cases hx : evT T x with
     | none => rw [hx] at e; cases e
     | some v =>
       cases hl : K.evLit T (j + 1) l with
       | none => rw [hx, hl] at e; cases e
       | some r =>
         rw [hx, hl] at e
         cases e
         rw [List.map_cons, h.evLit hl, h.ev hx, List.zipIdx_cons, List.map_cons]
inductive RowsL (S : Nat → Prop) (w : World) (mm : Nat) : List Value → List (List D) → Prop
 | nil : RowsL S w mm [] []
 | cons {v : Value} {r : List D} {vs : List Value} {rs : List (List D)} (hl : v.cells.toList.length = mm) (h1 : v.cells.toList.all (fun x => x.oneCell') = true) (hr : RdL S w v.cells.toList r) (t : RowsL S w mm vs rs) : RowsL S w mm (v :: vs) (r :: rs)
theorem RowsL.out {S : Nat → Prop} {w : World} {mm : Nat} {vs : List Value} {rs : List (List D)} (h : RowsL S w mm vs rs) : vs.length = rs.length ∧ (∀ v ∈ vs, v.cells.size = mm ∧ ∀ x ∈ v.cells.toList, x.oneCell' = true) ∧ (∀ r ∈ rs, r.length = mm) ∧ ∀ (j q : Nat) (c : List Value) (r : List D) (x : Value) (d : D), (vs.map (·.cells.toList))[j]? = some c → rs[j]? = some r → c[q]? = some x → r[q]? = some d → Rd S w x d := by
 induction h with
 | nil => exact ⟨rfl, by simp, by simp, by simp⟩
 | cons hl h1 hr t ih =>
   obtain ⟨e1, e2, e3, e4⟩ := ih
   refine ⟨by simp [e1], fun v hv => ?_, fun r hr' => ?_, fun j q c r x d a1 a2 a3 a4 => ?_⟩
   · rcases List.mem_cons.1 hv with rfl | hv
     · exact ⟨by simpa using hl, List.all_eq_true.1 h1⟩
     · exact e2 v hv
   · rcases List.mem_cons.1 hr' with rfl | hr'
     · rw [← hr.len, hl]
     · exact e3 r hr'
   · cases j with
     | zero => simp at a1 a2; subst a1; subst a2; exact hr.get q x d a3 a4
     | succ j => exact e4 j q c r x d (by simpa using a1) (by simpa using a2) a3 a4

theorem Rd.l_out {S : Nat → Prop} {w : World} {v : Value} {mm : Nat} {rows : List (List D)} (h : Rd S w v (.l mm rows)) : rows = [] ∨ ∃ (b off c : Nat) (f : Nat → Nat → Value), v = .slice (some ⟨b, off, none⟩) rows.length c ∧ S b ∧ b < w.heap.size ∧ (∀ r ∈ rows, r.length = mm) ∧ (∀ j q, j < rows.length → q < mm → w.cell? ⟨b, off + j * mm + q, none⟩ = some (f j q) ∧ (f j q).oneCell' = true) ∧ (∀ (j q : Nat) (r : List D) (d : D), rows[j]? = some r → r[q]? = some d → Rd S w (f j q) d) := by
 cases h with
 | l0 a c m => exact .inl rfl
 | l m b off c rows f hS hb hc hm hcell hr => exact .inr ⟨b, off, c, f, rfl, hS, hb, hm, hcell, hr⟩
section
variable {P : Program} {n : Nat} {T : List (Nat × Value)} {a : Act} {w w0 : World} {X : Cx} {M : Mm} {tt : TypeId} {pos : String} {af : Array Edge} {gd : Option (Nat × Bool)} {ops : Array Oper} {rest : List Oper} {Q : Exit → Act → World → Prop} {K : Act → World → Prop}
theorem MemOk.only (m : MemOk X w0 M w) (l : List Nat) : MemOk X w0 (keepT M l) w := m.sub (keepT_lk M l)
theorem MemOk.rd (m : MemOk X w0 M w) {i : Nat} {v : Value} {d : D} (h : lk M i = some (.dat v d)) : Rd (Free X M) w v d := m.ok i _ h
theorem y_idx (ha : Has n T a) {d : Option Tmp} {t e : TypeId} {x y : Operand} {b o l c s : Nat} {k : IntKind} {q : Int} (hx : evT T x = some (.slice (some ⟨b, o, none⟩) l c)) (hy : evT T y = some (.int k q)) (hu : P.underlying t = some (.slice e)) (hs : (P.info? e).map (·.size) = some s) (j : Nat) (hq : q = j) (hj : j < l) : Yl P a w ⟨d, .indexAddr t x y, tt, pos, af, gd⟩ (.pointer (some ⟨b, o + j * s, none⟩)) := by
 show (execOp _ _).run P w = _
 simp [execOp, ha.ev hx, ha.ev hy, run_idx hu hs j hq hj]
theorem MemOk.openN (m : MemOk X w0 M w) {i : Nat} {p : Option Addr} {l c : Nat} {k : IntKind} {zs : List Int} (hm : lk M i = some (.dat (.slice p l c) (.ns k zs))) (j : Nat) (hj : j < zs.length) (i2 : Nat) (hi2 : lk M i2 = none) : ∃ b o, p = some ⟨b, o, none⟩ ∧ MemOk X w0 ((i2, .cel b (o + j * 1) [.int k (zs.getD j 0)]) :: M) w := by
 obtain ⟨p', c', e, hc, h0 | ⟨b, off, rfl, h1, h2, h3⟩⟩ := (m.ok i _ hm).ns_out
 · omega
 · injection e with e1 e2 e3
   refine ⟨b, off, e1, m.cel i2 hi2 h1 h2 (fun q v hv => ?_)⟩
   obtain rfl : q = 0 := by have := (List.getElem?_eq_some_iff.1 hv).1; simpa using this
   simp at hv; subst hv
   rw [Nat.add_zero, Nat.mul_one]; exact h3 j hj
theorem MemOk.openR (m : MemOk X w0 M w) {i : Nat} {p : Option Addr} {l c mm : Nat} {rows : List (List D)} (hm : lk M i = some (.dat (.slice p l c) (.l mm rows))) (j : Nat) {r : List D} (hr : rows[j]? = some r) (i2 : Nat) (hi2 : lk M i2 = none) : ∃ b o vs, p = some ⟨b, o, none⟩ ∧ RdL (Free X M) w vs r ∧ vs.all (fun v => v.oneCell') = true ∧ MemOk X w0 ((i2, .cel b (o + j * mm) vs) :: M) w := by
 have hR := m.ok i _ hm
 have hj : j < rows.length := (List.getElem?_eq_some_iff.1 hr).1
 rcases Rd.l_out hR with rfl | ⟨b, off, c', f, e, hS, hb, hmm, hcell, hrd⟩
 · simp at hj
 · injection e with e1 e2 e3
   have hrm : r.length = mm := hmm r (List.mem_of_getElem? hr)
   refine ⟨b, off, (List.range mm).map (f j), e1, ?_, ?_, m.cel i2 hi2 hS hb (fun q v hv => ?_)⟩
   · refine RdL.of (by simp [hrm]) (fun q v d h1 h2 => ?_)
     have h1' : q < mm := by have := (List.getElem?_eq_some_iff.1 h2).1; omega
     have : v = f j q := by simpa [h1'] using h1.symm
     subst this
     exact hrd j q r _ hr h2
   · rw [List.all_eq_true]
     intro v hv
     obtain ⟨q, hq', rfl⟩ := List.mem_map.1 hv
     exact (hcell j q hj (List.mem_range.1 hq')).2
   · have hq' := (List.getElem?_eq_some_iff.1 hv).1
     have hq2 : q < mm := by simpa using hq'
     have : v = f j q := by simpa [hq2] using hv.symm
     subst this
     exact (hcell j q hj hq2).1
theorem y_str (ha : Has n T a) {d : Option Tmp} {s t e : TypeId} {x : Operand} {v : Value} {bs : List Int} (hx : evT T x = some v) (hv : IsNums .u8 w v bs) (hs : P.underlying s = some (.slice e)) (he : P.underlying e = some (.int .u8)) (hd : P.underlying t = some .string) : Yl P a w ⟨d, .convert s t x, tt, pos, af, gd⟩ (.string (strOfNums bs)) := by
 show (execOp _ _).run P w = _
 simp [execOp, ha.ev hx, conv_str hv s e hs he t hd]
theorem e_litN (ha : Has n T a) (m : MemOk X w0 M w) (i : Nat) {d : Tmp} {t e : TypeId} {len : Nat} {parts : Array (Nat × Operand)} {vs : List Value} {k : IntKind} {zs : List Int} (hp : evLit T 0 parts.toList = some vs) (hz : intsOf k vs = some zs) (hu : P.underlying t = some (.slice e)) {z : Value} {bytes : Nat} (hinf : (P.info? e).map (fun i => (i.zero, i.size, i.bytes)) = some (some z, 1, bytes)) (hl : zs.length = len) (h0 : Nat.blt 0 len = true) (h1 : Nat.ble len 1000 = true) (ht : Nat.blt d n = true)
   (h : ∀ g a' w', Has n ((d, .slice (some ⟨g, 0, none⟩) len len) :: T) a' → MemOk X w0 ((i, .num (.slice (some ⟨g, 0, none⟩) len len) e k zs) :: M) w' → K a' w') : Oper.wp P ⟨some d, .buildSlice t len parts, tt, pos, af, gd⟩ a w K Q := by
 obtain ⟨ie, hie, hzz, hsz, -⟩ := info_parts hinf
 have h0' : 0 < len := by simpa using h0
 have h1' : len ≤ 1000 := by simpa using h1
 have hvs := intsOf_map hz
 have hpl := ha.evLit hp
 have hf : Instr.fill (fun i => some (i * ie.size, ie.size)) ((Array.range (len * ie.size)).map (z.cells[· % z.cells.size]!)) (parts.map fun (i, x) => (i, a.eval x)).toList = some (zs.map (Value.int k)).toArray := by
   rw [Array.toList_map, hsz, hvs] at *
   have := Great.fill_flat (zs.map (Value.int k)) ((Array.range (len * 1)).map (z.cells[· % z.cells.size]!)) (fun v hv => by obtain ⟨x, _, rfl⟩ := List.mem_map.1 hv; rfl) (by simp [hl])
   rw [← this]
   congr 1
 have hr := run_buildSlice (P := P) w t e len _ _ ie z hu hie hzz (by rw [hsz]; omega) (by rw [hsz]; omega) hf
 have hrun : (execOp a.eval ⟨some d, .buildSlice t len parts, tt, pos, af, gd⟩).run P w = .ok (.value (.slice (some ⟨w.heap.size, 0, none⟩) len len)) (w.alloc (.cells (zs.map (Value.int k)).toArray e)) := by
   simp only [execOp, Sem.run_bind, hr, Result.andThen_ok, Sem.run_pure]
 show Oper.upon P _ a K Q _
 rw [hrun]
 refine h _ _ _ (ha.put ht _) (m.newN i ((Below.refl _ w).alloc (Nat.le_refl _) _) ?_)
 rw [hl]
 have := World.ownsRow_lit (base := w.heap.size) (e := e) (size := 1) w (zs.map (Value.int k)).toArray len (Nat.le_refl _) (by unfold maxLen; omega) (by simp [hl])
 simpa using this
theorem e_litR (ha : Has n T a) (m : MemOk X w0 M w) (i : Nat) {d : Tmp} {t e : TypeId} {len mm : Nat} {parts : Array (Nat × Operand)} {vs : List Value} {rows : List (List D)} (hp : evLit T 0 parts.toList = some vs) (hz : RowsL (Free X M) w mm vs rows) (hu : P.underlying t = some (.slice e)) {z : Value} {bytes : Nat} (hinf : (P.info? e).map (fun i => (i.zero, i.size, i.bytes)) = some (some z, mm, bytes)) (hzs : z.cells.size = mm) (hl : rows.length = len) (h0 : Nat.blt 0 (len * mm) = true) (h1 : Nat.ble (len * mm) 1000 = true) (ht : Nat.blt d n = true)
   (h : ∀ g a' w', Has n ((d, .slice (some ⟨g, 0, none⟩) len len) :: T) a' → MemOk X w0 ((i, .row (.slice (some ⟨g, 0, none⟩) len len) e mm rows) :: M) w' → K a' w') : Oper.wp P ⟨some d, .buildSlice t len parts, tt, pos, af, gd⟩ a w K Q := by
 obtain ⟨ie, hie, hzz, hsz, -⟩ := info_parts hinf
 have h0' : 0 < len * mm := by simpa using h0
 have h1' : len * mm ≤ 1000 := by simpa using h1
 have hmm : 0 < mm := Nat.pos_of_mul_pos_left h0'
 have hlen : len ≤ len * mm := Nat.le_mul_of_pos_right _ hmm
 obtain ⟨o1, o2, o3, o4⟩ := hz.out
 have hpl := ha.evLit hp
 have hf : Instr.fill (fun i => some (i * ie.size, ie.size)) ((Array.range (len * ie.size)).map (z.cells[· % z.cells.size]!)) (parts.map fun (i, x) => (i, a.eval x)).toList = some (vs.flatMap fun v => v.cells.toList).toArray := by
   rw [Array.toList_map, hsz]
   have := Great.fill_whole hmm vs ((Array.range (len * mm)).map (z.cells[· % z.cells.size]!)) (fun v hv => (o2 v hv).1) (by simp [o1, hl])
   rw [← this]
   congr 1
 have hr := run_buildSlice (P := P) w t e len _ _ ie z hu hie hzz (by rw [hsz]; omega) (by rw [hsz]; omega) hf
 have hrun : (execOp a.eval ⟨some d, .buildSlice t len parts, tt, pos, af, gd⟩).run P w = .ok (.value (.slice (some ⟨w.heap.size, 0, none⟩) len len)) (w.alloc (.cells (vs.flatMap fun v => v.cells.toList).toArray e)) := by
   simp only [execOp, Sem.run_bind, hr, Result.andThen_ok, Sem.run_pure]
 have hbel : Below w.heap.size w (w.alloc (.cells (vs.flatMap fun v => v.cells.toList).toArray e)) := (Below.refl _ w).alloc (Nat.le_refl _) _
 show Oper.upon P _ a K Q _
 rw [hrun]
 refine h _ _ _ (ha.put ht _) (m.newR i hbel ⟨vs.map (·.cells.toList), ?_, by simp [o1], ?_, o3, fun j q c r x d a1 a2 a3 a4 => (o4 j q c r x d a1 a2 a3 a4).mono hbel.size (fun b hlt hS => ⟨hbel.block b hlt, .inl ⟨hS, hlt⟩⟩)⟩)
 · rw [hl, ← List.flatMap_def]
   have hsz2 : (vs.flatMap fun v => v.cells.toList).length = len * mm := by rw [parts_len _ mm _ (fun v hv => by simpa using (o2 v hv).1), o1, hl]
   have := World.ownsRow_lit (base := w.heap.size) (e := e) (size := mm) w (vs.flatMap fun v => v.cells.toList).toArray len (Nat.le_refl _) (by unfold maxLen; omega) (by simpa using hsz2)
   simpa using this
 · intro c hc
   obtain ⟨v, hv, rfl⟩ := List.mem_map.1 hc
   exact ⟨by simpa using (o2 v hv).1, (o2 v hv).2⟩

/-! ### The ends -/
theorem ret1 (ha : Has n T a) {fn : Func} {t : Tmp} {v : Value} {R : Ending → World → Prop} (hr : fn.results = #[.tmp t]) (hv : lk T t = some v) (h : R (.returned v) w) : bodyPost P fn R .ret a w :=
 ⟨ha.d, v, by rw [results_tmp hr, ha.h t v hv], h⟩
theorem ret2 (ha : Has n T a) {fn : Func} {t s : Tmp} {v u : Value} {R : Ending → World → Prop} (hr : fn.results = #[.tmp t, .tmp s]) (hv : lk T t = some v) (hu : lk T s = some u) (h : R (.returned (.tuple #[v, u])) w) : bodyPost P fn R .ret a w :=
 ⟨ha.d, _, by rw [results_tmp2 hr, ha.h t v hv, ha.h s u hu], h⟩
theorem enter {f : FuncId} {fn : Func} {c : Code} {args : List Value} {R : Ending → World → Prop} {N : Nat} (hf : P.funcs[f]? = some fn) (hb : fn.body = some c) (hN : fn.ntmps = N) (hl : Nat.ble args.length N = true) (h : ∀ a, Has N (args.zipIdx.map (fun x => (x.2, x.1))) a → c.wp P (bodyPost P fn R) a w) : Calls P f args.toArray w R := by
 refine calls_of_wp hf hb (h _ ⟨rfl, ?_, fun t v hv => ?_⟩)
 · have : args.length ≤ N := by simpa using hl
   simp [hN]; omega
 · have key : ∀ (l : List Value) (k : Nat), lk ((l.zipIdx k).map (fun x => (x.2, x.1))) t = some v → k ≤ t ∧ l[t - k]? = some v := by
     intro l
     induction l with
     | nil => intro k h; cases h
     | cons x l ih =>
       intro k h
       rw [List.zipIdx_cons, List.map_cons, lk_cons] at h
       by_cases e : k = t
       · rw [if_pos e] at h; cases h; subst e; simp
       · rw [if_neg e] at h
         obtain ⟨h1, h2⟩ := ih (k + 1) h
         refine ⟨by omega, ?_⟩
         rw [show t - k = (t - (k + 1)) + 1 by omega, List.getElem?_cons_succ]; exact h2
   have := (key args 0 hv).2
   rw [Nat.sub_zero] at this
   have hlt := (List.getElem?_eq_some_iff.1 this).1
   have e9 : args[t] = v := by rw [List.getElem?_eq_getElem hlt] at this; injection this
   simp [Array.getD_eq_getD_getElem?, Array.getElem?_append, hlt, e9]
end
end Go.Proofs.Ytocfbocdnklllaa.K
