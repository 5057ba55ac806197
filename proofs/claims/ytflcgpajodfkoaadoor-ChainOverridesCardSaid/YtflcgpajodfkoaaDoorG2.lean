/- General laws of walks: Ab14, Ab15, Ab16, Ab17, AbS, Ab18, Ab19, AbC, AbD, Ab20, Ab21, Ab22, Ab23, Boo. -/
import Derived.Test.YtflcgpajodfkoaaDoorG1
import Derived.Laws.MakeOwn
import Derived.Sort.OwnSortedInts
import Derived.Deep.Grids
section
namespace Go.Proofs.YtflcgpajodfkoaaDoor.K
open Go.ChangeShapes Go.WideShapes Go.ChangeAt Go.RowKit
set_option linter.unusedVariables false
set_option linter.unusedSimpArgs false
abbrev cn (w : World) : Cx := cx (fun _ => False) w
abbrev New (w : World) (b : Nat) : Prop := w.heap.size ≤ b
section
variable {w w0 : World} {X : Cx} {M : Mm}
theorem cn_new {b : Nat} (h : Free (cn w0) M b) : New w0 b := by
 by_cases hb : b < w0.heap.size
 · exact (h.1 hb).elim
 show w0.heap.size ≤ b; omega
theorem MemOk.outF (m : MemOk (cn w0) w0 M w) {i : Nat} {v : Value} {d : D} (h : lk M i = some (.dat v d)) : Rd (New w0) w v d := (m.ok i _ h : Rd _ _ _ _).cast (fun _ => cn_new)
theorem MemOk.callF (m : MemOk X w0 M w) (i : Nat) (hi : lk M i = none) {w' : World} (hb : Below w.heap.size w w') {u : Value} {d : D} (h : Rd (New w) w' u d) : MemOk X w0 ((i, .dat u d) :: M) w' :=
 (m.later hb).dat i hi (h.cast (fun b hb => m.free_out (.inr hb)))
theorem keepNow (m : MemOk X w0 M w) (hX : X.bad = []) {b : Nat} (hb : b < w0.heap.size) : w.heap[b]? = w0.heap[b]? := m.keep.2.2.2.2 b hb (by rw [hX]; exact List.not_mem_nil)
theorem Blk.now {g : Nat} {e : TypeId} {cs : List Value} (h : Blk w0 g e cs) (m : MemOk X w0 M w) (hX : X.bad = []) : Blk w g e cs := (keepNow m hX h.lt).trans h
theorem Rd.now' {S2 : Nat → Prop} {v : Value} {d : D} (h : Rd S2 w0 v d) (m : MemOk X w0 M w) (hX : X.bad = []) : Rd S2 w v d := h.now m (fun b _ => by rw [hX]; exact List.not_mem_nil)
theorem Rd.extA {S2 : Nat → Prop} {p : Option Addr} {l c mm : Nat} {rows : List (List D)} (h : Rd S2 w0 (.slice p l c) (.l mm rows)) (j : Nat) {r : List D} (hr : rows[j]? = some r) : ∃ g off vs, p = some ⟨g, off, none⟩ ∧ l = rows.length ∧ RdL S2 w0 vs r ∧ ∀ {X : Cx} {M : Mm} {w : World}, MemOk X w0 M w → X.bad = [] → w.rangeAt g (off + j * mm) vs := by
 have hj : j < rows.length := (List.getElem?_eq_some_iff.1 hr).1
 rcases Rd.l_out h with rfl | ⟨b, off, c', f, e, hS, hb, hmm, hcell, hrd⟩
 · simp at hj
 injection e with e1 e2 e3
 have hrm : r.length = mm := hmm r (List.mem_of_getElem? hr)
 refine ⟨b, off, (List.range mm).map (f j), e1, e2, RdL.of (by simp [hrm]) (fun q v d h1 h2 => ?_), fun m hX q v hv => ?_⟩
 · have h1' : q < mm := by have := (List.getElem?_eq_some_iff.1 h2).1; omega
   have : v = f j q := by simpa [h1'] using h1.symm
   subst this
   exact hrd j q r _ hr h2
 have hq' := (List.getElem?_eq_some_iff.1 hv).1
 have hq2 : q < mm := by simpa using hq'
 have : v = f j q := by simpa [hq2] using hv.symm
 subst this
 rw [World.cell?_of_block (w := w0) (keepNow m hX hb)]
 exact (hcell j q hj hq2).1
theorem Rd.extN {S2 : Nat → Prop} {p : Option Addr} {l c : Nat} {k : IntKind} {zs : List Int} (h : Rd S2 w0 (.slice p l c) (.ns k zs)) (j : Nat) (hj : j < zs.length) : ∃ g off, p = some ⟨g, off, none⟩ ∧ l = zs.length ∧ ∀ {X : Cx} {M : Mm} {w : World}, MemOk X w0 M w → X.bad = [] → w.rangeAt g (off + j * 1) [.int k (zs.getD j 0)] := by
 obtain ⟨a, c', e, hc, h0 | ⟨b, off, rfl, hS, hb, hcell⟩⟩ := h.ns_out
 · omega
 injection e with e1 e2 e3
 refine ⟨b, off, e1, e2, fun m hX q v hv => ?_⟩
 obtain rfl : q = 0 := by have := (List.getElem?_eq_some_iff.1 hv).1; simpa using this
 simp at hv; subst hv
 rw [World.cell?_of_block (w := w0) (keepNow m hX hb), Nat.add_zero, Nat.mul_one]
 exact hcell j hj
theorem Rd.takeL {S : Nat → Prop} {p : Option Addr} {l c mm : Nat} {rows : List (List D)} (h : Rd S w (.slice p l c) (.l mm rows)) (j : Nat) (hj : j ≤ rows.length) : Rd S w (.slice p j c) (.l mm (rows.take j)) := by
 by_cases h0 : j = 0
 · subst h0; rw [List.take_zero]; exact .l0 _ _ _
 rcases Rd.l_out h with rfl | ⟨b, off, c', f, e, hS, hb, hmm, hcell, hrd⟩
 · simp at hj; omega
 obtain ⟨p', c'', e', hle⟩ := h.l_shape
 injection e with e1 e2 e3
 injection e' with e4 e5 e6
 subst e1; subst e6
 have hl : (rows.take j).length = j := by rw [List.length_take]; omega
 have := Rd.l (S := S) (w := w) mm b off c (rows.take j) f hS hb (by omega) (fun r hr => hmm r (List.mem_of_mem_take hr)) (fun i q hi hq => hcell i q (by omega) hq) (fun i q r d hi hq => by
   have hlt : i < j := by have := (List.getElem?_eq_some_iff.1 hi).1; omega
   rw [List.getElem?_take_of_lt hlt] at hi
   exact hrd i q r d hi hq)
 rw [hl] at this; exact this
theorem Rd.dropL {S : Nat → Prop} {p : Option Addr} {l c mm : Nat} {rows : List (List D)} (h : Rd S w (.slice p l c) (.l mm rows)) (j : Nat) (hj : j ≤ rows.length) : Rd S w (.slice (if c = j then p else p.map (·.add (j * mm))) (l - j) (c - j)) (.l mm (rows.drop j)) := by
 obtain ⟨p', c'', e', hle⟩ := h.l_shape
 injection e' with e4 e5 e6
 subst e5
 by_cases h0 : j = rows.length
 · subst h0; rw [List.drop_length, Nat.sub_self]; exact .l0 _ _ _
 rcases Rd.l_out h with rfl | ⟨b, off, c', f, e, hS, hb, hmm, hcell, hrd⟩
 · simp only [List.length_nil] at hj h0; omega
 injection e with e1 e2 e3
 subst e1; subst e6
 rw [if_neg (by omega)]
 have hl : (rows.drop j).length = rows.length - j := List.length_drop
 have := Rd.l (S := S) (w := w) mm b (off + j * mm) (c - j) (rows.drop j) (fun i q => f (j + i) q) hS hb (by omega) (fun r hr => hmm r (List.mem_of_mem_drop hr)) (fun i q hi hq => by
   have := hcell (j + i) q (by omega) hq
   rw [show off + j * mm + i * mm + q = off + (j + i) * mm + q by rw [Nat.add_mul]; omega]
   exact this) (fun i q r d hi hq => by
   rw [List.getElem?_drop] at hi
   exact hrd (j + i) q r d hi hq)
 rw [hl] at this
 simpa [Addr.add_mid] using this
theorem MemOk.takeR (m : MemOk X w0 M w) {i : Nat} {p : Option Addr} {l c mm : Nat} {rows : List (List D)} (hm : lk M i = some (.dat (.slice p l c) (.l mm rows))) (j : Nat) (hj : j ≤ rows.length) (i2 : Nat) (hi2 : lk M i2 = none) : MemOk X w0 ((i2, .dat (.slice p j c) (.l mm (rows.take j))) :: M) w := m.dat i2 hi2 ((m.rd hm).takeL j hj)
theorem MemOk.dropR (m : MemOk X w0 M w) {i : Nat} {p : Option Addr} {l c mm : Nat} {rows : List (List D)} (hm : lk M i = some (.dat (.slice p l c) (.l mm rows))) (j : Nat) (hj : j ≤ rows.length) (i2 : Nat) (hi2 : lk M i2 = none) : MemOk X w0 ((i2, .dat (.slice (if c = j then p else p.map (·.add (j * mm))) (l - j) (c - j)) (.l mm (rows.drop j))) :: M) w := m.dat i2 hi2 ((m.rd hm).dropL j hj)
end
section
variable {P : Program} {n : Nat} {T : List (Nat × Value)} {a : Act} {w w0 : World} {X : Cx} {M : Mm} {tt : TypeId} {pos : String} {af : Array Edge} {gd : Option (Nat × Bool)} {Q : Exit → Act → World → Prop} {K : Act → World → Prop} {d : Option Tmp}
theorem Blk.sub {g : Nat} {e : TypeId} {cs : List Value} (h : Blk w g e cs) (o k : Nat) : w.rangeAt g o ((cs.drop o).take k) := fun j v hj => by
 have hj' : j < k := by have := (List.getElem?_eq_some_iff.1 hj).1; rw [List.length_take] at this; omega
 rw [List.getElem?_take_of_lt hj', List.getElem?_drop] at hj
 rw [h.cell]; exact hj
theorem y_loadAt1 (ha : Has n T a) {t : TypeId} {td : TypeDesc} {x : Operand} {b o q q' : Nat} {vs : List Value} {v : Value} (hr : w.rangeAt b o vs) (hx : evT T x = some (.pointer (some ⟨b, q', none⟩))) (hq : q' = o + q) (hv : nthL vs q = some v) (hu : P.underlying t = some td) (hd : td.isRow = false) : Yl P a w ⟨d, .load t x, tt, pos, af, gd⟩ v := by
 show (execOp _ _).run P w = _
 subst hq
 have hc' : w.cell? ⟨b, o + q, none⟩ = some v := hr q v (by rw [nthL_eq]; exact hv)
 simp [execOp, ha.ev hx, Instr.loadAt, Instr.sureAddr, run_load1 hu hd hc']
theorem y_min (ha : Has n T a) {t t2 : TypeId} {x y : Operand} {k k2 : IntKind} {p q r : Int} (hx : evT T x = some (.int k p)) (hy : evT T y = some (.int k2 q)) (hr : min p q = r) : Yl P a w ⟨d, .call { callee := .builtin .min, args := #[x, y], argTypes := #[t, t2] }, tt, pos, af, gd⟩ (.int k r) := by
 show (execOp _ _).run P w = _
 have e : (if q < p then q else p) = r := by rw [← hr]; split <;> omega
 simp [execOp, resolve, invoke, builtin, ha.ev hx, ha.ev hy, Builtin.min_, Builtin.min2, e]
theorem y_max (ha : Has n T a) {t t2 : TypeId} {x y : Operand} {k k2 : IntKind} {p q r : Int} (hx : evT T x = some (.int k p)) (hy : evT T y = some (.int k2 q)) (hr : max p q = r) : Yl P a w ⟨d, .call { callee := .builtin .max, args := #[x, y], argTypes := #[t, t2] }, tt, pos, af, gd⟩ (.int k r) := by
 show (execOp _ _).run P w = _
 have e : (if p < q then q else p) = r := by rw [← hr]; split <;> omega
 simp [execOp, resolve, invoke, builtin, ha.ev hx, ha.ev hy, Builtin.max_, Builtin.max2, e]
theorem y_cap (h : Has n T a) {t e : TypeId} {x : Operand} {p : Option Addr} {l c : Nat} (hx : evT T x = some (.slice p l c)) (hu : P.underlying t = some (.slice e)) : Yl P a w ⟨d, .call { callee := .builtin .cap, args := #[x], argTypes := #[t] }, tt, pos, af, gd⟩ (.int .i64 c) := by
 show (execOp _ _).run P w = _; simp [execOp, resolve, invoke, builtin, h.ev hx, Builtin.cap_, run_underlying hu, goInt]
theorem e_callV (ha : Has n T a) {d : Tmp} {f : FuncId} {x : Operand} {args : Array Operand} {ats : Array TypeId} {fn : Func} {vs : List Value} (hxf : evT T x = some (.func (.func f) #[] #[])) (hf : P.funcs[f]? = some fn) (hn : (fn.name == "runtime.NumGoroutine") = false) (hb : fn.body.isNone = false) (hargs : evA T args.toList = some vs) (ht : Nat.blt d n = true) {R : Ending → World → Prop} (hc : Calls P f vs.toArray w R) (h : ∀ e w', R e w' → ∃ v, e = .returned v ∧ ∀ a', Has n ((d, v) :: T) a' → K a' w') : Oper.wp P ⟨some d, .call { callee := .value x, args := args, argTypes := ats }, tt, pos, af, gd⟩ a w K Q := by
 have hv : args.map a.eval = vs.toArray := by
   apply Array.ext'; rw [Array.toList_map, ha.evA hargs]
 have hr : (execOp a.eval ⟨some d, .call { callee := .value x, args := args, argTypes := ats }, tt, pos, af, gd⟩).run P w = .ok (.enter f vs.toArray) w := by
   have hn' : ¬ fn.name = "runtime.NumGoroutine" := by simpa using hn
   have hb' : ¬ fn.body = none := by cases h9 : fn.body with | none => rw [h9] at hb; cases hb | some c => simp
   simp [execOp, resolve, ha.ev hxf, Deferred.ofValue, invoke, callFunc, hf, hn', hb', hv]
 show Oper.upon P _ a K Q _
 rw [hr]
 show Calls P f vs.toArray w _
 refine hc.mono (fun e w' hR => ?_)
 obtain ⟨v, rfl, hh⟩ := h e w' hR
 exact hh _ (ha.put ht v)
theorem ret3 (ha : Has n T a) {fn : Func} {t s r : Tmp} {v u x : Value} {R : Ending → World → Prop} (hr : fn.results = #[.tmp t, .tmp s, .tmp r]) (hv : lk T t = some v) (hu : lk T s = some u) (hx : lk T r = some x) (h : R (.returned (.tuple #[v, u, x])) w) : bodyPost P fn R .ret a w :=
 ⟨ha.d, _, by
   have h1 : (results fn a.tmps).run P w = .ok (.tuple #[a.tmps.getD t undef, a.tmps.getD s undef, a.tmps.getD r undef]) w := by simp [results, hr]
   rw [h1, ha.h t v hv, ha.h s u hu, ha.h r x hx], h⟩
end
end Go.Proofs.YtflcgpajodfkoaaDoor.K
end
section
namespace Go.Proofs.YtflcgpajodfkoaaDoor.K
open Go.ChangeShapes Go.WideShapes Go.ChangeAt Go.RowKit
set_option linter.unusedVariables false
set_option linter.unusedSimpArgs false
def putL : List Value → List (Nat × Nat) → List (Nat × Value) → Option (List Value)
 | z, _, [] => some z
 | z, ps, (i, v) :: r => match nthL ps i with
   | some (off, sz) => bif Nat.beq v.cells.toList.length sz && Nat.ble (off + sz) z.length then putL (z.take off ++ v.cells.toList ++ z.drop (off + sz)) ps r else none
   | none => none
def placesS (P : Program) (t : TypeId) : Option (List (Nat × Nat)) :=
 match P.underlying t with
 | some (.struct fs) => fs.toList.mapM (fun f => (P.info? f.type).map fun i => (f.offset, i.size))
 | _ => none
section
variable {P : Program} {n : Nat} {T : List (Nat × Value)} {a : Act} {w w0 : World} {X : Cx} {M : Mm} {tt : TypeId} {pos : String} {af : Array Edge} {gd : Option (Nat × Bool)} {Q : Exit → Act → World → Prop} {d : Option Tmp}
end
section
variable {P : Program} {n : Nat} {T : List (Nat × Value)} {a : Act} {w : World} {tt : TypeId} {pos : String} {af : Array Edge} {ops : Array Oper} {rest : List Oper} {Q : Exit → Act → World → Prop}
theorem Has.unyielded (ha : Has n T a) {j t : Nat} (hj : (ops[j]?).bind (·.dst) = some t) (hb : lk T t = some undef) (ht : Nat.blt t n = true) : Go.yielded ops a.tmps j = none := by
 have hlt : t < a.tmps.size := by rw [ha.sz]; simpa [Nat.blt_eq] using ht
 have := ha.h t _ hb
 unfold Go.yielded
 rw [hj]
 show (match a.tmps[t]? with | some (.bool b) => some b | _ => none) = none
 rw [Array.getElem?_eq_getElem hlt]
 have e : a.tmps[t] = undef := by simpa [Array.getD, hlt] using this
 rw [e]; rfl
variable {md : Region.Mode} {S : World → Prop} {e : Nat} {listed : Array Bool} {fuel : Nat}
end
section
variable {P : Program} {n : Nat} {T : List (Nat × Value)} {a : Act} {w w0 : World} {X : Cx} {M : Mm} {tt : TypeId} {pos : String} {af : Array Edge} {gd : Option (Nat × Bool)} {d : Option Tmp}
theorem y_loadSV (ha : Has n T a) (m : MemOk X w0 M w) {t : TypeId} {td : TypeDesc} {x : Operand} {i g o l c mm : Nat} {e : TypeId} {rows : List (List D)} (hm : lk M i = some (.seg (.slice (some ⟨g, o, none⟩) l c) e mm rows)) (J : Nat) {r : List D} (hr : rows[J]? = some r) {q q' : Nat} {v : Value} (hq : nthL r q = some (.v v)) (hx : evT T x = some (.pointer (some ⟨g, q', none⟩))) (hq' : q' = o + J * mm + q) (hu : P.underlying t = some td) (hd : td.isRow = false) : Yl P a w ⟨d, .load t x, tt, pos, af, gd⟩ v := by
 obtain ⟨⟨cs, h1, h2, h3, h4, h5⟩, -⟩ := m.ok i _ hm
 subst hq'
 have hJ : J < rows.length := (List.getElem?_eq_some_iff.1 hr).1
 have hJc : cs[J]? = some cs[J] := List.getElem?_eq_getElem (by omega)
 have hc := (h3 cs[J] (List.getElem_mem (by omega))).1
 rw [← nthL_eq] at hq
 have hqr := (List.getElem?_eq_some_iff.1 hq).1
 have hrm := h4 r (List.mem_of_getElem? hr)
 have hxq : cs[J][q]? = some (cs[J][q]'(by omega)) := List.getElem?_eq_getElem (by omega)
 have hv := (h5 J q cs[J] r _ _ hJc hr hxq hq).v_out
 have hl : l = rows.length := by
   rcases h1.2 with ⟨e1, _⟩ | ⟨_, _, _, _, e1, _⟩
   · cases e1
   injection e1
 subst hl
 have hf := flatten_at cs J q cs[J] (fun c hc => (h3 c hc).1) hJc (by omega)
 have hcell := h1.cellAt rfl (J * mm + q) (by calc J * mm + q < J * mm + mm := by omega
     _ = (J + 1) * mm := by rw [Nat.add_mul]; omega
     _ ≤ rows.length * mm := Nat.mul_le_mul_right _ (by omega))
 have hc' : w.cell? ⟨g, o + J * mm + q, none⟩ = some v := by rw [Nat.add_assoc, hcell, hf, hxq, hv]
 show (execOp _ _).run P w = _
 simp [execOp, ha.ev hx, Instr.loadAt, Instr.sureAddr, run_load1 hu hd hc']
end
section
variable {P : Program} {n : Nat} {T : List (Nat × Value)} {a : Act} {w : World} {tt : TypeId} {pos : String} {af : Array Edge} {gd : Option (Nat × Bool)} {Q : Exit → Act → World → Prop} {K : Act → World → Prop}
end
end Go.Proofs.YtflcgpajodfkoaaDoor.K
end
section
namespace Go.Proofs.YtflcgpajodfkoaaDoor.K
open Go.ChangeShapes Go.WideShapes Go.ChangeAt Go.RowKit
set_option linter.unusedVariables false
set_option linter.unusedSimpArgs false
theorem flatten_set {α : Type} {mm : Nat} (v : α) (q : Nat) (hq : q < mm) : ∀ (cs : List (List α)) (J : Nat) (c : List α), (∀ c ∈ cs, c.length = mm) → cs[J]? = some c → cs.flatten.set (J * mm + q) v = (cs.set J (c.set q v)).flatten
 | [], J, c, _, h => by simp at h
 | a :: cs, 0, c, hc, h => by
   simp at h; subst h
   have ha := hc a (by simp)
   rw [List.set_cons_zero, List.flatten_cons, List.flatten_cons, Nat.zero_mul, Nat.zero_add, List.set_append_left _ _ (by omega)]
 | a :: cs, J + 1, c, hc, h => by
   have ha := hc a (by simp)
   have ih := flatten_set v q hq cs J c (fun c h => hc c (by simp [h])) (by simpa using h)
   rw [List.set_cons_succ, List.flatten_cons, List.flatten_cons, ← ih, List.set_append_right _ _ (by rw [ha, Nat.add_mul]; omega)]
   congr 2
   rw [ha, Nat.add_mul]; omega
theorem RowOk.cast {N : Nat} {S S' : Nat → Prop} {w : World} {v : Value} {e : TypeId} {m : Nat} {rows : List (List D)} (h : RowOk N S w v e m rows) (hs : ∀ b, S b → S' b) : RowOk N S' w v e m rows := by
 obtain ⟨cs, h1, h2, h3, h4, h5⟩ := h
 exact ⟨cs, h1, h2, h3, h4, fun j q c r x d a1 a2 a3 a4 => (h5 j q c r x d a1 a2 a3 a4).cast hs⟩
section
variable {P : Program} {n : Nat} {T : List (Nat × Value)} {a : Act} {w w0 : World} {X : Cx} {M : Mm} {tt : TypeId} {pos : String} {af : Array Edge} {gd : Option (Nat × Bool)} {Q : Exit → Act → World → Prop} {K : Act → World → Prop}
end
end Go.Proofs.YtflcgpajodfkoaaDoor.K
end
section
namespace Go.Proofs.YtflcgpajodfkoaaDoor.K
open Go.ChangeShapes Go.WideShapes Go.ChangeAt Go.RowKit
set_option linter.unusedVariables false
set_option linter.unusedSimpArgs false
section
variable {P : Program} {n : Nat} {T : List (Nat × Value)} {a : Act} {w : World} {d : Option Tmp} {tt : TypeId} {pos : String} {af : Array Edge} {gd : Option (Nat × Bool)}
end
section
variable {P : Program} {n : Nat} {T : List (Nat × Value)} {a : Act} {w : World} {Q : Exit → Act → World → Prop} {K : Act → World → Prop} {tt : TypeId} {pos : String} {af : Array Edge} {gd : Option (Nat × Bool)}
end
section
variable {P : Program} {n : Nat} {T : List (Nat × Value)} {a : Act} {w w0 : World} {X : Cx} {M : Mm}
theorem retCC (ha : Has n T a) (m : MemOk X w0 M w) {fn : Func} {t s : Tmp} {ty ty2 : TypeId} {td td2 : TypeDesc} {i g i2 g2 : Nat} {e e2 : TypeId} {cs cs2 : List Value} {R : Ending → World → Prop} (hr : fn.results = #[.cell t ty, .cell s ty2]) (hv : lk T t = some (.pointer (some ⟨g, 0, none⟩))) (hv2 : lk T s = some (.pointer (some ⟨g2, 0, none⟩))) (hm : lk M i = some (.box g e cs)) (hm2 : lk M i2 = some (.box g2 e2 cs2)) (hu : P.underlying ty = some td) (hd : td.isRow = true) (hs : (P.info? ty).map (·.size) = some cs.length) (hu2 : P.underlying ty2 = some td2) (hd2 : td2.isRow = true) (hs2 : (P.info? ty2).map (·.size) = some cs2.length) (h : R (.returned (.tuple #[.agg cs.toArray, .agg cs2.toArray])) w) : bodyPost P fn R .ret a w :=
 ⟨ha.d, _, by
   have h1 := ha.h t _ hv
   have h2 := ha.h s _ hv2
   rw [Array.getD_eq_getD_getElem?] at h1 h2
   simp [results, hr, h1, h2, asAddr, run_loadBox m hm hu hd hs, run_loadBox m hm2 hu2 hd2 hs2], h⟩
end
end Go.Proofs.YtflcgpajodfkoaaDoor.K
end
section
namespace Go.Proofs.YtflcgpajodfkoaaDoor.K
open Go.ChangeShapes Go.WideShapes Go.ChangeAt Go.RowKit
set_option linter.unusedVariables false
set_option linter.unusedSimpArgs false
theorem Q1x {p : Prop} [Decidable p] : (decide p = true) = p := decide_eq_true_eq
theorem Q2x {p : Prop} [Decidable p] : decide p = false ↔ ¬ p := decide_eq_false_iff_not
theorem Q3x (b : Bool) : (¬ (b = true)) = (b = false) := Bool.not_eq_true b
theorem Q4x (b : Bool) : (¬ (b = false)) = (b = true) := Bool.not_eq_false b
theorem Q5x {a b : Bool} : (!a) = b ↔ a = !b := Bool.not_eq_eq_eq_not
theorem Q6x : (!true) = false := rfl
theorem Q7x : (!false) = true := rfl
theorem Q8x (b : Bool) : (!!b) = b := Bool.not_not b
theorem Q9x {a b : Int} : ¬ a < b ↔ b ≤ a := Int.not_lt
theorem Q0x {a b : Int} : ¬ a ≤ b ↔ b < a := Int.not_le
theorem Qax {α : Sort _} (a b : α) : (a ≠ b) = ¬ (a = b) := ne_eq a b
theorem Qbx {p : Prop} [Decidable p] : ¬ ¬ p ↔ p := Decidable.not_not
theorem QQ : (∀ (p : Prop) [Decidable p], (decide p = true) = p) ∧ (∀ (p : Prop) [Decidable p], decide p = false ↔ ¬ p) ∧ (∀ (b : Bool), (¬ (b = true)) = (b = false)) ∧ (∀ (b : Bool), (¬ (b = false)) = (b = true)) ∧ (∀ (a b : Bool), (!a) = b ↔ a = !b) ∧ ((!true) = false) ∧ ((!false) = true) ∧ (∀ (b : Bool), (!!b) = b) ∧ (∀ (a b : Int), ¬ a < b ↔ b ≤ a) ∧ (∀ (a b : Int), ¬ a ≤ b ↔ b < a) ∧ (∀ (p : Prop) [Decidable p], ¬ ¬ p ↔ p) := ⟨fun _ _ => Q1x, fun _ _ => Q2x, Q3x, Q4x, fun _ _ => Q5x, Q6x, Q7x, Q8x, fun _ _ => Q9x, fun _ _ => Q0x, fun _ _ => Qbx⟩
theorem il {α : Type} {a : α} {p : Prop} : a = a ∨ p := .inl rfl
variable {P : Program} {n : Nat} {T : List (Nat × Value)} {a : Act} {w w0 : World} {X : Cx} {M : Mm} {tt : TypeId} {pos : String} {af : Array Edge} {ops : Array Oper} {Q : Exit → Act → World → Prop} {md : Region.Mode} {e fuel : Nat} {S : World → Prop} {listed : Array Bool}
end Go.Proofs.YtflcgpajodfkoaaDoor.K
end
section
namespace Go.Proofs.YtflcgpajodfkoaaDoor.K
open Go.ChangeShapes Go.WideShapes Go.ChangeAt Go.RowKit
set_option linter.unusedVariables false
set_option linter.unusedSimpArgs false
section
variable {P : Program} {n : Nat} {T : List (Nat × Value)} {a : Act} {w w0 : World} {X : Cx} {M : Mm} {tt : TypeId} {pos : String} {af : Array Edge} {gd : Option (Nat × Bool)} {Q : Exit → Act → World → Prop} {K : Act → World → Prop}
theorem e_storeSD (ha : Has n T a) (m : MemOk X w0 M w) (i : Nat) {g o l c mm : Nat} {t e : TypeId} {x y : Operand} {rows : List (List D)} {v : Value} {dd : D} (hm : lk M i = some (.seg (.slice (some ⟨g, o, none⟩) l c) e mm rows)) (J : Nat) {r : List D} (hr : rows[J]? = some r) {q q' : Nat} (hq : Nat.blt q mm = true) (hx : evT T x = some (.pointer (some ⟨g, q', none⟩))) (hq' : q' = o + J * mm + q) (hy : evT T y = some v) (hv : v.oneCell' = true) (hs : (P.info? t).map (·.size) = some 1) (hdd : Rd (Free X M) w v dd)
   (h : ∀ w', MemOk X w0 ((i, .seg (.slice (some ⟨g, o, none⟩) l c) e mm (rows.set J (r.set q dd))) :: M) w' → K a w') : Oper.wp P ⟨none, .store t x y, tt, pos, af, gd⟩ a w K Q := by
 obtain ⟨⟨cs, h1, h2, h3, h4, h5⟩, hX⟩ := m.ok i _ hm
 subst hq'
 have hq0 : q < mm := by simpa [Nat.blt_eq] using hq
 have hJ : J < rows.length := (List.getElem?_eq_some_iff.1 hr).1
 have hJc : cs[J]? = some cs[J] := List.getElem?_eq_getElem (by omega)
 rcases h1.2 with ⟨e1, _⟩ | ⟨g', off, cap, cur, e1, hg', hbk, hnc, hcm, hcs, htk⟩
 · cases e1
 injection e1 with e1 e2 e3
 injection e1 with e1
 injection e1 with e1 e4
 subst e1; subst e4; subst e2; subst e3
 have hJm : J * mm + q < rows.length * mm := by
   calc J * mm + q < J * mm + mm := by omega
     _ = (J + 1) * mm := by rw [Nat.add_mul]; omega
     _ ≤ rows.length * mm := Nat.mul_le_mul_right _ (by omega)
 have hcapm : rows.length * mm ≤ c * mm := Nat.mul_le_mul_right _ hnc
 have hb : Blk w g e cur.toList := by unfold Blk; rw [Array.toArray_toList]; exact hbk
 have hcl : cur.toList.length = cur.size := Array.length_toList
 obtain ⟨w', hrn, hb', hk⟩ := run_storeVar_blk (P := P) hb (o + J * mm + q) t [v] (by simp; omega) (by simpa using hs) (by simpa using hv)
 have hst : (Instr.storeAt t (.pointer (some ⟨g, o + J * mm + q, none⟩)) v).run P w = .ok () w' := by
   have e1 : v.cells = #[v] := cells_one hv
   have e2 : (Value.agg #[v]).cells = #[v] := rfl
   simp only [Instr.storeAt, storeVar, List.toArray, e1, e2] at hrn ⊢
   exact hrn
 have hrun : (execOp a.eval ⟨none, .store t x y, tt, pos, af, gd⟩).run P w = .ok .skip w' := by
   simp [execOp, ha.ev hx, ha.ev hy, hst]
 show Oper.upon P _ a K Q _
 rw [hrun]
 have hcur : cur.toList.take (o + J * mm + q) ++ [v] ++ cur.toList.drop (o + J * mm + q + [v].length) = cur.toList.set (o + J * mm + q) v := by
   rw [List.set_eq_take_append_cons_drop, if_pos (by omega)]; simp
 rw [hcur] at hb'
 have hlen : (rows.set J (r.set q dd)).length = rows.length := List.length_set ..
 have hkeep : Keep (fun b => ∃ r, lk M i = some r ∧ r.blk = some b) w w' := (hk (fun b => b = g) rfl).mono (fun b e => ⟨_, hm, by rw [show b = g from e]; rfl⟩)
 refine h w' (m.upd i _ hkeep (fun b hb => .inl ⟨_, hm, hb⟩) (fun hf _ => ⟨⟨cs.set J (cs[J].set q v), ?_, by rw [List.length_set, h2, hlen], fun c' hc' => ?_, fun r' hr' => ?_, fun j q2 c' r' x' d a1 a2 a3 a4 => ?_⟩, hX⟩))
 · rw [hlen, ← flatten_set v q hq0 cs J cs[J] (fun c hc => (h3 c hc).1) hJc]
   refine ⟨by rw [List.length_set]; exact h1.1, .inr ⟨g, o, c, (cur.toList.set (o + J * mm + q) v).toArray, rfl, Nat.zero_le _, hb', hnc, hcm, by simp; omega, ?_⟩⟩
   rw [← htk]
   show ((cur.toList.set (o + J * mm + q) v).drop o).take (rows.length * mm) = _
   rw [List.drop_set, if_neg (by omega), List.take_set]
   congr 1; omega
 · rcases List.mem_or_eq_of_mem_set hc' with hc' | rfl
   · exact h3 c' hc'
   have := h3 cs[J] (List.getElem_mem (by omega))
   refine ⟨by rw [List.length_set]; exact this.1, fun x hx => ?_⟩
   rcases List.mem_or_eq_of_mem_set hx with hx | rfl
   · exact this.2 x hx
   exact hv
 · rcases List.mem_or_eq_of_mem_set hr' with hr' | rfl
   · exact h4 r' hr'
   rw [List.length_set]; exact h4 r (List.mem_of_getElem? hr)
 have hmono : ∀ b, b < w.heap.size → Free X M b → w'.heap[b]? = w.heap[b]? ∧ Free X ((i, Res.seg (.slice (some ⟨g, o, none⟩) rows.length c) e mm (rows.set J (r.set q dd))) :: M) b := fun b hlt hF => ⟨(hk (fun b => b = g) rfl).2.2.2.2 b hlt (fun e => hF.2 ⟨i, _, hm, by rw [show b = g from e]; rfl⟩), hf b hlt hF⟩
 have hsz := hkeep.size
 by_cases hjJ : j = J
 · subst hjJ
   rw [List.getElem?_set_self (by omega)] at a1
   rw [List.getElem?_set_self (by omega)] at a2
   cases a1; cases a2
   by_cases hqq : q2 = q
   · subst hqq
     have l1 := (List.getElem?_eq_some_iff.1 a3).1
     have l2 := (List.getElem?_eq_some_iff.1 a4).1
     rw [List.length_set] at l1 l2
     rw [List.getElem?_set_self l1] at a3
     rw [List.getElem?_set_self l2] at a4
     cases a3; cases a4
     exact hdd.mono hsz hmono
   rw [List.getElem?_set_ne (by omega)] at a3
   rw [List.getElem?_set_ne (by omega)] at a4
   exact (h5 j q2 _ r x' d hJc hr a3 a4).mono hsz hmono
 rw [List.getElem?_set_ne (by omega)] at a1
 rw [List.getElem?_set_ne (by omega)] at a2
 exact (h5 j q2 c' r' x' d a1 a2 a3 a4).mono hsz hmono
theorem madeZ (k : IntKind) (n : Nat) : (madeCells (Value.int k 0).cells n).toList = (List.replicate n 0).map (Value.int k) := by
 unfold madeCells
 apply List.ext_getElem
 · simp
 intro i h1 h2
 simp [Value.cells, Nat.mod_one]
theorem e_makeN (ha : Has n T a) (m : MemOk X w0 M w) (i : Nat) {d : Tmp} {t e : TypeId} {x y : Operand} {k kx ky : IntKind} {q q2 : Int} {bytes : Nat} (N : Nat) (hx : evT T x = some (.int kx q)) (hy : evT T y = some (.int ky q2)) (hq : q = N) (hq2 : q2 = N) (ht : P.underlying t = some (.slice e)) (hinf : (P.info? e).map (fun i => (i.zero, i.size, i.bytes)) = some (some (.int k 0), 1, bytes)) (hb8 : bytes ≤ 1000) (hN : N ≤ 100000000) (hd : Nat.blt d n = true)
   (h : ∀ p c a' w', Has n ((d, .slice p N c) :: T) a' → MemOk X w0 ((i, .num (.slice p N c) e k (List.replicate N 0)) :: M) w' → K a' w') : Oper.wp P ⟨some d, .makeSlice t x y, tt, pos, af, gd⟩ a w K Q := by
 obtain ⟨i0, hi, hz0, hz1, hz2⟩ := info_parts hinf
 subst hq; subst hq2
 have hby : N * bytes ≤ 100000000000 := Nat.mul_le_mul hN hb8
 have hby2 : (bytes : Int) * (N : Int) ≤ 281474976710656 := by
   rw [← Int.natCast_mul, Nat.mul_comm]; omega
 have hr := run_make (P := P) w t e i0 _ ht hi hz0 kx ky (N : Int) (N : Int) (by omega) (by omega) (by rw [hz2]; exact hby2) (by omega)
 rw [hz1, Nat.mul_one, Int.toNat_natCast] at hr
 have hrun : (execOp a.eval ⟨some d, .makeSlice t x y, tt, pos, af, gd⟩).run P w = .ok (.value (.slice (some ⟨w.heap.size, 0, none⟩) N N)) (w.alloc (.cells (madeCells (Value.int k 0).cells N) e)) := by
   simp [execOp, ha.ev hx, ha.ev hy, hr]
 show Oper.upon P _ a K Q _
 rw [hrun]
 refine h _ _ _ _ (ha.put hd _) (m.newN i ((Below.refl _ w).alloc (Nat.le_refl _) _) ?_)
 rw [List.length_replicate]
 refine ⟨by simp, .inr ⟨w.heap.size, N, madeCells (Value.int k 0).cells N, rfl, Nat.le_refl _, heap_alloc_new w _, Nat.le_refl _, by unfold maxLen; omega, by rw [size_madeCells, Nat.mul_one], ?_⟩⟩
 rw [madeZ, Nat.mul_one, List.take_of_length_le (by simp)]
end
end Go.Proofs.YtflcgpajodfkoaaDoor.K
end
section
namespace Go.Proofs.YtflcgpajodfkoaaDoor.K
open Go.ChangeShapes Go.WideShapes Go.ChangeAt Go.RowKit
set_option linter.unusedVariables false
set_option linter.unusedSimpArgs false
variable {P : Program} {n : Nat} {T : List (Nat × Value)} {a : Act} {w : World} {d : Option Tmp} {tt : TypeId} {pos : String} {af : Array Edge} {gd : Option (Nat × Bool)}
end Go.Proofs.YtflcgpajodfkoaaDoor.K
end
section
namespace Go.Proofs.YtflcgpajodfkoaaDoor.K
open Go.ChangeShapes Go.WideShapes Go.ChangeAt Go.RowKit
set_option linter.unusedVariables false
set_option linter.unusedSimpArgs false
inductive Ch (P : Program) (n : Nat) (ops : Array Oper) (w : World) : List Oper → List (Nat × Value) → List Oper → List (Nat × Value) → Prop
 | nil {L : List Oper} {T : List (Nat × Value)} : Ch P n ops w L T L T
 | c {d : Tmp} {op : Op} {v : Value} {L L' : List Oper} {T T' : List (Nat × Value)} {tt : TypeId} {pos : String} {af : Array Edge} (ht : Nat.blt d n = true) (hy : ∀ a, Has n T a → Yl P a w ⟨some d, op, tt, pos, af, none⟩ v) (t : Ch P n ops w L ((d, v) :: T) L' T') : Ch P n ops w (⟨some d, op, tt, pos, af, none⟩ :: L) T L' T'
 | g {d : Tmp} {op : Op} {v : Value} {L L' : List Oper} {T T' : List (Nat × Value)} {tt : TypeId} {pos : String} {af : Array Edge} {j t : Nat} {b : Bool} (hj : (ops[j]?).bind (·.dst) = some t) (hb : lk T t = some (.bool b)) (ht2 : Nat.blt t n = true) (ht : Nat.blt d n = true) (hy : ∀ a, Has n T a → Yl P a w ⟨some d, op, tt, pos, af, some (j, b)⟩ v) (tl : Ch P n ops w L ((d, v) :: T) L' T') : Ch P n ops w (⟨some d, op, tt, pos, af, some (j, b)⟩ :: L) T L' T'
 | s {d : Tmp} {op : Op} {L L' : List Oper} {T T' : List (Nat × Value)} {tt : TypeId} {pos : String} {af : Array Edge} {j t : Nat} {b : Bool} (hj : (ops[j]?).bind (·.dst) = some t) (hb : lk T t = some (.bool !b)) (ht2 : Nat.blt t n = true) (ht : Nat.blt d n = true) (tl : Ch P n ops w L ((d, undef) :: T) L' T') : Ch P n ops w (⟨some d, op, tt, pos, af, some (j, b)⟩ :: L) T L' T'
theorem goCh {P : Program} {n : Nat} {ops : Array Oper} {w : World} {Q : Exit → Act → World → Prop} {L L' : List Oper} {T T' : List (Nat × Value)} {a : Act} (ha : Has n T a) (hc : Ch P n ops w L T L' T') (h : ∀ a', Has n T' a' → wpList P ops Q L' a' w) : wpList P ops Q L a w := by
 induction hc generalizing a with
 | nil => exact h a ha
 | c ht hy t ih => exact st_y ha ht (hy a ha) (fun a' ha' => ih ha' h)
 | g hj hb ht2 ht hy t ih => exact st_g ha hj hb ht2 ht (hy a ha) (fun a' ha' => ih ha' h)
 | s hj hb ht2 ht t ih => exact st_skip ha hj hb ht2 ht (fun a' ha' => ih ha' h)
theorem regS {P : Program} {n id : Nat} {l : List Oper} {y : Code} {w : World} {Q : Exit → Act → World → Prop} {T T' : List (Nat × Value)} {a : Act} (ha : Has n T a) (hc : Ch P n l.toArray w l T [] T') (h : ∀ a', Has n T' a' → y.wp P Q a' w) : ((Code.region id l.toArray false).seq y).wp P Q a w :=
 wp_seq_k (fun K hK => wp_region_lit (goCh ha hc (fun a' ha' => wpList_nil (hK _ _ (h a' ha')))))
/-! short -/
section
variable {P : Program} {n : Nat} {ops : Array Oper} {L L' : List Oper} {T T' : List (Nat × Value)} {w w0 : World} {X : Cx} {M : Mm} {dd : Tmp} {tt : TypeId} {pos : String} {af : Array Edge} {x y z : Operand} {k : IntKind} {p q r : Int} {t t2 : TypeId}
theorem Ch.move {x : Operand} {v : Value} (hx : evT T x = some v) (tl : Ch P n ops w L ((dd, v) :: T) L' T') (ht : Nat.blt dd n = true := by rfl) : Ch P n ops w (⟨some dd, .move x, tt, pos, af, none⟩ :: L) T L' T' := .c ht (fun _ h => y_move h hx) tl
theorem Ch.moveZ {x : Operand} {v : Value} (hx : evT T x = some v) {j tg : Nat} {bb : Bool} (tl : Ch P n ops w L ((dd, v) :: T) L' T') (hj : (ops[j]?).bind (·.dst) = some tg := by rfl) (hb : lk T tg = some (.bool bb) := by rfl) (ht2 : Nat.blt tg n = true := by rfl) (ht : Nat.blt dd n = true := by rfl) : Ch P n ops w (⟨some dd, .move x, tt, pos, af, some (j, bb)⟩ :: L) T L' T' := .g hj hb ht2 ht (fun _ h => y_move h hx) tl
theorem Ch.assign {x : Operand} {v : Value} (hx : evT T x = some v) (tl : Ch P n ops w L ((dd, v) :: T) L' T') (ht : Nat.blt dd n = true := by rfl) : Ch P n ops w (⟨some dd, .assign x, tt, pos, af, none⟩ :: L) T L' T' := .c ht (fun _ h => y_assign h hx) tl
theorem Ch.pickT {c x y : Operand} {v : Value} (hc : evT T c = some (.bool true)) (hx : evT T x = some v) (tl : Ch P n ops w L ((dd, v) :: T) L' T') (ht : Nat.blt dd n = true := by rfl) : Ch P n ops w (⟨some dd, .pick c x y, tt, pos, af, none⟩ :: L) T L' T' := .c ht (fun _ h => y_pickT h hc hx) tl
theorem Ch.pickTZ {c x y : Operand} {v : Value} (hc : evT T c = some (.bool true)) (hx : evT T x = some v) {j tg : Nat} {bb : Bool} (tl : Ch P n ops w L ((dd, v) :: T) L' T') (hj : (ops[j]?).bind (·.dst) = some tg := by rfl) (hb : lk T tg = some (.bool bb) := by rfl) (ht2 : Nat.blt tg n = true := by rfl) (ht : Nat.blt dd n = true := by rfl) : Ch P n ops w (⟨some dd, .pick c x y, tt, pos, af, some (j, bb)⟩ :: L) T L' T' := .g hj hb ht2 ht (fun _ h => y_pickT h hc hx) tl
theorem Ch.pickF {c x y : Operand} {v : Value} (hc : evT T c = some (.bool false)) (hx : evT T y = some v) (tl : Ch P n ops w L ((dd, v) :: T) L' T') (ht : Nat.blt dd n = true := by rfl) : Ch P n ops w (⟨some dd, .pick c x y, tt, pos, af, none⟩ :: L) T L' T' := .c ht (fun _ h => y_pickF h hc hx) tl
theorem Ch.pickFZ {c x y : Operand} {v : Value} (hc : evT T c = some (.bool false)) (hx : evT T y = some v) {j tg : Nat} {bb : Bool} (tl : Ch P n ops w L ((dd, v) :: T) L' T') (hj : (ops[j]?).bind (·.dst) = some tg := by rfl) (hb : lk T tg = some (.bool bb) := by rfl) (ht2 : Nat.blt tg n = true := by rfl) (ht : Nat.blt dd n = true := by rfl) : Ch P n ops w (⟨some dd, .pick c x y, tt, pos, af, some (j, bb)⟩ :: L) T L' T' := .g hj hb ht2 ht (fun _ h => y_pickF h hc hx) tl
theorem Ch.not {t : TypeId} {x : Operand} {b : Bool} (hx : evT T x = some (.bool b)) (tl : Ch P n ops w L ((dd, (.bool !b)) :: T) L' T') (ht : Nat.blt dd n = true := by rfl) : Ch P n ops w (⟨some dd, .unOp .not t x, tt, pos, af, none⟩ :: L) T L' T' := .c ht (fun _ h => y_not h hx) tl
theorem Ch.notZ {t : TypeId} {x : Operand} {b : Bool} (hx : evT T x = some (.bool b)) {j tg : Nat} {bb : Bool} (tl : Ch P n ops w L ((dd, (.bool !b)) :: T) L' T') (hj : (ops[j]?).bind (·.dst) = some tg := by rfl) (hb : lk T tg = some (.bool bb) := by rfl) (ht2 : Nat.blt tg n = true := by rfl) (ht : Nat.blt dd n = true := by rfl) : Ch P n ops w (⟨some dd, .unOp .not t x, tt, pos, af, some (j, bb)⟩ :: L) T L' T' := .g hj hb ht2 ht (fun _ h => y_not h hx) tl
theorem Ch.len {t e : TypeId} {x : Operand} {p : Option Addr} {l c : Nat} (hx : evT T x = some (.slice p l c)) (hu : P.underlying t = some (.slice e)) (tl : Ch P n ops w L ((dd, (.int .i64 l)) :: T) L' T') (ht : Nat.blt dd n = true := by rfl) : Ch P n ops w (⟨some dd, .call { callee := .builtin .len, args := #[x], argTypes := #[t] }, tt, pos, af, none⟩ :: L) T L' T' := .c ht (fun _ h => y_len h hx hu) tl
theorem Ch.lenZ {t e : TypeId} {x : Operand} {p : Option Addr} {l c : Nat} (hx : evT T x = some (.slice p l c)) (hu : P.underlying t = some (.slice e)) {j tg : Nat} {bb : Bool} (tl : Ch P n ops w L ((dd, (.int .i64 l)) :: T) L' T') (hj : (ops[j]?).bind (·.dst) = some tg := by rfl) (hb : lk T tg = some (.bool bb) := by rfl) (ht2 : Nat.blt tg n = true := by rfl) (ht : Nat.blt dd n = true := by rfl) : Ch P n ops w (⟨some dd, .call { callee := .builtin .len, args := #[x], argTypes := #[t] }, tt, pos, af, some (j, bb)⟩ :: L) T L' T' := .g hj hb ht2 ht (fun _ h => y_len h hx hu) tl
theorem Ch.add (hx : evT T x = some (.int k p)) (hy : evT T y = some (.int k q)) (hr : k.wrap (p + q) = r) (tl : Ch P n ops w L ((dd, (.int k r)) :: T) L' T') (ht : Nat.blt dd n = true := by rfl) : Ch P n ops w (⟨some dd, .binOp .add t x y t2, tt, pos, af, none⟩ :: L) T L' T' := .c ht (fun _ h => y_add h hx hy hr) tl
theorem Ch.sub (hx : evT T x = some (.int k p)) (hy : evT T y = some (.int k q)) (hr : k.wrap (p - q) = r) (tl : Ch P n ops w L ((dd, (.int k r)) :: T) L' T') (ht : Nat.blt dd n = true := by rfl) : Ch P n ops w (⟨some dd, .binOp .sub t x y t2, tt, pos, af, none⟩ :: L) T L' T' := .c ht (fun _ h => y_sub h hx hy hr) tl
theorem Ch.mul (hx : evT T x = some (.int k p)) (hy : evT T y = some (.int k q)) (hr : k.wrap (p * q) = r) (tl : Ch P n ops w L ((dd, (.int k r)) :: T) L' T') (ht : Nat.blt dd n = true := by rfl) : Ch P n ops w (⟨some dd, .binOp .mul t x y t2, tt, pos, af, none⟩ :: L) T L' T' := .c ht (fun _ h => y_mul h hx hy hr) tl
theorem Ch.quo (hx : evT T x = some (.int k p)) (hy : evT T y = some (.int k q)) (h0 : q ≠ 0) (hr : k.wrap (p.tdiv q) = r) (tl : Ch P n ops w L ((dd, (.int k r)) :: T) L' T') (ht : Nat.blt dd n = true := by rfl) : Ch P n ops w (⟨some dd, .binOp .quo t x y t2, tt, pos, af, none⟩ :: L) T L' T' := .c ht (fun _ h => y_quo h hx hy h0 hr) tl
theorem Ch.rem (hx : evT T x = some (.int k p)) (hy : evT T y = some (.int k q)) (h0 : q ≠ 0) (hr : p.tmod q = r) (tl : Ch P n ops w L ((dd, (.int k r)) :: T) L' T') (ht : Nat.blt dd n = true := by rfl) : Ch P n ops w (⟨some dd, .binOp .rem t x y t2, tt, pos, af, none⟩ :: L) T L' T' := .c ht (fun _ h => y_rem h hx hy h0 hr) tl
theorem Ch.remZ (hx : evT T x = some (.int k p)) (hy : evT T y = some (.int k q)) (h0 : q ≠ 0) (hr : p.tmod q = r) {j tg : Nat} {bb : Bool} (tl : Ch P n ops w L ((dd, (.int k r)) :: T) L' T') (hj : (ops[j]?).bind (·.dst) = some tg := by rfl) (hb : lk T tg = some (.bool bb) := by rfl) (ht2 : Nat.blt tg n = true := by rfl) (ht : Nat.blt dd n = true := by rfl) : Ch P n ops w (⟨some dd, .binOp .rem t x y t2, tt, pos, af, some (j, bb)⟩ :: L) T L' T' := .g hj hb ht2 ht (fun _ h => y_rem h hx hy h0 hr) tl
theorem Ch.and (hx : evT T x = some (.int k p)) (hy : evT T y = some (.int k q)) (hr : k.wrap (BitVec.ofInt k.bits p &&& BitVec.ofInt k.bits q).toNat = r) (tl : Ch P n ops w L ((dd, (.int k r)) :: T) L' T') (ht : Nat.blt dd n = true := by rfl) : Ch P n ops w (⟨some dd, .binOp .and t x y t2, tt, pos, af, none⟩ :: L) T L' T' := .c ht (fun _ h => y_and h hx hy hr) tl
theorem Ch.or (hx : evT T x = some (.int k p)) (hy : evT T y = some (.int k q)) (hr : k.wrap (BitVec.ofInt k.bits p ||| BitVec.ofInt k.bits q).toNat = r) (tl : Ch P n ops w L ((dd, (.int k r)) :: T) L' T') (ht : Nat.blt dd n = true := by rfl) : Ch P n ops w (⟨some dd, .binOp .or t x y t2, tt, pos, af, none⟩ :: L) T L' T' := .c ht (fun _ h => y_or h hx hy hr) tl
theorem Ch.shl {yk : IntKind} (hx : evT T x = some (.int k p)) (hy : evT T y = some (.int yk q)) (h0 : 0 ≤ q) (hr : k.wrap (p * 2 ^ min q.toNat k.bits) = r) (tl : Ch P n ops w L ((dd, (.int k r)) :: T) L' T') (ht : Nat.blt dd n = true := by rfl) : Ch P n ops w (⟨some dd, .binOp .shl t x y t2, tt, pos, af, none⟩ :: L) T L' T' := .c ht (fun _ h => y_shl h hx hy h0 hr) tl
theorem Ch.shr {yk : IntKind} (hx : evT T x = some (.int k p)) (hy : evT T y = some (.int yk q)) (h0 : 0 ≤ q) (hr : p.fdiv (2 ^ min q.toNat k.bits) = r) (tl : Ch P n ops w L ((dd, (.int k r)) :: T) L' T') (ht : Nat.blt dd n = true := by rfl) : Ch P n ops w (⟨some dd, .binOp .shr t x y t2, tt, pos, af, none⟩ :: L) T L' T' := .c ht (fun _ h => y_shr h hx hy h0 hr) tl
theorem Ch.lss (hx : evT T x = some (.int k p)) (hy : evT T y = some (.int k q)) (tl : Ch P n ops w L ((dd, (.bool (decide (p < q)))) :: T) L' T') (ht : Nat.blt dd n = true := by rfl) : Ch P n ops w (⟨some dd, .binOp .lss t x y t2, tt, pos, af, none⟩ :: L) T L' T' := .c ht (fun _ h => y_lss h hx hy) tl
theorem Ch.lssZ (hx : evT T x = some (.int k p)) (hy : evT T y = some (.int k q)) {j tg : Nat} {bb : Bool} (tl : Ch P n ops w L ((dd, (.bool (decide (p < q)))) :: T) L' T') (hj : (ops[j]?).bind (·.dst) = some tg := by rfl) (hb : lk T tg = some (.bool bb) := by rfl) (ht2 : Nat.blt tg n = true := by rfl) (ht : Nat.blt dd n = true := by rfl) : Ch P n ops w (⟨some dd, .binOp .lss t x y t2, tt, pos, af, some (j, bb)⟩ :: L) T L' T' := .g hj hb ht2 ht (fun _ h => y_lss h hx hy) tl
theorem Ch.leq (hx : evT T x = some (.int k p)) (hy : evT T y = some (.int k q)) (tl : Ch P n ops w L ((dd, (.bool (decide (p ≤ q)))) :: T) L' T') (ht : Nat.blt dd n = true := by rfl) : Ch P n ops w (⟨some dd, .binOp .leq t x y t2, tt, pos, af, none⟩ :: L) T L' T' := .c ht (fun _ h => y_leq h hx hy) tl
theorem Ch.leqZ (hx : evT T x = some (.int k p)) (hy : evT T y = some (.int k q)) {j tg : Nat} {bb : Bool} (tl : Ch P n ops w L ((dd, (.bool (decide (p ≤ q)))) :: T) L' T') (hj : (ops[j]?).bind (·.dst) = some tg := by rfl) (hb : lk T tg = some (.bool bb) := by rfl) (ht2 : Nat.blt tg n = true := by rfl) (ht : Nat.blt dd n = true := by rfl) : Ch P n ops w (⟨some dd, .binOp .leq t x y t2, tt, pos, af, some (j, bb)⟩ :: L) T L' T' := .g hj hb ht2 ht (fun _ h => y_leq h hx hy) tl
theorem Ch.gtr (hx : evT T x = some (.int k p)) (hy : evT T y = some (.int k q)) (tl : Ch P n ops w L ((dd, (.bool (decide (q < p)))) :: T) L' T') (ht : Nat.blt dd n = true := by rfl) : Ch P n ops w (⟨some dd, .binOp .gtr t x y t2, tt, pos, af, none⟩ :: L) T L' T' := .c ht (fun _ h => y_gtr h hx hy) tl
theorem Ch.gtrZ (hx : evT T x = some (.int k p)) (hy : evT T y = some (.int k q)) {j tg : Nat} {bb : Bool} (tl : Ch P n ops w L ((dd, (.bool (decide (q < p)))) :: T) L' T') (hj : (ops[j]?).bind (·.dst) = some tg := by rfl) (hb : lk T tg = some (.bool bb) := by rfl) (ht2 : Nat.blt tg n = true := by rfl) (ht : Nat.blt dd n = true := by rfl) : Ch P n ops w (⟨some dd, .binOp .gtr t x y t2, tt, pos, af, some (j, bb)⟩ :: L) T L' T' := .g hj hb ht2 ht (fun _ h => y_gtr h hx hy) tl
theorem Ch.geq (hx : evT T x = some (.int k p)) (hy : evT T y = some (.int k q)) (tl : Ch P n ops w L ((dd, (.bool (decide (q ≤ p)))) :: T) L' T') (ht : Nat.blt dd n = true := by rfl) : Ch P n ops w (⟨some dd, .binOp .geq t x y t2, tt, pos, af, none⟩ :: L) T L' T' := .c ht (fun _ h => y_geq h hx hy) tl
theorem Ch.geqZ (hx : evT T x = some (.int k p)) (hy : evT T y = some (.int k q)) {j tg : Nat} {bb : Bool} (tl : Ch P n ops w L ((dd, (.bool (decide (q ≤ p)))) :: T) L' T') (hj : (ops[j]?).bind (·.dst) = some tg := by rfl) (hb : lk T tg = some (.bool bb) := by rfl) (ht2 : Nat.blt tg n = true := by rfl) (ht : Nat.blt dd n = true := by rfl) : Ch P n ops w (⟨some dd, .binOp .geq t x y t2, tt, pos, af, some (j, bb)⟩ :: L) T L' T' := .g hj hb ht2 ht (fun _ h => y_geq h hx hy) tl
theorem Ch.eql (hx : evT T x = some (.int k p)) (hy : evT T y = some (.int k q)) (tl : Ch P n ops w L ((dd, (.bool (decide (p = q)))) :: T) L' T') (ht : Nat.blt dd n = true := by rfl) : Ch P n ops w (⟨some dd, .binOp .eql t x y t2, tt, pos, af, none⟩ :: L) T L' T' := .c ht (fun _ h => y_eql h hx hy) tl
theorem Ch.eqlZ (hx : evT T x = some (.int k p)) (hy : evT T y = some (.int k q)) {j tg : Nat} {bb : Bool} (tl : Ch P n ops w L ((dd, (.bool (decide (p = q)))) :: T) L' T') (hj : (ops[j]?).bind (·.dst) = some tg := by rfl) (hb : lk T tg = some (.bool bb) := by rfl) (ht2 : Nat.blt tg n = true := by rfl) (ht : Nat.blt dd n = true := by rfl) : Ch P n ops w (⟨some dd, .binOp .eql t x y t2, tt, pos, af, some (j, bb)⟩ :: L) T L' T' := .g hj hb ht2 ht (fun _ h => y_eql h hx hy) tl
theorem Ch.neq (hx : evT T x = some (.int k p)) (hy : evT T y = some (.int k q)) (tl : Ch P n ops w L ((dd, (.bool (decide (p ≠ q)))) :: T) L' T') (ht : Nat.blt dd n = true := by rfl) : Ch P n ops w (⟨some dd, .binOp .neq t x y t2, tt, pos, af, none⟩ :: L) T L' T' := .c ht (fun _ h => y_neq h hx hy) tl
theorem Ch.neqZ (hx : evT T x = some (.int k p)) (hy : evT T y = some (.int k q)) {j tg : Nat} {bb : Bool} (tl : Ch P n ops w L ((dd, (.bool (decide (p ≠ q)))) :: T) L' T') (hj : (ops[j]?).bind (·.dst) = some tg := by rfl) (hb : lk T tg = some (.bool bb) := by rfl) (ht2 : Nat.blt tg n = true := by rfl) (ht : Nat.blt dd n = true := by rfl) : Ch P n ops w (⟨some dd, .binOp .neq t x y t2, tt, pos, af, some (j, bb)⟩ :: L) T L' T' := .g hj hb ht2 ht (fun _ h => y_neq h hx hy) tl
theorem Ch.eqlSZ {b c : ByteArray} (hx : evT T x = some (.string b)) (hy : evT T y = some (.string c)) {j tg : Nat} {bb : Bool} (tl : Ch P n ops w L ((dd, (.bool (b.toList == c.toList))) :: T) L' T') (hj : (ops[j]?).bind (·.dst) = some tg := by rfl) (hb : lk T tg = some (.bool bb) := by rfl) (ht2 : Nat.blt tg n = true := by rfl) (ht : Nat.blt dd n = true := by rfl) : Ch P n ops w (⟨some dd, .binOp .eql t x y t2, tt, pos, af, some (j, bb)⟩ :: L) T L' T' := .g hj hb ht2 ht (fun _ h => y_eqlS h hx hy) tl
theorem Ch.neqS {b c : ByteArray} (hx : evT T x = some (.string b)) (hy : evT T y = some (.string c)) (tl : Ch P n ops w L ((dd, (.bool (!(b.toList == c.toList)))) :: T) L' T') (ht : Nat.blt dd n = true := by rfl) : Ch P n ops w (⟨some dd, .binOp .neq t x y t2, tt, pos, af, none⟩ :: L) T L' T' := .c ht (fun _ h => y_neqS h hx hy) tl
theorem Ch.neqSZ {b c : ByteArray} (hx : evT T x = some (.string b)) (hy : evT T y = some (.string c)) {j tg : Nat} {bb : Bool} (tl : Ch P n ops w L ((dd, (.bool (!(b.toList == c.toList)))) :: T) L' T') (hj : (ops[j]?).bind (·.dst) = some tg := by rfl) (hb : lk T tg = some (.bool bb) := by rfl) (ht2 : Nat.blt tg n = true := by rfl) (ht : Nat.blt dd n = true := by rfl) : Ch P n ops w (⟨some dd, .binOp .neq t x y t2, tt, pos, af, some (j, bb)⟩ :: L) T L' T' := .g hj hb ht2 ht (fun _ h => y_neqS h hx hy) tl
theorem Ch.conv {s e : TypeId} {k' : IntKind} {ds : TypeDesc} (hx : evT T x = some (.int k p)) (hs : P.underlying s = some ds) (hd : P.underlying e = some (.int k')) (hr : k'.wrap p = r) (tl : Ch P n ops w L ((dd, (.int k' r)) :: T) L' T') (ht : Nat.blt dd n = true := by rfl) : Ch P n ops w (⟨some dd, .convert s e x, tt, pos, af, none⟩ :: L) T L' T' := .c ht (fun _ h => y_conv h hx hs hd hr) tl
theorem Ch.extract {x : Operand} {vs : Array Value} {i : Nat} {v : Value} (hx : evT T x = some (.tuple vs)) (hv : nthL vs.toList i = some v) (tl : Ch P n ops w L ((dd, v) :: T) L' T') (ht : Nat.blt dd n = true := by rfl) : Ch P n ops w (⟨some dd, .extract x i, tt, pos, af, none⟩ :: L) T L' T' := .c ht (fun _ h => y_extract h hx hv) tl
theorem Ch.nilCheck {x : Operand} {p : Addr} (hx : evT T x = some (.pointer (some p))) (tl : Ch P n ops w L ((dd, (.pointer (some p))) :: T) L' T') (ht : Nat.blt dd n = true := by rfl) : Ch P n ops w (⟨some dd, .nilCheck x, tt, pos, af, none⟩ :: L) T L' T' := .c ht (fun _ h => y_nilCheck h hx) tl
theorem Ch.nilCheckZ {x : Operand} {p : Addr} (hx : evT T x = some (.pointer (some p))) {j tg : Nat} {bb : Bool} (tl : Ch P n ops w L ((dd, (.pointer (some p))) :: T) L' T') (hj : (ops[j]?).bind (·.dst) = some tg := by rfl) (hb : lk T tg = some (.bool bb) := by rfl) (ht2 : Nat.blt tg n = true := by rfl) (ht : Nat.blt dd n = true := by rfl) : Ch P n ops w (⟨some dd, .nilCheck x, tt, pos, af, some (j, bb)⟩ :: L) T L' T' := .g hj hb ht2 ht (fun _ h => y_nilCheck h hx) tl
theorem Ch.fieldAddr {t : TypeId} {x : Operand} {i g o : Nat} {fs : Array Field} {f : Field} {s off : Nat} (hx : evT T x = some (.pointer (some ⟨g, o, none⟩))) (hu : P.underlying t = some (.struct fs)) (hf : fs[i]? = some f) (hs : (P.info? f.type).map (·.size) = some (s + 1)) (ho : o + f.offset = off) (tl : Ch P n ops w L ((dd, (.pointer (some ⟨g, off, none⟩))) :: T) L' T') (ht : Nat.blt dd n = true := by rfl) : Ch P n ops w (⟨some dd, .fieldAddr t x i, tt, pos, af, none⟩ :: L) T L' T' := .c ht (fun _ h => y_fieldAddr h hx hu hf hs ho) tl
theorem Ch.fieldAddrZ {t : TypeId} {x : Operand} {i g o : Nat} {fs : Array Field} {f : Field} {s off : Nat} (hx : evT T x = some (.pointer (some ⟨g, o, none⟩))) (hu : P.underlying t = some (.struct fs)) (hf : fs[i]? = some f) (hs : (P.info? f.type).map (·.size) = some (s + 1)) (ho : o + f.offset = off) {j tg : Nat} {bb : Bool} (tl : Ch P n ops w L ((dd, (.pointer (some ⟨g, off, none⟩))) :: T) L' T') (hj : (ops[j]?).bind (·.dst) = some tg := by rfl) (hb : lk T tg = some (.bool bb) := by rfl) (ht2 : Nat.blt tg n = true := by rfl) (ht : Nat.blt dd n = true := by rfl) : Ch P n ops w (⟨some dd, .fieldAddr t x i, tt, pos, af, some (j, bb)⟩ :: L) T L' T' := .g hj hb ht2 ht (fun _ h => y_fieldAddr h hx hu hf hs ho) tl
theorem Ch.fieldAddrQ {t : TypeId} {x : Operand} {i g o : Nat} {fs : Array Field} {f : Field} {s : Nat} (q : Nat) (hx : evT T x = some (.pointer (some ⟨g, o, none⟩))) (hu : P.underlying t = some (.struct fs)) (hf : fs[i]? = some f) (hs : (P.info? f.type).map (·.size) = some (s + 1)) (hq : f.offset = q) (tl : Ch P n ops w L ((dd, (.pointer (some ⟨g, o + q, none⟩))) :: T) L' T') (ht : Nat.blt dd n = true := by rfl) : Ch P n ops w (⟨some dd, .fieldAddr t x i, tt, pos, af, none⟩ :: L) T L' T' := .c ht (fun _ h => y_fieldAddrQ h q hx hu hf hs hq) tl
theorem Ch.fieldAddrQZ {t : TypeId} {x : Operand} {i g o : Nat} {fs : Array Field} {f : Field} {s : Nat} (q : Nat) (hx : evT T x = some (.pointer (some ⟨g, o, none⟩))) (hu : P.underlying t = some (.struct fs)) (hf : fs[i]? = some f) (hs : (P.info? f.type).map (·.size) = some (s + 1)) (hq : f.offset = q) {j tg : Nat} {bb : Bool} (tl : Ch P n ops w L ((dd, (.pointer (some ⟨g, o + q, none⟩))) :: T) L' T') (hj : (ops[j]?).bind (·.dst) = some tg := by rfl) (hb : lk T tg = some (.bool bb) := by rfl) (ht2 : Nat.blt tg n = true := by rfl) (ht : Nat.blt dd n = true := by rfl) : Ch P n ops w (⟨some dd, .fieldAddr t x i, tt, pos, af, some (j, bb)⟩ :: L) T L' T' := .g hj hb ht2 ht (fun _ h => y_fieldAddrQ h q hx hu hf hs hq) tl
theorem Ch.build {t : TypeId} {parts : Array (Nat × Operand)} {z cs : List Value} {pl : List (Nat × Value)} (hp : K.evP T parts.toList = some pl) (hz : ((P.info? t).bind (·.zero)).map (·.cells.toList) = some z) (hf : flatS P t z = true) (h1 : pl.all (fun p => decide (p.1 < z.length) && p.2.oneCell') = true) (hc : setL z pl = cs) (tl : Ch P n ops w L ((dd, (.agg cs.toArray)) :: T) L' T') (ht : Nat.blt dd n = true := by rfl) : Ch P n ops w (⟨some dd, .build t parts, tt, pos, af, none⟩ :: L) T L' T' := .c ht (fun _ h => y_build h hp hz hf h1 hc) tl
theorem Ch.loadB1 (m : MemOk X w0 M w) {t : TypeId} {td : TypeDesc} {x : Operand} {i g o : Nat} {e : TypeId} {cs : List Value} {v : Value} (hm : lk M i = some (.box g e cs)) (hx : evT T x = some (.pointer (some ⟨g, o, none⟩))) (hv : cs[o]? = some v) (hu : P.underlying t = some td) (hr : td.isRow = false) (tl : Ch P n ops w L ((dd, v) :: T) L' T') (ht : Nat.blt dd n = true := by rfl) : Ch P n ops w (⟨some dd, .load t x, tt, pos, af, none⟩ :: L) T L' T' := .c ht (fun _ h => y_loadB1 h m hm hx hv hu hr) tl
theorem Ch.loadB1Z (m : MemOk X w0 M w) {t : TypeId} {td : TypeDesc} {x : Operand} {i g o : Nat} {e : TypeId} {cs : List Value} {v : Value} (hm : lk M i = some (.box g e cs)) (hx : evT T x = some (.pointer (some ⟨g, o, none⟩))) (hv : cs[o]? = some v) (hu : P.underlying t = some td) (hr : td.isRow = false) {j tg : Nat} {bb : Bool} (tl : Ch P n ops w L ((dd, v) :: T) L' T') (hj : (ops[j]?).bind (·.dst) = some tg := by rfl) (hb : lk T tg = some (.bool bb) := by rfl) (ht2 : Nat.blt tg n = true := by rfl) (ht : Nat.blt dd n = true := by rfl) : Ch P n ops w (⟨some dd, .load t x, tt, pos, af, some (j, bb)⟩ :: L) T L' T' := .g hj hb ht2 ht (fun _ h => y_loadB1 h m hm hx hv hu hr) tl
theorem Ch.loadBR (m : MemOk X w0 M w) {t : TypeId} {td : TypeDesc} {x : Operand} {i g o k : Nat} {e : TypeId} {cs vs : List Value} (hm : lk M i = some (.box g e cs)) (hx : evT T x = some (.pointer (some ⟨g, o, none⟩))) (hu : P.underlying t = some td) (hr : td.isRow = true) (hs : (P.info? t).map (·.size) = some k) (hk : o + k ≤ cs.length) (hv : (cs.drop o).take k = vs) (tl : Ch P n ops w L ((dd, (.agg vs.toArray)) :: T) L' T') (ht : Nat.blt dd n = true := by rfl) : Ch P n ops w (⟨some dd, .load t x, tt, pos, af, none⟩ :: L) T L' T' := .c ht (fun _ h => y_loadBR h m hm hx hu hr hs hk hv) tl
theorem Ch.loadBRZ (m : MemOk X w0 M w) {t : TypeId} {td : TypeDesc} {x : Operand} {i g o k : Nat} {e : TypeId} {cs vs : List Value} (hm : lk M i = some (.box g e cs)) (hx : evT T x = some (.pointer (some ⟨g, o, none⟩))) (hu : P.underlying t = some td) (hr : td.isRow = true) (hs : (P.info? t).map (·.size) = some k) (hk : o + k ≤ cs.length) (hv : (cs.drop o).take k = vs) {j tg : Nat} {bb : Bool} (tl : Ch P n ops w L ((dd, (.agg vs.toArray)) :: T) L' T') (hj : (ops[j]?).bind (·.dst) = some tg := by rfl) (hb : lk T tg = some (.bool bb) := by rfl) (ht2 : Nat.blt tg n = true := by rfl) (ht : Nat.blt dd n = true := by rfl) : Ch P n ops w (⟨some dd, .load t x, tt, pos, af, some (j, bb)⟩ :: L) T L' T' := .g hj hb ht2 ht (fun _ h => y_loadBR h m hm hx hu hr hs hk hv) tl
theorem Ch.loadC1 (m : MemOk X w0 M w) {t : TypeId} {td : TypeDesc} {x : Operand} {i b o q : Nat} {vs : List Value} {v : Value} (hm : lk M i = some (.cel b o vs)) (hx : evT T x = some (.pointer (some ⟨b, o + q, none⟩))) (hv : vs[q]? = some v) (hu : P.underlying t = some td) (hr : td.isRow = false) (tl : Ch P n ops w L ((dd, v) :: T) L' T') (ht : Nat.blt dd n = true := by rfl) : Ch P n ops w (⟨some dd, .load t x, tt, pos, af, none⟩ :: L) T L' T' := .c ht (fun _ h => y_loadC1 h m hm hx hv hu hr) tl
theorem Ch.loadC1Z (m : MemOk X w0 M w) {t : TypeId} {td : TypeDesc} {x : Operand} {i b o q : Nat} {vs : List Value} {v : Value} (hm : lk M i = some (.cel b o vs)) (hx : evT T x = some (.pointer (some ⟨b, o + q, none⟩))) (hv : vs[q]? = some v) (hu : P.underlying t = some td) (hr : td.isRow = false) {j tg : Nat} {bb : Bool} (tl : Ch P n ops w L ((dd, v) :: T) L' T') (hj : (ops[j]?).bind (·.dst) = some tg := by rfl) (hb : lk T tg = some (.bool bb) := by rfl) (ht2 : Nat.blt tg n = true := by rfl) (ht : Nat.blt dd n = true := by rfl) : Ch P n ops w (⟨some dd, .load t x, tt, pos, af, some (j, bb)⟩ :: L) T L' T' := .g hj hb ht2 ht (fun _ h => y_loadC1 h m hm hx hv hu hr) tl
theorem Ch.loadC0 (m : MemOk X w0 M w) {t : TypeId} {td : TypeDesc} {x : Operand} {i b o : Nat} {vs : List Value} {v : Value} (hm : lk M i = some (.cel b o (v :: vs))) (hx : evT T x = some (.pointer (some ⟨b, o, none⟩))) (hu : P.underlying t = some td) (hr : td.isRow = false) (tl : Ch P n ops w L ((dd, v) :: T) L' T') (ht : Nat.blt dd n = true := by rfl) : Ch P n ops w (⟨some dd, .load t x, tt, pos, af, none⟩ :: L) T L' T' := .c ht (fun _ h => y_loadC0 h m hm hx hu hr) tl
theorem Ch.loadC0Z (m : MemOk X w0 M w) {t : TypeId} {td : TypeDesc} {x : Operand} {i b o : Nat} {vs : List Value} {v : Value} (hm : lk M i = some (.cel b o (v :: vs))) (hx : evT T x = some (.pointer (some ⟨b, o, none⟩))) (hu : P.underlying t = some td) (hr : td.isRow = false) {j tg : Nat} {bb : Bool} (tl : Ch P n ops w L ((dd, v) :: T) L' T') (hj : (ops[j]?).bind (·.dst) = some tg := by rfl) (hb : lk T tg = some (.bool bb) := by rfl) (ht2 : Nat.blt tg n = true := by rfl) (ht : Nat.blt dd n = true := by rfl) : Ch P n ops w (⟨some dd, .load t x, tt, pos, af, some (j, bb)⟩ :: L) T L' T' := .g hj hb ht2 ht (fun _ h => y_loadC0 h m hm hx hu hr) tl
theorem Ch.loadCR (m : MemOk X w0 M w) {t : TypeId} {td : TypeDesc} {x : Operand} {i b o : Nat} {vs : List Value} (hm : lk M i = some (.cel b o vs)) (hx : evT T x = some (.pointer (some ⟨b, o, none⟩))) (hu : P.underlying t = some td) (hr : td.isRow = true) (hs : (P.info? t).map (·.size) = some vs.length) (tl : Ch P n ops w L ((dd, (.agg vs.toArray)) :: T) L' T') (ht : Nat.blt dd n = true := by rfl) : Ch P n ops w (⟨some dd, .load t x, tt, pos, af, none⟩ :: L) T L' T' := .c ht (fun _ h => y_loadCR h m hm hx hu hr hs) tl
theorem Ch.str {s t e : TypeId} {x : Operand} {v : Value} {bs : List Int} (hx : evT T x = some v) (hv : IsNums .u8 w v bs) (hs : P.underlying s = some (.slice e)) (he : P.underlying e = some (.int .u8)) (hd : P.underlying t = some .string) (tl : Ch P n ops w L ((dd, (.string (strOfNums bs))) :: T) L' T') (ht : Nat.blt dd n = true := by rfl) : Ch P n ops w (⟨some dd, .convert s t x, tt, pos, af, none⟩ :: L) T L' T' := .c ht (fun _ h => y_str h hx hv hs he hd) tl
theorem Ch.strZ {s t e : TypeId} {x : Operand} {v : Value} {bs : List Int} (hx : evT T x = some v) (hv : IsNums .u8 w v bs) (hs : P.underlying s = some (.slice e)) (he : P.underlying e = some (.int .u8)) (hd : P.underlying t = some .string) {j tg : Nat} {bb : Bool} (tl : Ch P n ops w L ((dd, (.string (strOfNums bs))) :: T) L' T') (hj : (ops[j]?).bind (·.dst) = some tg := by rfl) (hb : lk T tg = some (.bool bb) := by rfl) (ht2 : Nat.blt tg n = true := by rfl) (ht : Nat.blt dd n = true := by rfl) : Ch P n ops w (⟨some dd, .convert s t x, tt, pos, af, some (j, bb)⟩ :: L) T L' T' := .g hj hb ht2 ht (fun _ h => y_str h hx hv hs he hd) tl
theorem Ch.loadAt {t : TypeId} {td : TypeDesc} {x : Operand} {b o : Nat} {vs : List Value} (hr : w.rangeAt b o vs) (hx : evT T x = some (.pointer (some ⟨b, o, none⟩))) (hu : P.underlying t = some td) (hd : td.isRow = true) (hs : (P.info? t).map (·.size) = some vs.length) (tl : Ch P n ops w L ((dd, (.agg vs.toArray)) :: T) L' T') (ht : Nat.blt dd n = true := by rfl) : Ch P n ops w (⟨some dd, .load t x, tt, pos, af, none⟩ :: L) T L' T' := .c ht (fun _ h => y_loadAt h hr hx hu hd hs) tl
theorem Ch.loadAtZ {t : TypeId} {td : TypeDesc} {x : Operand} {b o : Nat} {vs : List Value} (hr : w.rangeAt b o vs) (hx : evT T x = some (.pointer (some ⟨b, o, none⟩))) (hu : P.underlying t = some td) (hd : td.isRow = true) (hs : (P.info? t).map (·.size) = some vs.length) {j tg : Nat} {bb : Bool} (tl : Ch P n ops w L ((dd, (.agg vs.toArray)) :: T) L' T') (hj : (ops[j]?).bind (·.dst) = some tg := by rfl) (hb : lk T tg = some (.bool bb) := by rfl) (ht2 : Nat.blt tg n = true := by rfl) (ht : Nat.blt dd n = true := by rfl) : Ch P n ops w (⟨some dd, .load t x, tt, pos, af, some (j, bb)⟩ :: L) T L' T' := .g hj hb ht2 ht (fun _ h => y_loadAt h hr hx hu hd hs) tl
theorem Ch.loadAt1 {t : TypeId} {td : TypeDesc} {x : Operand} {b o q q' : Nat} {vs : List Value} {v : Value} (hr : w.rangeAt b o vs) (hx : evT T x = some (.pointer (some ⟨b, q', none⟩))) (hq : q' = o + q) (hv : nthL vs q = some v) (hu : P.underlying t = some td) (hd : td.isRow = false) (tl : Ch P n ops w L ((dd, v) :: T) L' T') (ht : Nat.blt dd n = true := by rfl) : Ch P n ops w (⟨some dd, .load t x, tt, pos, af, none⟩ :: L) T L' T' := .c ht (fun _ h => y_loadAt1 h hr hx hq hv hu hd) tl
theorem Ch.loadAt1Z {t : TypeId} {td : TypeDesc} {x : Operand} {b o q q' : Nat} {vs : List Value} {v : Value} (hr : w.rangeAt b o vs) (hx : evT T x = some (.pointer (some ⟨b, q', none⟩))) (hq : q' = o + q) (hv : nthL vs q = some v) (hu : P.underlying t = some td) (hd : td.isRow = false) {j tg : Nat} {bb : Bool} (tl : Ch P n ops w L ((dd, v) :: T) L' T') (hj : (ops[j]?).bind (·.dst) = some tg := by rfl) (hb : lk T tg = some (.bool bb) := by rfl) (ht2 : Nat.blt tg n = true := by rfl) (ht : Nat.blt dd n = true := by rfl) : Ch P n ops w (⟨some dd, .load t x, tt, pos, af, some (j, bb)⟩ :: L) T L' T' := .g hj hb ht2 ht (fun _ h => y_loadAt1 h hr hx hq hv hu hd) tl
theorem Ch.cap {t e : TypeId} {x : Operand} {p : Option Addr} {l c : Nat} (hx : evT T x = some (.slice p l c)) (hu : P.underlying t = some (.slice e)) (tl : Ch P n ops w L ((dd, (.int .i64 c)) :: T) L' T') (ht : Nat.blt dd n = true := by rfl) : Ch P n ops w (⟨some dd, .call { callee := .builtin .cap, args := #[x], argTypes := #[t] }, tt, pos, af, none⟩ :: L) T L' T' := .c ht (fun _ h => y_cap h hx hu) tl
theorem Ch.loadSVZ (m : MemOk X w0 M w) {t : TypeId} {td : TypeDesc} {x : Operand} {i g o l c mm : Nat} {e : TypeId} {rows : List (List D)} (hm : lk M i = some (.seg (.slice (some ⟨g, o, none⟩) l c) e mm rows)) (J : Nat) {r : List D} (hr : rows[J]? = some r) {q q' : Nat} {v : Value} (hq : nthL r q = some (.v v)) (hx : evT T x = some (.pointer (some ⟨g, q', none⟩))) (hq' : q' = o + J * mm + q) (hu : P.underlying t = some td) (hd : td.isRow = false) {j tg : Nat} {bb : Bool} (tl : Ch P n ops w L ((dd, v) :: T) L' T') (hj : (ops[j]?).bind (·.dst) = some tg := by rfl) (hb : lk T tg = some (.bool bb) := by rfl) (ht2 : Nat.blt tg n = true := by rfl) (ht : Nat.blt dd n = true := by rfl) : Ch P n ops w (⟨some dd, .load t x, tt, pos, af, some (j, bb)⟩ :: L) T L' T' := .g hj hb ht2 ht (fun _ h => y_loadSV h m hm J hr hq hx hq' hu hd) tl
theorem Ch.sk {op : Op} {j tg : Nat} {bb : Bool} (tl : Ch P n ops w L ((dd, undef) :: T) L' T') (hj : (ops[j]?).bind (·.dst) = some tg := by rfl) (hb : lk T tg = some (.bool !bb) := by rfl) (ht2 : Nat.blt tg n = true := by rfl) (ht : Nat.blt dd n = true := by rfl) : Ch P n ops w (⟨some dd, op, tt, pos, af, some (j, bb)⟩ :: L) T L' T' := .s hj hb ht2 ht tl
end
/-! shorter -/
theorem znl {P : Program} {ops : Array Oper} {Q : Exit → Act → World → Prop} {a : Act} {w : World} (h : Q .normal a w) : wpList P ops Q [] a w := h
theorem zsr {P : Program} {id : Nat} {l : List Oper} {y : Code} {Q : Exit → Act → World → Prop} {a : Act} {w : World} (h : ∀ K : Act → World → Prop, (∀ a w, y.wp P Q a w → K a w) → wpList P l.toArray (Exit.then K Q) l a w) : ((Code.region id l.toArray false).seq y).wp P Q a w := wp_seq_k fun K hK => wp_region_lit (h K hK)
theorem zss {P : Program} {Q : Exit → Act → World → Prop} {a : Act} {w : World} (h : Q .normal a w) : Code.skip.wp P Q a w := wp_skip h
theorem ent0 {P : Program} {f : FuncId} {fn : Func} {c : Code} {w : World} {R : Ending → World → Prop} {N : Nat} (hf : P.funcs[f]? = some fn) (hb : fn.body = some c) (hN : fn.ntmps = N) (h : ∀ a, Has N [] a → c.wp P (bodyPost P fn R) a w) (hl : Nat.ble 0 N = true := by rfl) : Calls P f #[] w R := enter hf hb hN hl h
theorem ent1 {P : Program} {f : FuncId} {fn : Func} {c : Code} {x0 : Value} {w : World} {R : Ending → World → Prop} {N : Nat} (hf : P.funcs[f]? = some fn) (hb : fn.body = some c) (hN : fn.ntmps = N) (h : ∀ a, Has N [(0, x0)] a → c.wp P (bodyPost P fn R) a w) (hl : Nat.ble 1 N = true := by rfl) : Calls P f #[x0] w R := enter hf hb hN hl h
theorem ent2 {P : Program} {f : FuncId} {fn : Func} {c : Code} {x0 x1 : Value} {w : World} {R : Ending → World → Prop} {N : Nat} (hf : P.funcs[f]? = some fn) (hb : fn.body = some c) (hN : fn.ntmps = N) (h : ∀ a, Has N [(0, x0), (1, x1)] a → c.wp P (bodyPost P fn R) a w) (hl : Nat.ble 2 N = true := by rfl) : Calls P f #[x0, x1] w R := enter hf hb hN hl h
theorem ent3 {P : Program} {f : FuncId} {fn : Func} {c : Code} {x0 x1 x2 : Value} {w : World} {R : Ending → World → Prop} {N : Nat} (hf : P.funcs[f]? = some fn) (hb : fn.body = some c) (hN : fn.ntmps = N) (h : ∀ a, Has N [(0, x0), (1, x1), (2, x2)] a → c.wp P (bodyPost P fn R) a w) (hl : Nat.ble 3 N = true := by rfl) : Calls P f #[x0, x1, x2] w R := enter hf hb hN hl h
theorem ent5 {P : Program} {f : FuncId} {fn : Func} {c : Code} {x0 x1 x2 x3 x4 : Value} {w : World} {R : Ending → World → Prop} {N : Nat} (hf : P.funcs[f]? = some fn) (hb : fn.body = some c) (hN : fn.ntmps = N) (h : ∀ a, Has N [(0, x0), (1, x1), (2, x2), (3, x3), (4, x4)] a → c.wp P (bodyPost P fn R) a w) (hl : Nat.ble 5 N = true := by rfl) : Calls P f #[x0, x1, x2, x3, x4] w R := enter hf hb hN hl h
theorem ent6 {P : Program} {f : FuncId} {fn : Func} {c : Code} {x0 x1 x2 x3 x4 x5 : Value} {w : World} {R : Ending → World → Prop} {N : Nat} (hf : P.funcs[f]? = some fn) (hb : fn.body = some c) (hN : fn.ntmps = N) (h : ∀ a, Has N [(0, x0), (1, x1), (2, x2), (3, x3), (4, x4), (5, x5)] a → c.wp P (bodyPost P fn R) a w) (hl : Nat.ble 6 N = true := by rfl) : Calls P f #[x0, x1, x2, x3, x4, x5] w R := enter hf hb hN hl h
section
variable {P : Program} {n : Nat} {ops : Array Oper} {L L' : List Oper} {T T' : List (Nat × Value)} {w w0 : World} {X : Cx} {M : Mm} {dd : Tmp} {tt : TypeId} {pos : String} {af : Array Edge}
theorem Ch.fa {t : TypeId} {x : Operand} {i g o : Nat} {fs : Array Field} {f : Field} (off : Nat) (hx : evT T x = some (.pointer (some ⟨g, o, none⟩))) (hu : P.underlying t = some (.struct fs)) (tl : Ch P n ops w L ((dd, (.pointer (some ⟨g, off, none⟩))) :: T) L' T') (hf : fs[i]? = some f := by rfl) (hs : (P.info? f.type).map (·.size) = some (0 + 1) := by kernel_rfl) (ho : o + f.offset = off := by rfl) (ht : Nat.blt dd n = true := by rfl) : Ch P n ops w (⟨some dd, .fieldAddr t x i, tt, pos, af, none⟩ :: L) T L' T' := .c ht (fun _ h => y_fieldAddr h hx hu hf hs ho) tl
theorem Ch.faZ {t : TypeId} {x : Operand} {i g o : Nat} {fs : Array Field} {f : Field} (off : Nat) (hx : evT T x = some (.pointer (some ⟨g, o, none⟩))) (hu : P.underlying t = some (.struct fs)) {j tg : Nat} {bb : Bool} (tl : Ch P n ops w L ((dd, (.pointer (some ⟨g, off, none⟩))) :: T) L' T') (hf : fs[i]? = some f := by rfl) (hs : (P.info? f.type).map (·.size) = some (0 + 1) := by kernel_rfl) (ho : o + f.offset = off := by rfl) (hj : (ops[j]?).bind (·.dst) = some tg := by rfl) (hb : lk T tg = some (.bool bb) := by rfl) (ht2 : Nat.blt tg n = true := by rfl) (ht : Nat.blt dd n = true := by rfl) : Ch P n ops w (⟨some dd, .fieldAddr t x i, tt, pos, af, some (j, bb)⟩ :: L) T L' T' := .g hj hb ht2 ht (fun _ h => y_fieldAddr h hx hu hf hs ho) tl
theorem Ch.lb (m : MemOk X w0 M w) (i : Nat) {t : TypeId} {td : TypeDesc} {x : Operand} {g o : Nat} {e : TypeId} {cs : List Value} {v : Value} (hu : P.underlying t = some td) (hx : evT T x = some (.pointer (some ⟨g, o, none⟩))) (hm : lk M i = some (.box g e cs)) (hv : cs[o]? = some v) (tl : Ch P n ops w L ((dd, v) :: T) L' T') (hr : td.isRow = false := by rfl) (ht : Nat.blt dd n = true := by rfl) : Ch P n ops w (⟨some dd, .load t x, tt, pos, af, none⟩ :: L) T L' T' := .c ht (fun _ h => y_loadB1 h m hm hx hv hu hr) tl
end
theorem U2 : type_of% Tryd.underlying2 := Tryd.underlying2
theorem U3 : type_of% Tryd.underlying3 := Tryd.underlying3
theorem U4 : type_of% Tryd.underlying4 := Tryd.underlying4
theorem U5 : type_of% Tryd.underlying5 := Tryd.underlying5
theorem U9 : type_of% Tryd.underlying9 := Tryd.underlying9
theorem U22 : type_of% Tryd.underlying22 := Tryd.underlying22
theorem U25 : type_of% Tryd.underlying25 := Tryd.underlying25
theorem U26 : type_of% Tryd.underlying26 := Tryd.underlying26
theorem U27 : type_of% Tryd.underlying27 := Tryd.underlying27
theorem U28 : type_of% Tryd.underlying28 := Tryd.underlying28
theorem U30 : type_of% Tryd.underlying30 := Tryd.underlying30
theorem U33 : type_of% Tryd.underlying33 := Tryd.underlying33
theorem U35 : type_of% Tryd.underlying35 := Tryd.underlying35
theorem U40 : type_of% Tryd.underlying40 := Tryd.underlying40
theorem U58 : type_of% Tryd.underlying58 := Tryd.underlying58
theorem U64 : type_of% Tryd.underlying64 := Tryd.underlying64
theorem U71 : type_of% Tryd.underlying71 := Tryd.underlying71
theorem U80 : type_of% Tryd.underlying80 := Tryd.underlying80
theorem U82 : type_of% Tryd.underlying82 := Tryd.underlying82
theorem U87 : type_of% Tryd.underlying87 := Tryd.underlying87
theorem U90 : type_of% Tryd.underlying90 := Tryd.underlying90
theorem U96 : type_of% Tryd.underlying96 := Tryd.underlying96
theorem U100 : type_of% Tryd.underlying100 := Tryd.underlying100
theorem U111 : type_of% Tryd.underlying111 := Tryd.underlying111
theorem fct0 : (Tryd.prog.info? 5).map (fun i => (i.zero, i.size, i.bytes)) = some (some (.int .u8 0), 1, 1) := by kernel_rfl
theorem fct1 : (Tryd.prog.info? 22).map (·.size) = some 1 := by kernel_rfl
theorem fct2 : (Tryd.prog.info? 58).map (·.size) = some 2 := by kernel_rfl
theorem fct3 : ((Tryd.prog.info? 58).bind (·.zero)).map (·.cells.toList) = some [.int .i64 0, .slice none 0 0] := by kernel_rfl
theorem fct4 : (Tryd.prog.info? 58).map (fun i => (i.zero, i.size, i.bytes)) = some (some (.agg #[.int .i64 0, .slice none 0 0]), 2, 32) := by kernel_rfl
theorem fct5 : (Tryd.prog.info? 96).map (·.size) = some 4 := by kernel_rfl
theorem fct6 : ((Tryd.prog.info? 96).bind (·.zero)).map (·.cells.toList) = some [.int .i64 0, .int .i64 0, .int .i64 0, .int .i64 0] := by kernel_rfl
theorem fct7 : (Tryd.prog.info? 35).map (·.size) = some 5 := by kernel_rfl
theorem fct8 : (Tryd.prog.info? 3).map (·.size) = some 1 := by kernel_rfl
theorem fct9 : (Tryd.prog.info? 3).map (fun i => (i.zero, i.size, i.bytes)) = some (some (.int .i64 0), 1, 8) := by kernel_rfl
theorem fct10 : (Tryd.prog.info? 30).map (·.size) = some 11 := by kernel_rfl
theorem fct11 : (Tryd.prog.info? 87).map (·.size) = some 10 := by kernel_rfl
theorem fct12 : ((Tryd.prog.info? 30).bind (·.zero)).map (·.cells.toList) = some [.int .i64 0, .int .i64 0, .int .i64 0, .int .i64 0, .slice none 0 0, .int .i64 0, .int .i64 0, .bool false, .int .i64 0, .slice none 0 0, .slice none 0 0] := by kernel_rfl
theorem fct13 : (Tryd.prog.info? 26).map (·.size) = some 1 := by kernel_rfl
theorem fct14 : ((Tryd.prog.info? 87).bind (·.zero)).map (·.cells.toList) = some [.int .i64 0, .int .i64 0, .int .i64 0, .int .i64 0, .int .i64 0, .slice none 0 0, .int .i64 0, .int .i64 0, .int .i64 0, .slice none 0 0] := by kernel_rfl
theorem fct15 : (Tryd.prog.info? 5).map (·.size) = some 1 := by kernel_rfl
theorem fct16 : (Tryd.prog.info? 30).map (fun i => (i.zero, i.size, i.bytes)) = some (some (.agg #[.int .i64 0, .int .i64 0, .int .i64 0, .int .i64 0, .slice none 0 0, .int .i64 0, .int .i64 0, .bool false, .int .i64 0, .slice none 0 0, .slice none 0 0]), 11, 136) := by kernel_rfl
theorem fct17 : (Tryd.prog.info? 80).map (·.size) = some 1 := by kernel_rfl
theorem fct18 : (Tryd.prog.info? 90).map (·.size) = some 5 := by kernel_rfl
theorem fct19 : ((Tryd.prog.info? 90).bind (·.zero)).map (·.cells.toList) = some [.int .i64 0, .int .i64 0, .int .i64 0, .int .i64 0, .slice none 0 0] := by kernel_rfl
theorem fct20 : (Tryd.prog.info? 35).map (fun i => (i.zero, i.size, i.bytes)) = some (some (.agg #[.int .i64 0, .int .i64 0, .int .i64 0, .int .i64 0, .slice none 0 0]), 5, 56) := by kernel_rfl
theorem fct21 : ((Tryd.prog.info? 35).bind (·.zero)).map (·.cells.toList) = some [.int .i64 0, .int .i64 0, .int .i64 0, .int .i64 0, .slice none 0 0] := by kernel_rfl
theorem fct22 : (Tryd.prog.info? 2).map (fun i => (i.zero, i.size, i.bytes)) = some (some (.int .i64 0), 1, 8) := by kernel_rfl
theorem fct23 : (Tryd.prog.info? 2).map (·.size) = some 1 := by kernel_rfl
theorem fct24 : (Tryd.prog.info? 64).map (fun i => (i.zero, i.size, i.bytes)) = some (some (.agg #[.int .i64 0, .slice none 0 0]), 2, 32) := by kernel_rfl
theorem fct25 : (Tryd.prog.info? 28).map (·.size) = some 1 := by kernel_rfl
theorem fct26 : ((Tryd.prog.info? 64).bind (·.zero)).map (·.cells.toList) = some [.int .i64 0, .slice none 0 0] := by kernel_rfl
theorem fct27 : (Tryd.prog.info? 33).map (·.size) = some 1 := by kernel_rfl
theorem fct28 : (Tryd.prog.info? 4).map (·.size) = some 1 := by kernel_rfl
theorem fct29 : (Tryd.prog.info? 27).map (·.size) = some 1 := by kernel_rfl
theorem fct30 : (Tryd.prog.info? 22).map (fun i => (i.zero, i.size, i.bytes)) = some (some (.slice none 0 0), 1, 24) := by kernel_rfl
theorem fct31 : ((Tryd.prog.info? 111).bind (·.zero)).map (·.cells.toList) = some [.slice none 0 0, .int .i64 0] := by kernel_rfl
theorem fct32 : (Tryd.prog.info? 71).map (·.size) = some 1 := by kernel_rfl
theorem fct33 : (Tryd.prog.info? 71).map (fun i => (i.zero, i.size, i.bytes)) = some (some (.int .u64 0), 1, 8) := by kernel_rfl
theorem fct34 : (Tryd.prog.info? 64).map (·.size) = some 2 := by kernel_rfl
theorem fct35 : ((Tryd.prog.info? 82).bind (·.zero)).map (·.cells.toList) = some [.slice none 0 0] := by kernel_rfl
end Go.Proofs.YtflcgpajodfkoaaDoor.K
end
section
namespace Go.Proofs.YtflcgpajodfkoaaDoor.K
open Go.ChangeShapes Go.WideShapes Go.ChangeAt Go.RowKit
set_option linter.unusedVariables false
set_option linter.unusedSimpArgs false
def gdB (ops : Array Oper) (n : Nat) (T : List (Nat × Value)) : Option (Nat × Bool) → Bool
 | none => true
 | some (j, b) => match (ops[j]?).bind (·.dst) with
   | some t => Nat.blt t n && match lk T t with
     | some (.bool x) => x == b
     | _ => false
   | none => false
theorem gd_wanted {ops : Array Oper} {n : Nat} {T : List (Nat × Value)} {a : Act} (ha : Has n T a) {o : Oper} (h : gdB ops n T o.guard = true) : Region.wanted o (Go.yielded ops a.tmps) = true := by
 unfold gdB at h
 split at h
 · next e => simp [Region.wanted, e]
 next j b e =>
 split at h
 · next t hj =>
   rw [Bool.and_eq_true] at h
   split at h
   · next x hb =>
     obtain rfl : x = b := by simpa using h.2
     simp [Region.wanted, e, ha.yielded hj hb h.1]
   cases h.2
 cases h
inductive Cd (P : Program) (n : Nat) (ops : Array Oper) (S : World → Prop) : List (Oper × Bool) → List (Nat × Value) → List (Nat × Value) → Prop
 | nil {T : List (Nat × Value)} : Cd P n ops S [] T T
 | c {d : Tmp} {op : Op} {v : Value} {L : List (Oper × Bool)} {T T' : List (Nat × Value)} {tt : TypeId} {pos : String} {af : Array Edge} {gd : Option (Nat × Bool)} (hy : ∀ W, S W → ∀ a, Has n T a → Yl P a W ⟨some d, op, tt, pos, af, gd⟩ v) (tl : Cd P n ops S L ((d, v) :: T) T') (hg : gdB ops n T gd = true := by rfl) (ht : Nat.blt d n = true := by rfl) : Cd P n ops S ((⟨some d, op, tt, pos, af, gd⟩, true) :: L) T T'
 | p {d : Tmp} {op : Op} {v : Value} {L : List (Oper × Bool)} {T T' : List (Nat × Value)} {tt : TypeId} {pos : String} {af : Array Edge} {gd : Option (Nat × Bool)} (hy : ∀ W, ∀ a, Has n T a → Yl P a W ⟨some d, op, tt, pos, af, gd⟩ v) (tl : Cd P n ops S L ((d, v) :: T) T') (hg : gdB ops n T gd = true := by rfl) (ht : Nat.blt d n = true := by rfl) : Cd P n ops S ((⟨some d, op, tt, pos, af, gd⟩, false) :: L) T T'
 | s {d : Tmp} {op : Op} {L : List (Oper × Bool)} {T T' : List (Nat × Value)} {tt : TypeId} {pos : String} {af : Array Edge} {j t : Nat} {b : Bool} (tl : Cd P n ops S L ((d, undef) :: T) T') (hj : (ops[j]?).bind (·.dst) = some t := by rfl) (hb : lk T t = some (.bool !b) := by rfl) (ht2 : Nat.blt t n = true := by rfl) (ht : Nat.blt d n = true := by rfl) : Cd P n ops S ((⟨some d, op, tt, pos, af, some (j, b)⟩, false) :: L) T T'
 | u {d : Tmp} {op : Op} {L : List (Oper × Bool)} {T T' : List (Nat × Value)} {tt : TypeId} {pos : String} {af : Array Edge} {j t : Nat} {b : Bool} (tl : Cd P n ops S L ((d, undef) :: T) T') (hj : (ops[j]?).bind (·.dst) = some t := by rfl) (hb : lk T t = some undef := by rfl) (ht2 : Nat.blt t n = true := by rfl) (ht : Nat.blt d n = true := by rfl) : Cd P n ops S ((⟨some d, op, tt, pos, af, some (j, b)⟩, false) :: L) T T'
def opsAt (ops : Array Oper) (rs : List Nat) : List Nat → List (Oper × Bool)
 | [] => []
 | i :: is => match ops[i]? with
   | some o => (o, rs.contains i) :: opsAt ops rs is
   | none => opsAt ops rs is
def lst (s m : Nat) : Array Bool := ((List.range s).map fun i => m.testBit i).toArray
theorem lst_size (s m : Nat) : (lst s m).size = s := by simp [lst]
theorem lst_getD (s m i : Nat) (d : Bool) : (lst s m).getD i d = if i < s then m.testBit i else d := by
 unfold Array.getD
 by_cases h : i < s
 · rw [dif_pos (show i < (lst s m).size by rw [lst_size]; exact h), if_pos h]; simp [lst]
 rw [dif_neg (show ¬ i < (lst s m).size by rw [lst_size]; exact h), if_neg h]
theorem lst_set (s m i : Nat) : (lst s m).setIfInBounds i true = lst s (m ||| (1 <<< i)) := by
 apply Array.ext
 · simp [lst_size]
 intro k h1 h2
 rw [Array.getElem_setIfInBounds (by rw [lst_size]; simpa [lst_size] using h1)]
 have hk : k < s := by rw [lst_size] at h2; exact h2
 by_cases hik : i = k
 · subst hik; simp [lst, Nat.testBit_or, Nat.one_shiftLeft, Nat.testBit_two_pow_self]
 rw [if_neg hik]; simp [lst, Nat.testBit_or, Nat.one_shiftLeft, Nat.testBit_two_pow_of_ne hik]
def pairB (md : Region.Mode) (ops : Array Oper) : Bool := (List.range ops.size).all fun i => match ops[i]? with
 | none => true
 | some oi => (List.range ops.size).all fun j => j == i || match ops[j]? with
   | none => true
   | some oj => oj.after.any (fun e => Region.binds md e && e.on == i) || oi.after.any (fun e => Region.binds md e && e.on == j) || oi.apart ops oj
def rdM (md : Region.Mode) (ops : Array Oper) (e : Nat) (rs : List Nat) : Nat → List Nat → Bool
 | _, [] => true
 | m, i :: is => (match ops[i]? with
   | none => false
   | some o => !(m.testBit i) && o.after.all fun ed => !Region.binds md ed || (m.testBit ed.on && Nat.blt ed.on ops.size)) && Nat.blt i ops.size && decide (i ≠ e) && (!(rs.contains i) || (decide (ops.size ≤ e) || waits md ops e i)) && rdM md ops e rs (m ||| (1 <<< i)) is
def bitsM : Nat → List Nat → Nat
 | m, [] => m
 | m, i :: is => bitsM (m ||| (1 <<< i)) is
theorem rd_ready {md : Region.Mode} {ops : Array Oper} {m i : Nat} {o : Oper} (ho : ops[i]? = some o) (hn : m.testBit i = false) (ha : ∀ ed ∈ o.after, Region.binds md ed = true → m.testBit ed.on = true ∧ ed.on < ops.size) : i ∈ Region.ready md ops (lst ops.size m) := by
 have hi' : i < ops.size := (Array.getElem?_eq_some_iff.1 ho).1
 refine mem_ready.2 ⟨by rw [lst_getD, if_pos hi', hn], o, ho, fun ed hed hb => ?_⟩
 rw [lst_getD, if_pos (ha ed hed hb).2, (ha ed hed hb).1]
theorem pair_free {md : Region.Mode} {ops : Array Oper} {m i : Nat} {o : Oper} (hp : pairB md ops = true) (ho : ops[i]? = some o) (ha : ∀ ed ∈ o.after, Region.binds md ed = true → m.testBit ed.on = true ∧ ed.on < ops.size) : Region.free md ops (lst ops.size m) i = true := by
 simp only [pairB, List.all_eq_true, List.mem_range] at hp
 have hi := hp i (Array.getElem?_eq_some_iff.1 ho).1
 simp only [ho, List.all_eq_true, List.mem_range] at hi
 simp only [Region.free, ho, List.all_eq_true, List.mem_range]
 intro j hj
 have hij := hi j hj
 rw [lst_getD, if_pos hj]
 rw [Bool.or_eq_true] at hij
 rcases hij with h1 | h1
 · rw [h1]; simp
 cases hoj : ops[j]? with
 | none => simp
 | some oj =>
   simp only [hoj, Bool.or_eq_true] at h1
   rcases h1 with (h3 | h3) | h3
   · simp [h3]
   · obtain ⟨ed, hed, h4⟩ := Array.any_eq_true'.1 h3
     rw [Bool.and_eq_true, beq_iff_eq] at h4
     have h5 := ha ed hed h4.1
     rw [h4.2] at h5
     simp [h5.1]
   simp [h3]
theorem rd_after {md : Region.Mode} {ops : Array Oper} {m : Nat} {o : Oper} (h : (o.after.all fun ed => !Region.binds md ed || (m.testBit ed.on && Nat.blt ed.on ops.size)) = true) : ∀ ed ∈ o.after, Region.binds md ed = true → m.testBit ed.on = true ∧ ed.on < ops.size := fun ed hed hb => by
 have h5 := Array.all_eq_true_iff_forall_mem.1 h ed hed
 rw [hb] at h5
 simpa [Nat.blt_eq] using h5
section
variable {P : Program} {n : Nat} {ops : Array Oper} {Q : Exit → Act → World → Prop} {md : Region.Mode} {e fuel : Nat} {S S' : World → Prop}
theorem closedB_of {L : Array Bool} (h : Closed md ops L) : closedB md ops L = true := by
 unfold closedB
 rw [Bool.and_eq_true, decide_eq_true_eq, List.all_eq_true]
 refine ⟨h.1, fun j _ => ?_⟩
 cases hl : L.getD j false with
 | false => rfl
 | true =>
   cases ho : ops[j]? with
   | none => rfl
   | some oj =>
     simp only [Bool.not_true, Bool.false_or]
     rw [Array.all_eq_true_iff_forall_mem]
     intro ed hed
     cases hb : Region.binds md ed with
     | false => rfl
     | true => simpa using h.2 j oj ho hl ed hed hb
theorem hh : ∀ W, S W → S W := fun _ h => h
theorem stepsR (rs : List Nat) (hp : pairB md ops = true) (hs : Region.noSelect ops = true) (hQ : ∀ c a d v w, Q (.panic c) (a.put (some d) v) w → Q (.panic c) a w) : ∀ (is : List Nat) {k m : Nat} {T T' : List (Nat × Value)} {a : Act} {w : World}, is.length = k → Has n T a → (S w ∨ (Nat.testBit m e = true ∧ e < ops.size ∧ rs = [])) → (rs = [] ∨ closedB md ops (lst ops.size m) = true) → Cd P n ops S (opsAt ops rs is) T T' → rdM md ops e rs m is = true → (∀ a', Has n T' a' → wpAnyE P md ops Q e S fuel (lst ops.size (bitsM m is)) a' w) → wpAnyE P md ops Q e S (fuel + k) (lst ops.size m) a w
 | [], k, m, T, T', a, w, hk, ha, hS, hcl, hc, _, h => by
   subst hk
   cases hc
   exact h a ha
 | i :: is, k, m, T, T', a, w, hk, ha, hS, hcl, hc, hr, h => by
   subst hk
   simp only [rdM, Bool.and_eq_true] at hr
   obtain ⟨⟨⟨⟨h1, h2⟩, h4⟩, h6⟩, h7⟩ := hr
   cases ho : ops[i]? with
   | none => rw [ho] at h1; cases h1
   | some o =>
     rw [ho] at h1
     simp only [Bool.and_eq_true, Bool.not_eq_true'] at h1
     have haf := rd_after h1.2
     have hop : opsAt ops rs (i :: is) = (o, rs.contains i) :: opsAt ops rs is := by simp only [opsAt, ho]
     rw [hop] at hc
     have h4' : i ≠ e := of_decide_eq_true h4
     have hrd := rd_ready ho h1.1 haf
     have hrb : (Region.ready md ops (lst ops.size m)).contains i = true := List.contains_iff_mem.2 hrd
     have hf := pair_free hp ho haf
     have hS1 : (lst ops.size m).getD e false = false → S w := fun h => hS.elim (fun h => h) (fun h9 => by rw [lst_getD, if_pos h9.2.1, h9.1] at h; cases h)
     have hS2 : S w ∨ (Nat.testBit (m ||| (1 <<< i)) e = true ∧ e < ops.size ∧ rs = []) := hS.imp (fun h => h) (fun h9 => ⟨by rw [Nat.testBit_or, h9.1]; rfl, h9.2⟩)
     have hcl2 : rs = [] ∨ closedB md ops (lst ops.size (m ||| (1 <<< i))) = true := hcl.imp (fun h => h) (fun h => by
       have := (closedB_spec h).set hrd
       rw [lst_set] at this
       exact closedB_of this)
     have go {d : Tmp} {v : Value} (ha' : Has n ((d, v) :: T) (a.put (some d) v)) (tl : Cd P n ops S (opsAt ops rs is) ((d, v) :: T) T') : wpAnyE P md ops Q e S (fuel + is.length) ((lst ops.size m).setIfInBounds i true) (a.put (some d) v) w := by
       rw [lst_set]
       exact stepsR rs hp hs hQ is rfl ha' hS2 hcl2 tl h7 h
     generalize hb : rs.contains i = b at hc
     cases hc with
     | c hy tl hg ht =>
       rw [hb] at h6
       simp only [Bool.not_true, Bool.false_or, Bool.or_eq_true] at h6
       have hne : rs ≠ [] := fun h => by rw [h] at hb; cases hb
       have hS0 : S w := hS.elim (fun h => h) (fun h9 => absurd h9.2.2 hne)
       have hc0 := hcl.resolve_left hne
       rcases h6 with h9 | h9
       · exact stepE_held i (some _) hS0 ho rfl hs hf hrb hc0 (by rw [h9, h4]; rfl) (fun c a w => hQ c a _ _ w) (gd_wanted ha hg) (fun W hW => hy W hW a ha) (go (ha.put ht _) tl)
       exact stepE_readW i (some _) hS0 ho rfl hs hf hrb hc0 (by rw [h9, h4]; rfl) (fun c a w => hQ c a _ _ w) (gd_wanted ha hg) (fun W hW => hy W hW a ha) (go (ha.put ht _) tl)
     | p hy tl hg ht => exact stepE_any i (some _) hS1 ho rfl hs hf hrb h4 (fun c a w => hQ c a _ _ w) (gd_wanted ha hg) (fun W => hy W a ha) (go (ha.put ht _) tl)
     | s tl hj hb ht2 ht => exact stepE_skip i (some _) hS1 ho rfl hs hf hrb h4 (fun c a w => hQ c a _ _ w) (by simp [Region.wanted, ha.yielded hj hb ht2]) (go (ha.put ht _) tl)
     | u tl hj hb ht2 ht => exact stepE_skip i (some _) hS1 ho rfl hs hf hrb h4 (fun c a w => hQ c a _ _ w) (by simp [Region.wanted, ha.unyielded hj hb ht2]) (go (ha.put ht _) tl)
theorem region_p {P : Program} {a : Act} {w w0 : World} {X : Cx} {M B : Mm} {ops : Array Oper} {Q : Exit → Act → World → Prop} (e : Nat) (mB : MemOk X w0 B w) (m : MemOk X w0 M w) {id : Nat} (hm : P.follows .mixedOrders = true)
   (h : ∀ w', pairB .any ops = true → MemOk X w0 M w' → wpAnyE P .any ops Q e (MemOk X w0 B) ops.size (Array.replicate ops.size false) a w') (hp : pairB .any ops = true := by kernel_rfl) : (Code.region id ops true).wp P Q a w := region_m e mB m hm (fun w' _ m' => h w' hp m')
theorem goR (hp : pairB md ops = true) (is rs : List Nat) (k m m' : Nat) {T T' : List (Nat × Value)} {a : Act} {w : World} {listed : Array Bool} (ha : Has n T a) (hS : S w) (hc : Cd P n ops S (opsAt ops rs is) T T') (h : ∀ a', Has n T' a' → wpAnyE P md ops Q e S fuel (lst ops.size m') a' w) (hl : listed = lst ops.size m := by kernel_rfl) (hm : m' = bitsM m is := by kernel_rfl) (hk : is.length = k := by rfl) (hcl : closedB md ops (lst ops.size m) = true := by kernel_rfl) (hs : Region.noSelect ops = true := by kernel_rfl) (hr : rdM md ops e rs m is = true := by kernel_rfl) (hQ : ∀ c a d v w, Q (.panic c) (a.put (some d) v) w → Q (.panic c) a w := by exact fun _ _ _ _ _ h => h) : wpAnyE P md ops Q e S (fuel + k) listed a w := by
 subst hl; subst hm
 exact stepsR rs hp hs hQ is hk ha (.inl hS) (.inr hcl) hc hr h
theorem goA (hp : pairB md ops = true) (is : List Nat) (k m m' : Nat) {T T' : List (Nat × Value)} {a : Act} {w : World} {listed : Array Bool} (ha : Has n T a) (hS : S w) (hc : Cd P n ops S (opsAt ops [] is) T T') (h : ∀ a', Has n T' a' → wpAnyE P md ops Q e S fuel (lst ops.size m') a' w) (hl : listed = lst ops.size m := by kernel_rfl) (hm : m' = bitsM m is := by kernel_rfl) (hk : is.length = k := by rfl) (hs : Region.noSelect ops = true := by kernel_rfl) (hr : rdM md ops e [] m is = true := by kernel_rfl) (hQ : ∀ c a d v w, Q (.panic c) (a.put (some d) v) w → Q (.panic c) a w := by exact fun _ _ _ _ _ h => h) : wpAnyE P md ops Q e S (fuel + k) listed a w := by
 subst hl; subst hm
 exact stepsR [] hp hs hQ is hk ha (.inl hS) (.inl rfl) hc hr h
theorem goB (hp : pairB md ops = true) (is : List Nat) (k m m' : Nat) {T T' : List (Nat × Value)} {a : Act} {w : World} {listed : Array Bool} (ha : Has n T a) (hc : Cd P n ops S (opsAt ops [] is) T T') (h : ∀ a', Has n T' a' → wpAnyE P md ops Q e S fuel (lst ops.size m') a' w) (hl : listed = lst ops.size m := by kernel_rfl) (hm : m' = bitsM m is := by kernel_rfl) (hk : is.length = k := by rfl) (hb : (Nat.testBit m e && Nat.blt e ops.size) = true := by kernel_rfl) (hs : Region.noSelect ops = true := by kernel_rfl) (hr : rdM md ops e [] m is = true := by kernel_rfl) (hQ : ∀ c a d v w, Q (.panic c) (a.put (some d) v) w → Q (.panic c) a w := by exact fun _ _ _ _ _ h => h) : wpAnyE P md ops Q e S (fuel + k) listed a w := by
 subst hl; subst hm
 rw [Bool.and_eq_true] at hb
 exact stepsR [] hp hs hQ is hk ha (.inr ⟨hb.1, by simpa [Nat.blt_eq] using hb.2, rfl⟩) (.inl rfl) hc hr h
end
/-! short -/
section
variable {P : Program} {n : Nat} {ops : Array Oper} {S : World → Prop} {L : List (Oper × Bool)} {T T' : List (Nat × Value)} {w0 : World} {X : Cx} {M : Mm} {dd : Tmp} {tt : TypeId} {pos : String} {af : Array Edge} {gd : Option (Nat × Bool)} {x y z : Operand} {k : IntKind} {p q r : Int} {t t2 : TypeId}
theorem Cd.move {x : Operand} {v : Value} (hx : evT T x = some v) (tl : Cd P n ops S L ((dd, v) :: T) T') (hg : gdB ops n T gd = true := by rfl) (ht : Nat.blt dd n = true := by rfl) : Cd P n ops S ((⟨some dd, .move x, tt, pos, af, gd⟩, false) :: L) T T' := .p (fun W _ h => y_move h hx) tl hg ht
theorem Cd.assign {x : Operand} {v : Value} (hx : evT T x = some v) (tl : Cd P n ops S L ((dd, v) :: T) T') (hg : gdB ops n T gd = true := by rfl) (ht : Nat.blt dd n = true := by rfl) : Cd P n ops S ((⟨some dd, .assign x, tt, pos, af, gd⟩, false) :: L) T T' := .p (fun W _ h => y_assign h hx) tl hg ht
theorem Cd.pickT {c x y : Operand} {v : Value} (hc : evT T c = some (.bool true)) (hx : evT T x = some v) (tl : Cd P n ops S L ((dd, v) :: T) T') (hg : gdB ops n T gd = true := by rfl) (ht : Nat.blt dd n = true := by rfl) : Cd P n ops S ((⟨some dd, .pick c x y, tt, pos, af, gd⟩, false) :: L) T T' := .p (fun W _ h => y_pickT h hc hx) tl hg ht
theorem Cd.pickF {c x y : Operand} {v : Value} (hc : evT T c = some (.bool false)) (hx : evT T y = some v) (tl : Cd P n ops S L ((dd, v) :: T) T') (hg : gdB ops n T gd = true := by rfl) (ht : Nat.blt dd n = true := by rfl) : Cd P n ops S ((⟨some dd, .pick c x y, tt, pos, af, gd⟩, false) :: L) T T' := .p (fun W _ h => y_pickF h hc hx) tl hg ht
theorem Cd.not {t : TypeId} {x : Operand} {b : Bool} (hx : evT T x = some (.bool b)) (tl : Cd P n ops S L ((dd, (.bool !b)) :: T) T') (hg : gdB ops n T gd = true := by rfl) (ht : Nat.blt dd n = true := by rfl) : Cd P n ops S ((⟨some dd, .unOp .not t x, tt, pos, af, gd⟩, false) :: L) T T' := .p (fun W _ h => y_not h hx) tl hg ht
theorem Cd.len {t e : TypeId} {x : Operand} {p : Option Addr} {l c : Nat} (hx : evT T x = some (.slice p l c)) (hu : P.underlying t = some (.slice e)) (tl : Cd P n ops S L ((dd, (.int .i64 l)) :: T) T') (hg : gdB ops n T gd = true := by rfl) (ht : Nat.blt dd n = true := by rfl) : Cd P n ops S ((⟨some dd, .call { callee := .builtin .len, args := #[x], argTypes := #[t] }, tt, pos, af, gd⟩, false) :: L) T T' := .p (fun W _ h => y_len h hx hu) tl hg ht
theorem Cd.add (hx : evT T x = some (.int k p)) (hy : evT T y = some (.int k q)) (hr : k.wrap (p + q) = r) (tl : Cd P n ops S L ((dd, (.int k r)) :: T) T') (hg : gdB ops n T gd = true := by rfl) (ht : Nat.blt dd n = true := by rfl) : Cd P n ops S ((⟨some dd, .binOp .add t x y t2, tt, pos, af, gd⟩, false) :: L) T T' := .p (fun W _ h => y_add h hx hy hr) tl hg ht
theorem Cd.sub (hx : evT T x = some (.int k p)) (hy : evT T y = some (.int k q)) (hr : k.wrap (p - q) = r) (tl : Cd P n ops S L ((dd, (.int k r)) :: T) T') (hg : gdB ops n T gd = true := by rfl) (ht : Nat.blt dd n = true := by rfl) : Cd P n ops S ((⟨some dd, .binOp .sub t x y t2, tt, pos, af, gd⟩, false) :: L) T T' := .p (fun W _ h => y_sub h hx hy hr) tl hg ht
theorem Cd.mul (hx : evT T x = some (.int k p)) (hy : evT T y = some (.int k q)) (hr : k.wrap (p * q) = r) (tl : Cd P n ops S L ((dd, (.int k r)) :: T) T') (hg : gdB ops n T gd = true := by rfl) (ht : Nat.blt dd n = true := by rfl) : Cd P n ops S ((⟨some dd, .binOp .mul t x y t2, tt, pos, af, gd⟩, false) :: L) T T' := .p (fun W _ h => y_mul h hx hy hr) tl hg ht
theorem Cd.quo (hx : evT T x = some (.int k p)) (hy : evT T y = some (.int k q)) (h0 : q ≠ 0) (hr : k.wrap (p.tdiv q) = r) (tl : Cd P n ops S L ((dd, (.int k r)) :: T) T') (hg : gdB ops n T gd = true := by rfl) (ht : Nat.blt dd n = true := by rfl) : Cd P n ops S ((⟨some dd, .binOp .quo t x y t2, tt, pos, af, gd⟩, false) :: L) T T' := .p (fun W _ h => y_quo h hx hy h0 hr) tl hg ht
theorem Cd.rem (hx : evT T x = some (.int k p)) (hy : evT T y = some (.int k q)) (h0 : q ≠ 0) (hr : p.tmod q = r) (tl : Cd P n ops S L ((dd, (.int k r)) :: T) T') (hg : gdB ops n T gd = true := by rfl) (ht : Nat.blt dd n = true := by rfl) : Cd P n ops S ((⟨some dd, .binOp .rem t x y t2, tt, pos, af, gd⟩, false) :: L) T T' := .p (fun W _ h => y_rem h hx hy h0 hr) tl hg ht
theorem Cd.and (hx : evT T x = some (.int k p)) (hy : evT T y = some (.int k q)) (hr : k.wrap (BitVec.ofInt k.bits p &&& BitVec.ofInt k.bits q).toNat = r) (tl : Cd P n ops S L ((dd, (.int k r)) :: T) T') (hg : gdB ops n T gd = true := by rfl) (ht : Nat.blt dd n = true := by rfl) : Cd P n ops S ((⟨some dd, .binOp .and t x y t2, tt, pos, af, gd⟩, false) :: L) T T' := .p (fun W _ h => y_and h hx hy hr) tl hg ht
theorem Cd.or (hx : evT T x = some (.int k p)) (hy : evT T y = some (.int k q)) (hr : k.wrap (BitVec.ofInt k.bits p ||| BitVec.ofInt k.bits q).toNat = r) (tl : Cd P n ops S L ((dd, (.int k r)) :: T) T') (hg : gdB ops n T gd = true := by rfl) (ht : Nat.blt dd n = true := by rfl) : Cd P n ops S ((⟨some dd, .binOp .or t x y t2, tt, pos, af, gd⟩, false) :: L) T T' := .p (fun W _ h => y_or h hx hy hr) tl hg ht
theorem Cd.shl {yk : IntKind} (hx : evT T x = some (.int k p)) (hy : evT T y = some (.int yk q)) (h0 : 0 ≤ q) (hr : k.wrap (p * 2 ^ min q.toNat k.bits) = r) (tl : Cd P n ops S L ((dd, (.int k r)) :: T) T') (hg : gdB ops n T gd = true := by rfl) (ht : Nat.blt dd n = true := by rfl) : Cd P n ops S ((⟨some dd, .binOp .shl t x y t2, tt, pos, af, gd⟩, false) :: L) T T' := .p (fun W _ h => y_shl h hx hy h0 hr) tl hg ht
theorem Cd.shr {yk : IntKind} (hx : evT T x = some (.int k p)) (hy : evT T y = some (.int yk q)) (h0 : 0 ≤ q) (hr : p.fdiv (2 ^ min q.toNat k.bits) = r) (tl : Cd P n ops S L ((dd, (.int k r)) :: T) T') (hg : gdB ops n T gd = true := by rfl) (ht : Nat.blt dd n = true := by rfl) : Cd P n ops S ((⟨some dd, .binOp .shr t x y t2, tt, pos, af, gd⟩, false) :: L) T T' := .p (fun W _ h => y_shr h hx hy h0 hr) tl hg ht
theorem Cd.lss (hx : evT T x = some (.int k p)) (hy : evT T y = some (.int k q)) (tl : Cd P n ops S L ((dd, (.bool (decide (p < q)))) :: T) T') (hg : gdB ops n T gd = true := by rfl) (ht : Nat.blt dd n = true := by rfl) : Cd P n ops S ((⟨some dd, .binOp .lss t x y t2, tt, pos, af, gd⟩, false) :: L) T T' := .p (fun W _ h => y_lss h hx hy) tl hg ht
theorem Cd.leq (hx : evT T x = some (.int k p)) (hy : evT T y = some (.int k q)) (tl : Cd P n ops S L ((dd, (.bool (decide (p ≤ q)))) :: T) T') (hg : gdB ops n T gd = true := by rfl) (ht : Nat.blt dd n = true := by rfl) : Cd P n ops S ((⟨some dd, .binOp .leq t x y t2, tt, pos, af, gd⟩, false) :: L) T T' := .p (fun W _ h => y_leq h hx hy) tl hg ht
theorem Cd.gtr (hx : evT T x = some (.int k p)) (hy : evT T y = some (.int k q)) (tl : Cd P n ops S L ((dd, (.bool (decide (q < p)))) :: T) T') (hg : gdB ops n T gd = true := by rfl) (ht : Nat.blt dd n = true := by rfl) : Cd P n ops S ((⟨some dd, .binOp .gtr t x y t2, tt, pos, af, gd⟩, false) :: L) T T' := .p (fun W _ h => y_gtr h hx hy) tl hg ht
theorem Cd.geq (hx : evT T x = some (.int k p)) (hy : evT T y = some (.int k q)) (tl : Cd P n ops S L ((dd, (.bool (decide (q ≤ p)))) :: T) T') (hg : gdB ops n T gd = true := by rfl) (ht : Nat.blt dd n = true := by rfl) : Cd P n ops S ((⟨some dd, .binOp .geq t x y t2, tt, pos, af, gd⟩, false) :: L) T T' := .p (fun W _ h => y_geq h hx hy) tl hg ht
theorem Cd.eql (hx : evT T x = some (.int k p)) (hy : evT T y = some (.int k q)) (tl : Cd P n ops S L ((dd, (.bool (decide (p = q)))) :: T) T') (hg : gdB ops n T gd = true := by rfl) (ht : Nat.blt dd n = true := by rfl) : Cd P n ops S ((⟨some dd, .binOp .eql t x y t2, tt, pos, af, gd⟩, false) :: L) T T' := .p (fun W _ h => y_eql h hx hy) tl hg ht
theorem Cd.neq (hx : evT T x = some (.int k p)) (hy : evT T y = some (.int k q)) (tl : Cd P n ops S L ((dd, (.bool (decide (p ≠ q)))) :: T) T') (hg : gdB ops n T gd = true := by rfl) (ht : Nat.blt dd n = true := by rfl) : Cd P n ops S ((⟨some dd, .binOp .neq t x y t2, tt, pos, af, gd⟩, false) :: L) T T' := .p (fun W _ h => y_neq h hx hy) tl hg ht
theorem Cd.neqS {b c : ByteArray} (hx : evT T x = some (.string b)) (hy : evT T y = some (.string c)) (tl : Cd P n ops S L ((dd, (.bool (!(b.toList == c.toList)))) :: T) T') (hg : gdB ops n T gd = true := by rfl) (ht : Nat.blt dd n = true := by rfl) : Cd P n ops S ((⟨some dd, .binOp .neq t x y t2, tt, pos, af, gd⟩, false) :: L) T T' := .p (fun W _ h => y_neqS h hx hy) tl hg ht
theorem Cd.conv {s e : TypeId} {k' : IntKind} {ds : TypeDesc} (hx : evT T x = some (.int k p)) (hs : P.underlying s = some ds) (hd : P.underlying e = some (.int k')) (hr : k'.wrap p = r) (tl : Cd P n ops S L ((dd, (.int k' r)) :: T) T') (hg : gdB ops n T gd = true := by rfl) (ht : Nat.blt dd n = true := by rfl) : Cd P n ops S ((⟨some dd, .convert s e x, tt, pos, af, gd⟩, false) :: L) T T' := .p (fun W _ h => y_conv h hx hs hd hr) tl hg ht
theorem Cd.extract {x : Operand} {vs : Array Value} {i : Nat} {v : Value} (hx : evT T x = some (.tuple vs)) (hv : nthL vs.toList i = some v) (tl : Cd P n ops S L ((dd, v) :: T) T') (hg : gdB ops n T gd = true := by rfl) (ht : Nat.blt dd n = true := by rfl) : Cd P n ops S ((⟨some dd, .extract x i, tt, pos, af, gd⟩, false) :: L) T T' := .p (fun W _ h => y_extract h hx hv) tl hg ht
theorem Cd.nilCheck {x : Operand} {p : Addr} (hx : evT T x = some (.pointer (some p))) (tl : Cd P n ops S L ((dd, (.pointer (some p))) :: T) T') (hg : gdB ops n T gd = true := by rfl) (ht : Nat.blt dd n = true := by rfl) : Cd P n ops S ((⟨some dd, .nilCheck x, tt, pos, af, gd⟩, false) :: L) T T' := .p (fun W _ h => y_nilCheck h hx) tl hg ht
theorem Cd.fieldAddr {t : TypeId} {x : Operand} {i g o : Nat} {fs : Array Field} {f : Field} {s off : Nat} (hx : evT T x = some (.pointer (some ⟨g, o, none⟩))) (hu : P.underlying t = some (.struct fs)) (hf : fs[i]? = some f) (hs : (P.info? f.type).map (·.size) = some (s + 1)) (ho : o + f.offset = off) (tl : Cd P n ops S L ((dd, (.pointer (some ⟨g, off, none⟩))) :: T) T') (hg : gdB ops n T gd = true := by rfl) (ht : Nat.blt dd n = true := by rfl) : Cd P n ops S ((⟨some dd, .fieldAddr t x i, tt, pos, af, gd⟩, false) :: L) T T' := .p (fun W _ h => y_fieldAddr h hx hu hf hs ho) tl hg ht
theorem Cd.fieldAddrQ {t : TypeId} {x : Operand} {i g o : Nat} {fs : Array Field} {f : Field} {s : Nat} (q : Nat) (hx : evT T x = some (.pointer (some ⟨g, o, none⟩))) (hu : P.underlying t = some (.struct fs)) (hf : fs[i]? = some f) (hs : (P.info? f.type).map (·.size) = some (s + 1)) (hq : f.offset = q) (tl : Cd P n ops S L ((dd, (.pointer (some ⟨g, o + q, none⟩))) :: T) T') (hg : gdB ops n T gd = true := by rfl) (ht : Nat.blt dd n = true := by rfl) : Cd P n ops S ((⟨some dd, .fieldAddr t x i, tt, pos, af, gd⟩, false) :: L) T T' := .p (fun W _ h => y_fieldAddrQ h q hx hu hf hs hq) tl hg ht
theorem Cd.build {t : TypeId} {parts : Array (Nat × Operand)} {z cs : List Value} {pl : List (Nat × Value)} (hp : K.evP T parts.toList = some pl) (hz : ((P.info? t).bind (·.zero)).map (·.cells.toList) = some z) (hf : flatS P t z = true) (h1 : pl.all (fun p => decide (p.1 < z.length) && p.2.oneCell') = true) (hc : setL z pl = cs) (tl : Cd P n ops S L ((dd, (.agg cs.toArray)) :: T) T') (hg : gdB ops n T gd = true := by rfl) (ht : Nat.blt dd n = true := by rfl) : Cd P n ops S ((⟨some dd, .build t parts, tt, pos, af, gd⟩, false) :: L) T T' := .p (fun W _ h => y_build h hp hz hf h1 hc) tl hg ht
theorem Cd.loadB1 (m : ∀ W, S W → MemOk X w0 M W) {t : TypeId} {td : TypeDesc} {x : Operand} {i g o : Nat} {e : TypeId} {cs : List Value} {v : Value} (hm : lk M i = some (.box g e cs)) (hx : evT T x = some (.pointer (some ⟨g, o, none⟩))) (hv : cs[o]? = some v) (hu : P.underlying t = some td) (hr : td.isRow = false) (tl : Cd P n ops S L ((dd, v) :: T) T') (hg : gdB ops n T gd = true := by rfl) (ht : Nat.blt dd n = true := by rfl) : Cd P n ops S ((⟨some dd, .load t x, tt, pos, af, gd⟩, true) :: L) T T' := .c (fun W hW _ h => y_loadB1 h (m W hW) hm hx hv hu hr) tl hg ht
theorem Cd.loadBR (m : ∀ W, S W → MemOk X w0 M W) {t : TypeId} {td : TypeDesc} {x : Operand} {i g o k : Nat} {e : TypeId} {cs vs : List Value} (hm : lk M i = some (.box g e cs)) (hx : evT T x = some (.pointer (some ⟨g, o, none⟩))) (hu : P.underlying t = some td) (hr : td.isRow = true) (hs : (P.info? t).map (·.size) = some k) (hk : o + k ≤ cs.length) (hv : (cs.drop o).take k = vs) (tl : Cd P n ops S L ((dd, (.agg vs.toArray)) :: T) T') (hg : gdB ops n T gd = true := by rfl) (ht : Nat.blt dd n = true := by rfl) : Cd P n ops S ((⟨some dd, .load t x, tt, pos, af, gd⟩, true) :: L) T T' := .c (fun W hW _ h => y_loadBR h (m W hW) hm hx hu hr hs hk hv) tl hg ht
theorem Cd.loadC1 (m : ∀ W, S W → MemOk X w0 M W) {t : TypeId} {td : TypeDesc} {x : Operand} {i b o q : Nat} {vs : List Value} {v : Value} (hm : lk M i = some (.cel b o vs)) (hx : evT T x = some (.pointer (some ⟨b, o + q, none⟩))) (hv : vs[q]? = some v) (hu : P.underlying t = some td) (hr : td.isRow = false) (tl : Cd P n ops S L ((dd, v) :: T) T') (hg : gdB ops n T gd = true := by rfl) (ht : Nat.blt dd n = true := by rfl) : Cd P n ops S ((⟨some dd, .load t x, tt, pos, af, gd⟩, true) :: L) T T' := .c (fun W hW _ h => y_loadC1 h (m W hW) hm hx hv hu hr) tl hg ht
theorem Cd.loadC0 (m : ∀ W, S W → MemOk X w0 M W) {t : TypeId} {td : TypeDesc} {x : Operand} {i b o : Nat} {vs : List Value} {v : Value} (hm : lk M i = some (.cel b o (v :: vs))) (hx : evT T x = some (.pointer (some ⟨b, o, none⟩))) (hu : P.underlying t = some td) (hr : td.isRow = false) (tl : Cd P n ops S L ((dd, v) :: T) T') (hg : gdB ops n T gd = true := by rfl) (ht : Nat.blt dd n = true := by rfl) : Cd P n ops S ((⟨some dd, .load t x, tt, pos, af, gd⟩, true) :: L) T T' := .c (fun W hW _ h => y_loadC0 h (m W hW) hm hx hu hr) tl hg ht
theorem Cd.loadCR (m : ∀ W, S W → MemOk X w0 M W) {t : TypeId} {td : TypeDesc} {x : Operand} {i b o : Nat} {vs : List Value} (hm : lk M i = some (.cel b o vs)) (hx : evT T x = some (.pointer (some ⟨b, o, none⟩))) (hu : P.underlying t = some td) (hr : td.isRow = true) (hs : (P.info? t).map (·.size) = some vs.length) (tl : Cd P n ops S L ((dd, (.agg vs.toArray)) :: T) T') (hg : gdB ops n T gd = true := by rfl) (ht : Nat.blt dd n = true := by rfl) : Cd P n ops S ((⟨some dd, .load t x, tt, pos, af, gd⟩, true) :: L) T T' := .c (fun W hW _ h => y_loadCR h (m W hW) hm hx hu hr hs) tl hg ht
theorem Cd.str {s t e : TypeId} {x : Operand} {v : Value} {bs : List Int} (hx : evT T x = some v) (hv : ∀ W, S W → IsNums .u8 W v bs) (hs : P.underlying s = some (.slice e)) (he : P.underlying e = some (.int .u8)) (hd : P.underlying t = some .string) (tl : Cd P n ops S L ((dd, (.string (strOfNums bs))) :: T) T') (hg : gdB ops n T gd = true := by rfl) (ht : Nat.blt dd n = true := by rfl) : Cd P n ops S ((⟨some dd, .convert s t x, tt, pos, af, gd⟩, true) :: L) T T' := .c (fun W hW _ h => y_str h hx (hv W hW) hs he hd) tl hg ht
theorem Cd.loadAt {t : TypeId} {td : TypeDesc} {x : Operand} {b o : Nat} {vs : List Value} (hr : ∀ W, S W → W.rangeAt b o vs) (hx : evT T x = some (.pointer (some ⟨b, o, none⟩))) (hu : P.underlying t = some td) (hd : td.isRow = true) (hs : (P.info? t).map (·.size) = some vs.length) (tl : Cd P n ops S L ((dd, (.agg vs.toArray)) :: T) T') (hg : gdB ops n T gd = true := by rfl) (ht : Nat.blt dd n = true := by rfl) : Cd P n ops S ((⟨some dd, .load t x, tt, pos, af, gd⟩, true) :: L) T T' := .c (fun W hW _ h => y_loadAt h (hr W hW) hx hu hd hs) tl hg ht
theorem Cd.loadAt1 {t : TypeId} {td : TypeDesc} {x : Operand} {b o q q' : Nat} {vs : List Value} {v : Value} (hr : ∀ W, S W → W.rangeAt b o vs) (hx : evT T x = some (.pointer (some ⟨b, q', none⟩))) (hq : q' = o + q) (hv : nthL vs q = some v) (hu : P.underlying t = some td) (hd : td.isRow = false) (tl : Cd P n ops S L ((dd, v) :: T) T') (hg : gdB ops n T gd = true := by rfl) (ht : Nat.blt dd n = true := by rfl) : Cd P n ops S ((⟨some dd, .load t x, tt, pos, af, gd⟩, true) :: L) T T' := .c (fun W hW _ h => y_loadAt1 h (hr W hW) hx hq hv hu hd) tl hg ht
theorem Cd.cap {t e : TypeId} {x : Operand} {p : Option Addr} {l c : Nat} (hx : evT T x = some (.slice p l c)) (hu : P.underlying t = some (.slice e)) (tl : Cd P n ops S L ((dd, (.int .i64 c)) :: T) T') (hg : gdB ops n T gd = true := by rfl) (ht : Nat.blt dd n = true := by rfl) : Cd P n ops S ((⟨some dd, .call { callee := .builtin .cap, args := #[x], argTypes := #[t] }, tt, pos, af, gd⟩, false) :: L) T T' := .p (fun W _ h => y_cap h hx hu) tl hg ht
end
section
variable {P : Program} {n : Nat} {ops : Array Oper} {S : World → Prop} {L : List (Oper × Bool)} {T T' : List (Nat × Value)} {w0 : World} {X : Cx} {M : Mm} {dd : Tmp} {tt : TypeId} {pos : String} {af : Array Edge} {gd : Option (Nat × Bool)}
theorem Cd.fa {t : TypeId} {x : Operand} {i g o : Nat} {fs : Array Field} {f : Field} (off : Nat) (hx : evT T x = some (.pointer (some ⟨g, o, none⟩))) (hu : P.underlying t = some (.struct fs)) (tl : Cd P n ops S L ((dd, (.pointer (some ⟨g, off, none⟩))) :: T) T') (hf : fs[i]? = some f := by rfl) (hs : (P.info? f.type).map (·.size) = some (0 + 1) := by kernel_rfl) (ho : o + f.offset = off := by rfl) (hg : gdB ops n T gd = true := by rfl) (ht : Nat.blt dd n = true := by rfl) : Cd P n ops S ((⟨some dd, .fieldAddr t x i, tt, pos, af, gd⟩, false) :: L) T T' := .p (fun W _ h => y_fieldAddr h hx hu hf hs ho) tl hg ht
theorem Cd.lb (m : ∀ W, S W → MemOk X w0 M W) (i : Nat) {t : TypeId} {td : TypeDesc} {x : Operand} {g o : Nat} {e : TypeId} {cs : List Value} {v : Value} (hu : P.underlying t = some td) (hx : evT T x = some (.pointer (some ⟨g, o, none⟩))) (hm : lk M i = some (.box g e cs)) (hv : cs[o]? = some v) (tl : Cd P n ops S L ((dd, v) :: T) T') (hr : td.isRow = false := by rfl) (hg : gdB ops n T gd = true := by rfl) (ht : Nat.blt dd n = true := by rfl) : Cd P n ops S ((⟨some dd, .load t x, tt, pos, af, gd⟩, true) :: L) T T' := .c (fun W hW _ h => y_loadB1 h (m W hW) hm hx hv hu hr) tl hg ht
end
end Go.Proofs.YtflcgpajodfkoaaDoor.K
end
section
namespace Go.Proofs.YtflcgpajodfkoaaDoor.K
open Go.ChangeShapes Go.WideShapes Go.ChangeAt Go.RowKit
set_option linter.unusedVariables false
end Go.Proofs.YtflcgpajodfkoaaDoor.K
end
section
namespace Go.Proofs.YtflcgpajodfkoaaDoor.K
open Go.ChangeShapes Go.WideShapes Go.ChangeAt Go.RowKit Go.Sort
set_option linter.unusedVariables false
set_option linter.unusedSimpArgs false
variable {P : Program} {X : Cx} {M : Mm} {w w0 : World}
def nD (z : Int) : List D := [.v (.int .i64 z)]
theorem MemOk.dropN (m : MemOk X w0 M w) {i : Nat} {p : Option Addr} {l c : Nat} {k : IntKind} {zs : List Int} (hm : lk M i = some (.dat (.slice p l c) (.ns k zs))) (j : Nat) (hj : j ≤ zs.length) (i2 : Nat) (hi2 : lk M i2 = none) : MemOk X w0 ((i2, .dat (.slice (if c = j then p else p.map (·.add (j * 1))) (l - j) (c - j)) (.ns k (zs.drop j))) :: M) w :=
 m.dat i2 hi2 (.ns ((m.rd hm).ns_out.drop j hj))
end Go.Proofs.YtflcgpajodfkoaaDoor.K
end
section
namespace Go.Proofs.YtflcgpajodfkoaaDoor.K
open Go.ChangeShapes Go.WideShapes Go.ChangeAt Go.RowKit
set_option linter.unusedVariables false
set_option linter.unusedSimpArgs false
theorem flatten_put {α : Type} {mm : Nat} (vs : List α) (hv : vs.length = mm) : ∀ (cs : List (List α)) (J : Nat), (∀ c ∈ cs, c.length = mm) → J < cs.length → cs.flatten.take (J * mm) ++ vs ++ cs.flatten.drop (J * mm + mm) = (cs.set J vs).flatten
 | [], J, _, h => by simp at h
 | a :: cs, 0, hc, h => by
   have ha := hc a (by simp)
   rw [List.set_cons_zero, List.flatten_cons, List.flatten_cons, Nat.zero_mul, Nat.zero_add, List.take_zero, List.nil_append, List.drop_left' ha]
 | a :: cs, J + 1, hc, h => by
   have ha := hc a (by simp)
   have ih := flatten_put vs hv cs J (fun c h => hc c (by simp [h])) (by simpa using h)
   have e1 : (J + 1) * mm = a.length + J * mm := by rw [ha, Nat.add_mul]; omega
   rw [List.set_cons_succ, List.flatten_cons, List.flatten_cons, ← ih, e1, Nat.add_assoc, List.take_append, List.drop_append, List.take_of_length_le (by omega), List.drop_of_length_le (by omega)]
   rw [show a.length + J * mm - a.length = J * mm by omega, show a.length + (J * mm + mm) - a.length = J * mm + mm by omega]
   simp
section
variable {P : Program} {n : Nat} {T : List (Nat × Value)} {a : Act} {w w0 : World} {X : Cx} {M : Mm} {tt : TypeId} {pos : String} {af : Array Edge} {gd : Option (Nat × Bool)} {Q : Exit → Act → World → Prop} {K : Act → World → Prop}
end
end Go.Proofs.YtflcgpajodfkoaaDoor.K
end
section
namespace Go.Proofs.YtflcgpajodfkoaaDoor.K
open Go.ChangeShapes Go.WideShapes Go.ChangeAt Go.RowKit
set_option linter.unusedVariables false
set_option linter.unusedSimpArgs false
section
variable {P : Program} {ops : Array Oper} {Q : Exit → Act → World → Prop} {md : Region.Mode} {listed : Array Bool} {fuel e : Nat} {S : World → Prop} {a : Act} {w : World}
theorem d_three (i j k : Nat) {oi oj ok : Oper} (hi : ops[i]? = some oi) (hj : ops[j]? = some oj) (hk : ops[k]? = some ok) (hr : Region.ready md ops listed = [i, j, k])
   (hwi : Region.wanted oi (Go.yielded ops a.tmps) = true) (hwj : Region.wanted oj (Go.yielded ops a.tmps) = true) (hwk : Region.wanted ok (Go.yielded ops a.tmps) = true)
   (h1 : ∀ K' : Act → World → Prop, (∀ a' w', ((listed.setIfInBounds i true).getD e false = false → S w') → wpAnyE P md ops Q e S fuel (listed.setIfInBounds i true) a' w' → K' a' w') → Oper.wp P oi a w K' Q)
   (h2 : ∀ K' : Act → World → Prop, (∀ a' w', ((listed.setIfInBounds j true).getD e false = false → S w') → wpAnyE P md ops Q e S fuel (listed.setIfInBounds j true) a' w' → K' a' w') → Oper.wp P oj a w K' Q)
   (h3 : ∀ K' : Act → World → Prop, (∀ a' w', ((listed.setIfInBounds k true).getD e false = false → S w') → wpAnyE P md ops Q e S fuel (listed.setIfInBounds k true) a' w' → K' a' w') → Oper.wp P ok a w K' Q) :
   wpAnyE P md ops Q e S (fuel + 1) listed a w := by
 refine ⟨fun h0 => absurd (hr ▸ h0) (by simp), fun q hq => ?_⟩
 rw [hr] at hq
 rcases List.mem_cons.1 hq with rfl | hq
 · refine wpOp_step hi (fun K' hK => ?_)
   rw [if_pos hwi]
   exact h1 K' (fun a' w' h hn => hK a' w' ⟨h, hn⟩)
 rcases List.mem_cons.1 hq with rfl | hq
 · refine wpOp_step hj (fun K' hK => ?_)
   rw [if_pos hwj]
   exact h2 K' (fun a' w' h hn => hK a' w' ⟨h, hn⟩)
 obtain rfl : q = k := by simpa using hq
 refine wpOp_step hk (fun K' hK => ?_)
 rw [if_pos hwk]
 exact h3 K' (fun a' w' h hn => hK a' w' ⟨h, hn⟩)
end
section
variable {P : Program} {n : Nat} {T : List (Nat × Value)} {a : Act} {w w0 : World} {X : Cx} {M : Mm} {tt : TypeId} {pos : String} {af : Array Edge} {gd : Option (Nat × Bool)} {Q : Exit → Act → World → Prop} {K : Act → World → Prop}
theorem e_storeRW (ha : Has n T a) (m : MemOk X w0 M w) (i : Nat) {g l c mm : Nat} {t e : TypeId} {x y : Operand} {rows : List (List D)} {xs : Array Value} {dd : List D} (hm : lk M i = some (.row (.slice (some ⟨g, 0, none⟩) l c) e mm rows)) (J : Nat) (hJ : J < rows.length) {q' : Nat} (hx : evT T x = some (.pointer (some ⟨g, q', none⟩))) (hq' : q' = 0 + J * mm) (hy : evT T y = some (.agg xs)) (hv : xs.toList.all (fun v => v.oneCell') = true) (hl : xs.size = mm) (hs : (P.info? t).map (·.size) = some xs.size) (hdd : RdL (Free X M) w xs.toList dd)
   (h : ∀ w', MemOk X w0 ((i, .row (.slice (some ⟨g, 0, none⟩) l c) e mm (rows.set J dd)) :: M) w' → K a w') : Oper.wp P ⟨none, .store t x y, tt, pos, af, gd⟩ a w K Q := by
 obtain ⟨cs, h1, h2, h3, h4, h5⟩ := m.ok i _ hm
 subst hq'
 have hJc : cs[J]? = some cs[J] := List.getElem?_eq_getElem (by omega)
 rcases h1.2 with ⟨e1, _⟩ | ⟨g', cap, cur, e1, hg', hbk, hnc, hcm, hcs, htk⟩
 · cases e1
 injection e1 with e1 e2 e3
 injection e1 with e1
 injection e1 with e1 e4
 subst e1; subst e2; subst e3
 obtain ⟨o, ho⟩ : ∃ o : Nat, o = 0 := ⟨0, rfl⟩
 have htk : (cur.toList.drop o).take (rows.length * mm) = cs.flatten := by rw [ho]; simpa using htk
 have hJm : J * mm + mm ≤ rows.length * mm := by
   calc J * mm + mm = (J + 1) * mm := by rw [Nat.add_mul]; omega
     _ ≤ rows.length * mm := Nat.mul_le_mul_right _ (by omega)
 have hcapm : rows.length * mm ≤ c * mm := Nat.mul_le_mul_right _ hnc
 have hb : Blk w g e cur.toList := by unfold Blk; rw [Array.toArray_toList]; exact hbk
 have hcl : cur.toList.length = cur.size := Array.length_toList
 have hxl : xs.toList.length = mm := by rw [Array.length_toList, hl]
 obtain ⟨w', hrn, hb', hk⟩ := run_storeVar_blk (P := P) hb (o + J * mm) t xs.toList (by rw [hxl]; omega) (by simpa using hs) (List.all_eq_true.1 hv)
 have hrun : (execOp a.eval ⟨none, .store t x y, tt, pos, af, gd⟩).run P w = .ok .skip w' := by
   have hr' : (Instr.storeAt t (.pointer (some ⟨g, J * mm, none⟩)) (.agg xs)).run P w = .ok () w' := by rw [ho, Nat.zero_add] at hrn; simpa using hrn
   have hx' : evT T x = some (.pointer (some ⟨g, J * mm, none⟩)) := by rw [hx, Nat.zero_add]
   simp [execOp, ha.ev hx', ha.ev hy, hr']
 show Oper.upon P _ a K Q _
 rw [hrun]
 rw [hxl] at hb'
 have hlen : (rows.set J dd).length = rows.length := List.length_set ..
 have hdl : dd.length = mm := by rw [← hdd.len, hxl]
 have hkeep : Keep (fun b => ∃ r, lk M i = some r ∧ r.blk = some b) w w' := (hk (fun b => b = g) rfl).mono (fun b e => ⟨_, hm, by rw [show b = g from e]; rfl⟩)
 refine h w' (m.upd i _ hkeep (fun b hb => .inl ⟨_, hm, hb⟩) (fun hf _ => ⟨cs.set J xs.toList, ?_, by rw [List.length_set, h2, hlen], fun c' hc' => ?_, fun r' hr' => ?_, fun j q2 c' r' x' d a1 a2 a3 a4 => ?_⟩))
 · have hfl : cs.flatten.length = rows.length * mm := h1.1
   rw [hlen, ← flatten_put xs.toList hxl cs J (fun c hc => (h3 c hc).1) (by omega)]
   refine ⟨by simp only [List.length_append, List.length_take, List.length_drop, hxl, hfl]; omega, .inr ⟨g, c, (cur.toList.take (o + J * mm) ++ xs.toList ++ cur.toList.drop (o + J * mm + mm)).toArray, rfl, hg', hb', hnc, hcm, ?_, ?_⟩⟩
   · simp only [List.size_toArray, List.length_append, List.length_take, List.length_drop, hxl, hcl]; omega
   rw [← htk]
   show List.take (rows.length * mm) (cur.toList.take (o + J * mm) ++ xs.toList ++ cur.toList.drop (o + J * mm + mm)) = _
   rw [show (cur.toList.take (o + J * mm) ++ xs.toList ++ cur.toList.drop (o + J * mm + mm)) = (cur.toList.take (o + J * mm) ++ xs.toList ++ cur.toList.drop (o + J * mm + mm)).drop o by rw [ho, List.drop_zero]]
   generalize rows.length * mm = N at *
   generalize J * mm = j at *
   apply List.ext_getElem?
   intro k
   rw [List.getElem?_take]
   by_cases hkN : k < N
   · rw [if_pos hkN, List.getElem?_drop]
     by_cases k1 : k < j
     · rw [List.getElem?_append_left (by simp; omega), List.getElem?_append_left (by simp; omega), List.getElem?_take_of_lt (by omega)]
       rw [List.getElem?_append_left (by simp; omega), List.getElem?_append_left (by simp; omega), List.getElem?_take_of_lt (by omega), List.getElem?_take_of_lt (by omega), List.getElem?_drop]
     by_cases k2 : k < j + mm
     · rw [List.getElem?_append_left (by simp; omega), List.getElem?_append_right (by simp; omega)]
       rw [List.getElem?_append_left (by simp; omega), List.getElem?_append_right (by simp; omega)]
       congr 1; simp; omega
     rw [List.getElem?_append_right (by simp; omega), List.getElem?_append_right (by simp; omega)]
     simp only [List.getElem?_drop, List.length_append, List.length_take, List.length_drop, hxl, hcl]
     rw [List.getElem?_take_of_lt (by omega), List.getElem?_drop]
     congr 1; omega
   rw [if_neg hkN, List.getElem?_eq_none]
   simp only [List.length_append, List.length_take, List.length_drop, hxl, hcl]
   omega
 · rcases List.mem_or_eq_of_mem_set hc' with hc' | rfl
   · exact h3 c' hc'
   exact ⟨hxl, List.all_eq_true.1 hv⟩
 · rcases List.mem_or_eq_of_mem_set hr' with hr' | rfl
   · exact h4 r' hr'
   exact hdl
 have hmono : ∀ b, b < w.heap.size → Free X M b → w'.heap[b]? = w.heap[b]? ∧ Free X ((i, Res.row (.slice (some ⟨g, 0, none⟩) rows.length c) e mm (rows.set J dd)) :: M) b := fun b hlt hF => ⟨(hk (fun b => b = g) rfl).2.2.2.2 b hlt (fun e => hF.2 ⟨i, _, hm, by rw [show b = g from e]; rfl⟩), hf b hlt hF⟩
 have hsz := hkeep.size
 by_cases hjJ : j = J
 · subst hjJ
   rw [List.getElem?_set_self (by omega)] at a1
   rw [List.getElem?_set_self (by omega)] at a2
   cases a1; cases a2
   exact (hdd.get _ _ _ a3 a4).mono hsz hmono
 rw [List.getElem?_set_ne (by omega)] at a1
 rw [List.getElem?_set_ne (by omega)] at a2
 exact (h5 j q2 c' r' x' d a1 a2 a3 a4).mono hsz hmono
end
section
variable {w w0 : World} {X : Cx} {M : Mm}
theorem MemOk.callF2 (m : MemOk X w0 M w) (i j : Nat) {w' : World} {u v : Value} {d e : D} (hi : lk M i = none) (hj : lk ((i, .dat u d) :: M) j = none) (hb : Below w.heap.size w w') (h1 : Rd (New w) w' u d) (h2 : Rd (New w) w' v e) : MemOk X w0 ((j, .dat v e) :: (i, .dat u d) :: M) w' :=
 (m.callF i hi hb h1).dat j hj (h2.cast (fun b hb => free_add rfl (m.free_out (.inr hb))))
theorem MemOk.callF3 (m : MemOk X w0 M w) (i j k : Nat) {w' : World} {u v t : Value} {d e f : D} (hi : lk M i = none) (hj : lk ((i, .dat u d) :: M) j = none) (hk : lk ((j, .dat v e) :: (i, .dat u d) :: M) k = none) (hb : Below w.heap.size w w') (h1 : Rd (New w) w' u d) (h2 : Rd (New w) w' v e) (h3 : Rd (New w) w' t f) : MemOk X w0 ((k, .dat t f) :: (j, .dat v e) :: (i, .dat u d) :: M) w' :=
 (m.callF2 i j hi hj hb h1 h2).dat k hk (h3.cast (fun b hb => free_add rfl (free_add rfl (m.free_out (.inr hb)))))
end
end Go.Proofs.YtflcgpajodfkoaaDoor.K
end
section
namespace Go.Proofs.YtflcgpajodfkoaaDoor.K
open Go.ChangeShapes Go.WideShapes Go.ChangeAt Go.RowKit
set_option linter.unusedVariables false
set_option linter.unusedSimpArgs false
def boD (b : Bool) : List D := [.v (.bool b)]
end Go.Proofs.YtflcgpajodfkoaaDoor.K
end
