/- Facts on the world ahead of a call, read later; calls of function values; parts of data; min, max. For any program. -/
import Derived.Test.YtocfbocdnklllaaAb13
namespace Go.Proofs.Ytocfbocdnklllaa.K
open Go.ChangeShapes Go.WideShapes Go.ChangeAt Go.RowKit
set_option linter.unusedVariables false
set_option linter.unusedSimpArgs false

abbrev cn (w : World) : Cx := cx (fun _ => False) w
abbrev New (w : World) (b : Nat) : Prop := w.heap.size ≤ b
section
variable {w w0 : World} {X : Cx} {M : Mm}
theorem cn_new {b : Nat} (h : Free (cn w0) M b) : New w0 b := by
 by_cases hb : b < w0.heap.size
 · exact (h.1 hb).elim
 · show w0.heap.size ≤ b; omega
theorem MemOk.outF (m : MemOk (cn w0) w0 M w) {i : Nat} {v : Value} {d : D} (h : lk M i = some (.dat v d)) : Rd (New w0) w v d := (m.ok i _ h : Rd _ _ _ _).cast (fun _ => cn_new)
theorem MemOk.callF (m : MemOk X w0 M w) (i : Nat) (hi : lk M i = none) {w' : World} (hb : Below w.heap.size w w') {u : Value} {d : D} (h : Rd (New w) w' u d) : MemOk X w0 ((i, .dat u d) :: M) w' :=
 (m.later hb).dat i hi (h.cast (fun b hb => m.free_out (.inr hb)))
theorem keepNow (m : MemOk X w0 M w) (hX : X.bad = []) {b : Nat} (hb : b < w0.heap.size) : w.heap[b]? = w0.heap[b]? := m.keep.2.2.2.2 b hb (by rw [hX]; exact List.not_mem_nil)
theorem Blk.now {g : Nat} {e : TypeId} {cs : List Value} (h : Blk w0 g e cs) (m : MemOk X w0 M w) (hX : X.bad = []) : Blk w g e cs := (keepNow m hX h.lt).trans h
theorem Rd.now' {S2 : Nat → Prop} {v : Value} {d : D} (h : Rd S2 w0 v d) (m : MemOk X w0 M w) (hX : X.bad = []) : Rd S2 w v d := h.now m (fun b _ => by rw [hX]; exact List.not_mem_nil)
theorem Rd.extA {S2 : Nat → Prop} {p : Option Addr} {l c mm : Nat} {rows : List (List D)} (h : Rd S2 w0 (.slice p l c) (.l mm rows)) (j : Nat) {r : List D} (hr : rows[j]? = some r) : ∃ g off vs, p = some ⟨g, off, none⟩ ∧ l = rows.length ∧ RdL S2 w0 vs r ∧ ∀ {X : Cx} {M : Mm} {w : World}, MemOk X w0 M w → X.bad = [] → w.rangeAt g (off + j * mm) vs := by
 have hj : j < rows.length := (List.getElem?_eq_some_iff.1 hr).1
 rcases Rd.l_out h with rfl | ⟨b, off, c', f, e, hS, hb, hmm, hcell, hrd⟩
 · simp at hj
 · injection e with e1 e2 e3
   have hrm : r.length = mm := hmm r (List.mem_of_getElem? hr)
   refine ⟨b, off, (List.range mm).map (f j), e1, e2, RdL.of (by simp [hrm]) (fun q v d h1 h2 => ?_), fun m hX q v hv => ?_⟩
   · have h1' : q < mm := by have := (List.getElem?_eq_some_iff.1 h2).1; omega
     have : v = f j q := by simpa [h1'] using h1.symm
     subst this
     exact hrd j q r _ hr h2
   · have hq' := (List.getElem?_eq_some_iff.1 hv).1
     have hq2 : q < mm := by simpa using hq'
     have : v = f j q := by simpa [hq2] using hv.symm
     subst this
     rw [World.cell?_of_block (w := w0) (keepNow m hX hb)]
     exact (hcell j q hj hq2).1
theorem Rd.extN {S2 : Nat → Prop} {p : Option Addr} {l c : Nat} {k : IntKind} {zs : List Int} (h : Rd S2 w0 (.slice p l c) (.ns k zs)) (j : Nat) (hj : j < zs.length) : ∃ g off, p = some ⟨g, off, none⟩ ∧ l = zs.length ∧ ∀ {X : Cx} {M : Mm} {w : World}, MemOk X w0 M w → X.bad = [] → w.rangeAt g (off + j * 1) [.int k (zs.getD j 0)] := by
 obtain ⟨a, c', e, hc, h0 | ⟨b, off, rfl, hS, hb, hcell⟩⟩ := h.ns_out
 · omega
 · injection e with e1 e2 e3
   refine ⟨b, off, e1, e2, fun m hX q v hv => ?_⟩
   obtain rfl : q = 0 := by have := (List.getElem?_eq_some_iff.1 hv).1; simpa using this
   simp at hv; subst hv
   rw [World.cell?_of_block (w := w0) (keepNow m hX hb), Nat.add_zero, Nat.mul_one]
   exact hcell j hj
theorem Rd.takeL {S : Nat → Prop} {p : Option Addr} {l c mm : Nat} {rows : List (List D)} (h : Rd S w (.slice p l c) (.l mm rows)) (j : Nat) (hj : j ≤ rows.length) : Rd S w (.slice p j c) (.l mm (rows.take j)) := by
 by_cases h0 : j = 0
 · subst h0; rw [List.take_zero]; exact .l0 _ _ _
 · rcases Rd.l_out h with rfl | ⟨b, off, c', f, e, hS, hb, hmm, hcell, hrd⟩
   · simp at hj; omega
   · obtain ⟨p', c'', e', hle⟩ := h.l_shape
     injection e with e1 e2 e3
     injection e' with e4 e5 e6
     subst e1; subst e6
     have hl : (rows.take j).length = j := by rw [List.length_take]; omega
     have := Rd.l (S := S) (w := w) mm b off c (rows.take j) f hS hb (by omega) (fun r hr => hmm r (List.mem_of_mem_take hr)) (fun i q hi hq => hcell i q (by omega) hq) (fun i q r d hi hq => by
       have hlt : i < j := by have := (List.getElem?_eq_some_iff.1 hi).1; omega
       rw [List.getElem?_take_of_lt hlt] at hi
       exact hrd i q r d hi hq)
     rw [hl] at this; exact this
theorem Rd.dropL {S : Nat → Prop} {p : Option Addr} {l c mm : Nat} {rows : List (List D)} (h : Rd S w (.slice p l c) (.l mm rows)) (j : Nat) (hj : j ≤ rows.length) : Rd S w (.slice (if c = j then p else p.map (·.add (j * mm))) (l - j) (c - j)) (.l mm (rows.drop j)) := by
 obtain ⟨p', c'', e', hle⟩ := h.l_shape
 injection e' with e4 e5 e6
 subst e5
 by_cases h0 : j = rows.length
 · subst h0; rw [List.drop_length, Nat.sub_self]; exact .l0 _ _ _
 · rcases Rd.l_out h with rfl | ⟨b, off, c', f, e, hS, hb, hmm, hcell, hrd⟩
   · simp only [List.length_nil] at hj h0; omega
   · injection e with e1 e2 e3
     subst e1; subst e6
     rw [if_neg (by omega)]
     have hl : (rows.drop j).length = rows.length - j := List.length_drop
     have := Rd.l (S := S) (w := w) mm b (off + j * mm) (c - j) (rows.drop j) (fun i q => f (j + i) q) hS hb (by omega) (fun r hr => hmm r (List.mem_of_mem_drop hr)) (fun i q hi hq => by
       have := hcell (j + i) q (by omega) hq
       rw [show off + j * mm + i * mm + q = off + (j + i) * mm + q by rw [Nat.add_mul]; omega]
       exact this) (fun i q r d hi hq => by
       rw [List.getElem?_drop] at hi
       exact hrd (j + i) q r d hi hq)
     rw [hl] at this
     simpa [Addr.add_mid] using this
theorem MemOk.takeR (m : MemOk X w0 M w) {i : Nat} {p : Option Addr} {l c mm : Nat} {rows : List (List D)} (hm : lk M i = some (.dat (.slice p l c) (.l mm rows))) (j : Nat) (hj : j ≤ rows.length) (i2 : Nat) (hi2 : lk M i2 = none) : MemOk X w0 ((i2, .dat (.slice p j c) (.l mm (rows.take j))) :: M) w := m.dat i2 hi2 ((m.rd hm).takeL j hj)
theorem MemOk.takeS (m : MemOk X w0 M w) (i : Nat) {p : Option Addr} {l c mm : Nat} {e : TypeId} {rows : List (List D)} (h : lk M i = some (.seg (.slice p l c) e mm rows)) (j : Nat) (hj : j ≤ rows.length) : MemOk X w0 ((i, .seg (.slice p j c) e mm (rows.take j)) :: M) w := by
 have ho := m.ok i _ h
 have hbl : ∀ b, (Value.slice p j c).ownBlock = some b → (Value.slice p l c).ownBlock = some b := fun b hb => by cases p <;> exact hb
 exact m.upd i _ (Keep.refl _ _) (fun b hb => .inl ⟨_, h, hbl b hb⟩) (fun hf _ => ⟨(ho.1.take j hj).mono (fun b hlt hS => hf b hlt hS), fun b hb => ho.2 b (hbl b hb)⟩)
end
section
variable {P : Program} {n : Nat} {T : List (Nat × Value)} {a : Act} {w w0 : World} {X : Cx} {M : Mm} {tt : TypeId} {pos : String} {af : Array Edge} {gd : Option (Nat × Bool)} {Q : Exit → Act → World → Prop} {K : Act → World → Prop} {d : Option Tmp}
theorem Blk.sub {g : Nat} {e : TypeId} {cs : List Value} (h : Blk w g e cs) (o k : Nat) : w.rangeAt g o ((cs.drop o).take k) := fun j v hj => by
 have hj' : j < k := by have := (List.getElem?_eq_some_iff.1 hj).1; rw [List.length_take] at this; omega
 rw [List.getElem?_take_of_lt hj', List.getElem?_drop] at hj
 rw [h.cell]; exact hj
theorem y_loadAt1 (ha : Has n T a) {t : TypeId} {td : TypeDesc} {x : Operand} {b o q q' : Nat} {vs : List Value} {v : Value} (hr : w.rangeAt b o vs) (hx : evT T x = some (.pointer (some ⟨b, q', none⟩))) (hq : q' = o + q) (hv : nthL vs q = some v) (hu : P.underlying t = some td) (hd : td.isRow = false) : Yl P a w ⟨d, .load t x, tt, pos, af, gd⟩ v := by
 show (execOp _ _).run P w = _
 subst hq
 have hc' : w.cell? ⟨b, o + q, none⟩ = some v := hr q v (by rw [nthL_eq]; exact hv)
 simp [execOp, ha.ev hx, Instr.loadAt, Instr.sureAddr, run_load1 hu hd hc']
theorem y_min (ha : Has n T a) {t t2 : TypeId} {x y : Operand} {k k2 : IntKind} {p q r : Int} (hx : evT T x = some (.int k p)) (hy : evT T y = some (.int k2 q)) (hr : min p q = r) : Yl P a w ⟨d, .call { callee := .builtin .min, args := #[x, y], argTypes := #[t, t2] }, tt, pos, af, gd⟩ (.int k r) := by
 show (execOp _ _).run P w = _
 have e : (if q < p then q else p) = r := by rw [← hr]; split <;> omega
 simp [execOp, resolve, invoke, builtin, ha.ev hx, ha.ev hy, Builtin.min_, Builtin.min2, e]
theorem y_max (ha : Has n T a) {t t2 : TypeId} {x y : Operand} {k k2 : IntKind} {p q r : Int} (hx : evT T x = some (.int k p)) (hy : evT T y = some (.int k2 q)) (hr : max p q = r) : Yl P a w ⟨d, .call { callee := .builtin .max, args := #[x, y], argTypes := #[t, t2] }, tt, pos, af, gd⟩ (.int k r) := by
 show (execOp _ _).run P w = _
 have e : (if p < q then q else p) = r := by rw [← hr]; split <;> omega
 simp [execOp, resolve, invoke, builtin, ha.ev hx, ha.ev hy, Builtin.max_, Builtin.max2, e]
theorem e_callV (ha : Has n T a) {d : Tmp} {f : FuncId} {x : Operand} {args : Array Operand} {ats : Array TypeId} {fn : Func} {vs : List Value} (hxf : evT T x = some (.func (.func f) #[] #[])) (hf : P.funcs[f]? = some fn) (hn : (fn.name == "runtime.NumGoroutine") = false) (hb : fn.body.isNone = false) (hargs : evA T args.toList = some vs) (ht : Nat.blt d n = true) {R : Ending → World → Prop} (hc : Calls P f vs.toArray w R) (h : ∀ e w', R e w' → ∃ v, e = .returned v ∧ ∀ a', Has n ((d, v) :: T) a' → K a' w') : Oper.wp P ⟨some d, .call { callee := .value x, args := args, argTypes := ats }, tt, pos, af, gd⟩ a w K Q := by
 have hv : args.map a.eval = vs.toArray := by
   apply Array.ext'; rw [Array.toList_map, ha.evA hargs]
 have hr : (execOp a.eval ⟨some d, .call { callee := .value x, args := args, argTypes := ats }, tt, pos, af, gd⟩).run P w = .ok (.enter f vs.toArray) w := by
   have hn' : ¬ fn.name = "runtime.NumGoroutine" := by simpa using hn
   have hb' : ¬ fn.body = none := by cases h9 : fn.body with | none => rw [h9] at hb; cases hb | some c => simp
   simp [execOp, resolve, ha.ev hxf, Deferred.ofValue, invoke, callFunc, hf, hn', hb', hv]
 show Oper.upon P _ a K Q _
 rw [hr]
 show Calls P f vs.toArray w _
 refine hc.mono (fun e w' hR => ?_)
 obtain ⟨v, rfl, hh⟩ := h e w' hR
 exact hh _ (ha.put ht v)
end
end Go.Proofs.Ytocfbocdnklllaa.K
