/- General laws of walks: Ab14, Ab15, Ab16, AbS, Ab17, Ab18, Ab19, AbC, AbD, Vol1, Vol2, Vol3, Vol4, Vol5, Vol6, Vol7, Vol8, Vol9, Vol11. -/
import Derived.Test.YteglmahnkfgelaaG1
import Derived.Laws.MakeOwn
import Derived.Lib.AppendZerosOnto
section
namespace Go.Proofs.Yteglmahnkfgelaa.K
open Go.ChangeShapes Go.WideShapes Go.ChangeAt Go.RowKit
set_option linter.unusedVariables false
set_option linter.unusedSimpArgs false
abbrev cn (w : World) : Cx := cx (fun _ => False) w
abbrev New (w : World) (b : Nat) : Prop := w.heap.size ≤ b
section
variable {w w0 : World} {X : Cx} {M : Mm}
theorem cn_new {b : Nat} (h : Free (cn w0) M b) : New w0 b := by
 by_cases hb : b < w0.heap.size
 · exact (h.1 hb).elim
 show w0.heap.size ≤ b; omega
theorem MemOk.outF (m : MemOk (cn w0) w0 M w) {i : Nat} {v : Value} {d : D} (h : lk M i = some (.dat v d)) : Rd (New w0) w v d := (m.ok i _ h : Rd _ _ _ _).cast (fun _ => cn_new)
theorem MemOk.callF (m : MemOk X w0 M w) (i : Nat) (hi : lk M i = none) {w' : World} (hb : Below w.heap.size w w') {u : Value} {d : D} (h : Rd (New w) w' u d) : MemOk X w0 ((i, .dat u d) :: M) w' :=
 (m.later hb).dat i hi (h.cast (fun b hb => m.free_out (.inr hb)))
theorem keepNow (m : MemOk X w0 M w) (hX : X.bad = []) {b : Nat} (hb : b < w0.heap.size) : w.heap[b]? = w0.heap[b]? := m.keep.2.2.2.2 b hb (by rw [hX]; exact List.not_mem_nil)
theorem Blk.now {g : Nat} {e : TypeId} {cs : List Value} (h : Blk w0 g e cs) (m : MemOk X w0 M w) (hX : X.bad = []) : Blk w g e cs := (keepNow m hX h.lt).trans h
theorem Rd.now' {S2 : Nat → Prop} {v : Value} {d : D} (h : Rd S2 w0 v d) (m : MemOk X w0 M w) (hX : X.bad = []) : Rd S2 w v d := h.now m (fun b _ => by rw [hX]; exact List.not_mem_nil)
theorem Rd.extA {S2 : Nat → Prop} {p : Option Addr} {l c mm : Nat} {rows : List (List D)} (h : Rd S2 w0 (.slice p l c) (.l mm rows)) (j : Nat) {r : List D} (hr : rows[j]? = some r) : ∃ g off vs, p = some ⟨g, off, none⟩ ∧ l = rows.length ∧ RdL S2 w0 vs r ∧ ∀ {X : Cx} {M : Mm} {w : World}, MemOk X w0 M w → X.bad = [] → w.rangeAt g (off + j * mm) vs := by
 have hj : j < rows.length := (List.getElem?_eq_some_iff.1 hr).1
 rcases Rd.l_out h with rfl | ⟨b, off, c', f, e, hS, hb, hmm, hcell, hrd⟩
 · simp at hj
 injection e with e1 e2 e3
 have hrm : r.length = mm := hmm r (List.mem_of_getElem? hr)
 refine ⟨b, off, (List.range mm).map (f j), e1, e2, RdL.of (by simp [hrm]) (fun q v d h1 h2 => ?_), fun m hX q v hv => ?_⟩
 · have h1' : q < mm := by have := (List.getElem?_eq_some_iff.1 h2).1; omega
   have : v = f j q := by simpa [h1'] using h1.symm
   subst this
   exact hrd j q r _ hr h2
 have hq' := (List.getElem?_eq_some_iff.1 hv).1
 have hq2 : q < mm := by simpa using hq'
 have : v = f j q := by simpa [hq2] using hv.symm
 subst this
 rw [World.cell?_of_block (w := w0) (keepNow m hX hb)]
 exact (hcell j q hj hq2).1
theorem Rd.extN {S2 : Nat → Prop} {p : Option Addr} {l c : Nat} {k : IntKind} {zs : List Int} (h : Rd S2 w0 (.slice p l c) (.ns k zs)) (j : Nat) (hj : j < zs.length) : ∃ g off, p = some ⟨g, off, none⟩ ∧ l = zs.length ∧ ∀ {X : Cx} {M : Mm} {w : World}, MemOk X w0 M w → X.bad = [] → w.rangeAt g (off + j * 1) [.int k (zs.getD j 0)] := by
 obtain ⟨a, c', e, hc, h0 | ⟨b, off, rfl, hS, hb, hcell⟩⟩ := h.ns_out
 · omega
 injection e with e1 e2 e3
 refine ⟨b, off, e1, e2, fun m hX q v hv => ?_⟩
 obtain rfl : q = 0 := by have := (List.getElem?_eq_some_iff.1 hv).1; simpa using this
 simp at hv; subst hv
 rw [World.cell?_of_block (w := w0) (keepNow m hX hb), Nat.add_zero, Nat.mul_one]
 exact hcell j hj
theorem Rd.takeL {S : Nat → Prop} {p : Option Addr} {l c mm : Nat} {rows : List (List D)} (h : Rd S w (.slice p l c) (.l mm rows)) (j : Nat) (hj : j ≤ rows.length) : Rd S w (.slice p j c) (.l mm (rows.take j)) := by
 by_cases h0 : j = 0
 · subst h0; rw [List.take_zero]; exact .l0 _ _ _
 rcases Rd.l_out h with rfl | ⟨b, off, c', f, e, hS, hb, hmm, hcell, hrd⟩
 · simp at hj; omega
 obtain ⟨p', c'', e', hle⟩ := h.l_shape
 injection e with e1 e2 e3
 injection e' with e4 e5 e6
 subst e1; subst e6
 have hl : (rows.take j).length = j := by rw [List.length_take]; omega
 have := Rd.l (S := S) (w := w) mm b off c (rows.take j) f hS hb (by omega) (fun r hr => hmm r (List.mem_of_mem_take hr)) (fun i q hi hq => hcell i q (by omega) hq) (fun i q r d hi hq => by
   have hlt : i < j := by have := (List.getElem?_eq_some_iff.1 hi).1; omega
   rw [List.getElem?_take_of_lt hlt] at hi
   exact hrd i q r d hi hq)
 rw [hl] at this; exact this
theorem Rd.dropL {S : Nat → Prop} {p : Option Addr} {l c mm : Nat} {rows : List (List D)} (h : Rd S w (.slice p l c) (.l mm rows)) (j : Nat) (hj : j ≤ rows.length) : Rd S w (.slice (if c = j then p else p.map (·.add (j * mm))) (l - j) (c - j)) (.l mm (rows.drop j)) := by
 obtain ⟨p', c'', e', hle⟩ := h.l_shape
 injection e' with e4 e5 e6
 subst e5
 by_cases h0 : j = rows.length
 · subst h0; rw [List.drop_length, Nat.sub_self]; exact .l0 _ _ _
 rcases Rd.l_out h with rfl | ⟨b, off, c', f, e, hS, hb, hmm, hcell, hrd⟩
 · simp only [List.length_nil] at hj h0; omega
 injection e with e1 e2 e3
 subst e1; subst e6
 rw [if_neg (by omega)]
 have hl : (rows.drop j).length = rows.length - j := List.length_drop
 have := Rd.l (S := S) (w := w) mm b (off + j * mm) (c - j) (rows.drop j) (fun i q => f (j + i) q) hS hb (by omega) (fun r hr => hmm r (List.mem_of_mem_drop hr)) (fun i q hi hq => by
   have := hcell (j + i) q (by omega) hq
   rw [show off + j * mm + i * mm + q = off + (j + i) * mm + q by rw [Nat.add_mul]; omega]
   exact this) (fun i q r d hi hq => by
   rw [List.getElem?_drop] at hi
   exact hrd (j + i) q r d hi hq)
 rw [hl] at this
 simpa [Addr.add_mid] using this
theorem MemOk.takeR (m : MemOk X w0 M w) {i : Nat} {p : Option Addr} {l c mm : Nat} {rows : List (List D)} (hm : lk M i = some (.dat (.slice p l c) (.l mm rows))) (j : Nat) (hj : j ≤ rows.length) (i2 : Nat) (hi2 : lk M i2 = none) : MemOk X w0 ((i2, .dat (.slice p j c) (.l mm (rows.take j))) :: M) w := m.dat i2 hi2 ((m.rd hm).takeL j hj)
theorem MemOk.dropR (m : MemOk X w0 M w) {i : Nat} {p : Option Addr} {l c mm : Nat} {rows : List (List D)} (hm : lk M i = some (.dat (.slice p l c) (.l mm rows))) (j : Nat) (hj : j ≤ rows.length) (i2 : Nat) (hi2 : lk M i2 = none) : MemOk X w0 ((i2, .dat (.slice (if c = j then p else p.map (·.add (j * mm))) (l - j) (c - j)) (.l mm (rows.drop j))) :: M) w := m.dat i2 hi2 ((m.rd hm).dropL j hj)
end
section
variable {P : Program} {n : Nat} {T : List (Nat × Value)} {a : Act} {w w0 : World} {X : Cx} {M : Mm} {tt : TypeId} {pos : String} {af : Array Edge} {gd : Option (Nat × Bool)} {Q : Exit → Act → World → Prop} {K : Act → World → Prop} {d : Option Tmp}
theorem Blk.sub {g : Nat} {e : TypeId} {cs : List Value} (h : Blk w g e cs) (o k : Nat) : w.rangeAt g o ((cs.drop o).take k) := fun j v hj => by
 have hj' : j < k := by have := (List.getElem?_eq_some_iff.1 hj).1; rw [List.length_take] at this; omega
 rw [List.getElem?_take_of_lt hj', List.getElem?_drop] at hj
 rw [h.cell]; exact hj
theorem y_loadAt1 (ha : Has n T a) {t : TypeId} {td : TypeDesc} {x : Operand} {b o q q' : Nat} {vs : List Value} {v : Value} (hr : w.rangeAt b o vs) (hx : evT T x = some (.pointer (some ⟨b, q', none⟩))) (hq : q' = o + q) (hv : nthL vs q = some v) (hu : P.underlying t = some td) (hd : td.isRow = false) : Yl P a w ⟨d, .load t x, tt, pos, af, gd⟩ v := by
 show (execOp _ _).run P w = _
 subst hq
 have hc' : w.cell? ⟨b, o + q, none⟩ = some v := hr q v (by rw [nthL_eq]; exact hv)
 simp [execOp, ha.ev hx, Instr.loadAt, Instr.sureAddr, run_load1 hu hd hc']
theorem y_min (ha : Has n T a) {t t2 : TypeId} {x y : Operand} {k k2 : IntKind} {p q r : Int} (hx : evT T x = some (.int k p)) (hy : evT T y = some (.int k2 q)) (hr : min p q = r) : Yl P a w ⟨d, .call { callee := .builtin .min, args := #[x, y], argTypes := #[t, t2] }, tt, pos, af, gd⟩ (.int k r) := by
 show (execOp _ _).run P w = _
 have e : (if q < p then q else p) = r := by rw [← hr]; split <;> omega
 simp [execOp, resolve, invoke, builtin, ha.ev hx, ha.ev hy, Builtin.min_, Builtin.min2, e]
theorem y_max (ha : Has n T a) {t t2 : TypeId} {x y : Operand} {k k2 : IntKind} {p q r : Int} (hx : evT T x = some (.int k p)) (hy : evT T y = some (.int k2 q)) (hr : max p q = r) : Yl P a w ⟨d, .call { callee := .builtin .max, args := #[x, y], argTypes := #[t, t2] }, tt, pos, af, gd⟩ (.int k r) := by
 show (execOp _ _).run P w = _
 have e : (if p < q then q else p) = r := by rw [← hr]; split <;> omega
 simp [execOp, resolve, invoke, builtin, ha.ev hx, ha.ev hy, Builtin.max_, Builtin.max2, e]
theorem y_cap (h : Has n T a) {t e : TypeId} {x : Operand} {p : Option Addr} {l c : Nat} (hx : evT T x = some (.slice p l c)) (hu : P.underlying t = some (.slice e)) : Yl P a w ⟨d, .call { callee := .builtin .cap, args := #[x], argTypes := #[t] }, tt, pos, af, gd⟩ (.int .i64 c) := by
 show (execOp _ _).run P w = _; simp [execOp, resolve, invoke, builtin, h.ev hx, Builtin.cap_, run_underlying hu, goInt]
theorem e_callV (ha : Has n T a) {d : Tmp} {f : FuncId} {x : Operand} {args : Array Operand} {ats : Array TypeId} {fn : Func} {vs : List Value} (hxf : evT T x = some (.func (.func f) #[] #[])) (hf : P.funcs[f]? = some fn) (hn : (fn.name == "runtime.NumGoroutine") = false) (hb : fn.body.isNone = false) (hargs : evA T args.toList = some vs) (ht : Nat.blt d n = true) {R : Ending → World → Prop} (hc : Calls P f vs.toArray w R) (h : ∀ e w', R e w' → ∃ v, e = .returned v ∧ ∀ a', Has n ((d, v) :: T) a' → K a' w') : Oper.wp P ⟨some d, .call { callee := .value x, args := args, argTypes := ats }, tt, pos, af, gd⟩ a w K Q := by
 have hv : args.map a.eval = vs.toArray := by
   apply Array.ext'; rw [Array.toList_map, ha.evA hargs]
 have hr : (execOp a.eval ⟨some d, .call { callee := .value x, args := args, argTypes := ats }, tt, pos, af, gd⟩).run P w = .ok (.enter f vs.toArray) w := by
   have hn' : ¬ fn.name = "runtime.NumGoroutine" := by simpa using hn
   have hb' : ¬ fn.body = none := by cases h9 : fn.body with | none => rw [h9] at hb; cases hb | some c => simp
   simp [execOp, resolve, ha.ev hxf, Deferred.ofValue, invoke, callFunc, hf, hn', hb', hv]
 show Oper.upon P _ a K Q _
 rw [hr]
 show Calls P f vs.toArray w _
 refine hc.mono (fun e w' hR => ?_)
 obtain ⟨v, rfl, hh⟩ := h e w' hR
 exact hh _ (ha.put ht v)
end
end Go.Proofs.Yteglmahnkfgelaa.K
end
section
namespace Go.Proofs.Yteglmahnkfgelaa.K
open Go.ChangeShapes Go.WideShapes Go.ChangeAt Go.RowKit
set_option linter.unusedVariables false
set_option linter.unusedSimpArgs false
theorem fold_set (off : Nat) : ∀ (l : List Value) (k : Nat) (A : List Value), off + k + l.length ≤ A.length → ((l.zipIdx k).foldl (fun (cs : Array Value) (p : Value × Nat) => cs.setIfInBounds (off + p.2) p.1) A.toArray).toList = A.take (off + k) ++ l ++ A.drop (off + k + l.length)
 | [], k, A, _ => by simp
 | c :: l, k, A, h => by
   simp only [List.length_cons] at h
   rw [List.zipIdx_cons, List.foldl_cons]
   have e : A.toArray.setIfInBounds (off + k) c = (A.set (off + k) c).toArray := by simp
   rw [e, fold_set off l (k + 1) (A.set (off + k) c) (by rw [List.length_set]; omega)]
   have hk : off + k < A.length := by omega
   have e1 : (A.set (off + k) c).take (off + (k + 1)) = A.take (off + k) ++ [c] := by
     rw [show off + (k + 1) = off + k + 1 from by omega, List.take_succ_eq_append_getElem (by rw [List.length_set]; exact hk), List.getElem_set_self, List.take_set_of_le (Nat.le_refl _)]
   have e2 : (A.set (off + k) c).drop (off + (k + 1) + l.length) = A.drop (off + k + (l.length + 1)) := by
     rw [List.drop_set_of_lt (by omega)]; congr 1; omega
   rw [e1, e2, List.length_cons]
   simp
def putL : List Value → List (Nat × Nat) → List (Nat × Value) → Option (List Value)
 | z, _, [] => some z
 | z, ps, (i, v) :: r => match nthL ps i with
   | some (off, sz) => bif Nat.beq v.cells.toList.length sz && Nat.ble (off + sz) z.length then putL (z.take off ++ v.cells.toList ++ z.drop (off + sz)) ps r else none
   | none => none
theorem putL_fill (ps : List (Nat × Nat)) : ∀ (pl : List (Nat × Value)) (z cs : List Value), putL z ps pl = some cs → Instr.fill (fun i => ps[i]?) z.toArray pl = some cs.toArray
 | [], z, cs, h => by unfold putL at h; cases h; rfl
 | (i, v) :: r, z, cs, h => by
   unfold putL at h
   cases hp : nthL ps i with
   | none => rw [hp] at h; cases h
   | some q =>
     obtain ⟨off, sz⟩ := q
     rw [hp] at h
     dsimp only at h
     cases hb : (Nat.beq v.cells.toList.length sz && Nat.ble (off + sz) z.length) with
     | false => rw [hb] at h; cases h
     | true =>
       rw [hb] at h
       dsimp only [cond] at h
       rw [Bool.and_eq_true] at hb
       have h1 := Nat.eq_of_beq_eq_true hb.1
       have h2 := Nat.le_of_ble_eq_true hb.2
       have hsz : v.cells.size = sz := by simpa using h1
       rw [Instr.fill]
       rw [nthL_eq, hp]
       dsimp only
       have hc : ¬ ((v.cells.size ≠ sz || off + v.cells.size > z.toArray.size) = true) := by
         simp [hsz]; omega
       have e : (v.cells.zipIdx.foldl (fun cs (x : Value × Nat) => cs.setIfInBounds (off + x.2) x.1) z.toArray) = (z.take off ++ v.cells.toList ++ z.drop (off + sz)).toArray := by
         apply Array.ext'
         have := fold_set off v.cells.toList 0 z (by rw [Nat.add_zero, h1]; exact h2)
         rw [Nat.add_zero, h1] at this
         rw [← this, ← Array.foldl_toList, Array.toList_zipIdx]
       rw [if_neg (by simpa using hc)]
       have := putL_fill ps r _ _ h
       rw [← this, ← e]
def placesS (P : Program) (t : TypeId) : Option (List (Nat × Nat)) :=
 match P.underlying t with
 | some (.struct fs) => fs.toList.mapM (fun f => (P.info? f.type).map fun i => (f.offset, i.size))
 | _ => none
section
variable {P : Program} {n : Nat} {T : List (Nat × Value)} {a : Act} {w w0 : World} {X : Cx} {M : Mm} {tt : TypeId} {pos : String} {af : Array Edge} {gd : Option (Nat × Bool)} {Q : Exit → Act → World → Prop} {d : Option Tmp}
theorem built_put {t : TypeId} {z cs : List Value} {ps : List (Nat × Nat)} (hz : ((P.info? t).bind (·.zero)).map (·.cells.toList) = some z) (hps : placesS P t = some ps) (pl : List (Nat × Value)) (hp : putL z ps pl = some cs) : P.built t pl = some cs.toArray := by
 unfold placesS at hps
 unfold Program.built
 cases hi : P.info? t with
 | none => simp [hi] at hz
 | some it =>
   cases hu : P.underlying t with
   | none => simp [hu] at hps
   | some td =>
     cases td <;> try (simp [hu] at hps; done)
     case struct fs =>
       cases hzz : it.zero with
       | none => simp [hi, hzz] at hz
       | some zz =>
         have hzl : zz.cells.toList = z := by simpa [hi, hzz] using hz
         have hzc : zz.cells = z.toArray := by rw [← hzl]
         simp only [hu] at hps
         simp only [hzz, hps, hzc]
         have := putL_fill ps pl z cs hp
         simpa using this
theorem y_buildG (h : Has n T a) {t : TypeId} {parts : Array (Nat × Operand)} {z cs : List Value} {pl : List (Nat × Value)} {ps : List (Nat × Nat)} (hp : K.evP T parts.toList = some pl) (hz : ((P.info? t).bind (·.zero)).map (·.cells.toList) = some z) (hps : placesS P t = some ps) (hc : putL z ps pl = some cs) : Yl P a w ⟨d, .build t parts, tt, pos, af, gd⟩ (.agg cs.toArray) := by
 have hb := built_put hz hps pl hc
 have hpl := h.evP hp
 show (execOp _ _).run P w = _
 have hr := run_build (P := P) w t (parts.map fun (i, x) => (i, a.eval x)) cs.toArray (by rw [Array.toList_map]; rw [← hpl] at hb; exact hb)
 simp only [execOp, Sem.run_bind, hr, Result.andThen_ok, Sem.run_pure]
end
section
variable {P : Program} {n : Nat} {T : List (Nat × Value)} {a : Act} {w : World} {tt : TypeId} {pos : String} {af : Array Edge} {ops : Array Oper} {rest : List Oper} {Q : Exit → Act → World → Prop}
theorem Has.unyielded (ha : Has n T a) {j t : Nat} (hj : (ops[j]?).bind (·.dst) = some t) (hb : lk T t = some undef) (ht : Nat.blt t n = true) : Go.yielded ops a.tmps j = none := by
 have hlt : t < a.tmps.size := by rw [ha.sz]; simpa [Nat.blt_eq] using ht
 have := ha.h t _ hb
 unfold Go.yielded
 rw [hj]
 show (match a.tmps[t]? with | some (.bool b) => some b | _ => none) = none
 rw [Array.getElem?_eq_getElem hlt]
 have e : a.tmps[t] = undef := by simpa [Array.getD, hlt] using this
 rw [e]; rfl
theorem st_skipU {d : Tmp} {op : Op} {j t : Nat} {b : Bool} (ha : Has n T a) (hj : (ops[j]?).bind (·.dst) = some t) (hb : lk T t = some undef) (ht2 : Nat.blt t n = true) (ht : Nat.blt d n = true) (h : ∀ a', Has n ((d, undef) :: T) a' → wpList P ops Q rest a' w) : wpList P ops Q (⟨some d, op, tt, pos, af, some (j, b)⟩ :: rest) a w := by
 refine wpList_step fun K hK => ?_
 rw [if_neg (by simp [Region.wanted, ha.unyielded hj hb ht2])]
 exact hK _ _ (h _ (ha.put ht _))
variable {md : Region.Mode} {S : World → Prop} {e : Nat} {listed : Array Bool} {fuel : Nat}
end
section
variable {P : Program} {n : Nat} {T : List (Nat × Value)} {a : Act} {w w0 : World} {X : Cx} {M : Mm} {tt : TypeId} {pos : String} {af : Array Edge} {gd : Option (Nat × Bool)} {d : Option Tmp}
theorem y_loadSV (ha : Has n T a) (m : MemOk X w0 M w) {t : TypeId} {td : TypeDesc} {x : Operand} {i g o l c mm : Nat} {e : TypeId} {rows : List (List D)} (hm : lk M i = some (.seg (.slice (some ⟨g, o, none⟩) l c) e mm rows)) (J : Nat) {r : List D} (hr : rows[J]? = some r) {q q' : Nat} {v : Value} (hq : nthL r q = some (.v v)) (hx : evT T x = some (.pointer (some ⟨g, q', none⟩))) (hq' : q' = o + J * mm + q) (hu : P.underlying t = some td) (hd : td.isRow = false) : Yl P a w ⟨d, .load t x, tt, pos, af, gd⟩ v := by
 obtain ⟨⟨cs, h1, h2, h3, h4, h5⟩, -⟩ := m.ok i _ hm
 subst hq'
 have hJ : J < rows.length := (List.getElem?_eq_some_iff.1 hr).1
 have hJc : cs[J]? = some cs[J] := List.getElem?_eq_getElem (by omega)
 have hc := (h3 cs[J] (List.getElem_mem (by omega))).1
 rw [← nthL_eq] at hq
 have hqr := (List.getElem?_eq_some_iff.1 hq).1
 have hrm := h4 r (List.mem_of_getElem? hr)
 have hxq : cs[J][q]? = some (cs[J][q]'(by omega)) := List.getElem?_eq_getElem (by omega)
 have hv := (h5 J q cs[J] r _ _ hJc hr hxq hq).v_out
 have hl : l = rows.length := by
   rcases h1.2 with ⟨e1, _⟩ | ⟨_, _, _, _, e1, _⟩
   · cases e1
   injection e1
 subst hl
 have hf := flatten_at cs J q cs[J] (fun c hc => (h3 c hc).1) hJc (by omega)
 have hcell := h1.cellAt rfl (J * mm + q) (by calc J * mm + q < J * mm + mm := by omega
     _ = (J + 1) * mm := by rw [Nat.add_mul]; omega
     _ ≤ rows.length * mm := Nat.mul_le_mul_right _ (by omega))
 have hc' : w.cell? ⟨g, o + J * mm + q, none⟩ = some v := by rw [Nat.add_assoc, hcell, hf, hxq, hv]
 show (execOp _ _).run P w = _
 simp [execOp, ha.ev hx, Instr.loadAt, Instr.sureAddr, run_load1 hu hd hc']
end
section
variable {P : Program} {n : Nat} {T : List (Nat × Value)} {a : Act} {w : World} {tt : TypeId} {pos : String} {af : Array Edge} {gd : Option (Nat × Bool)} {Q : Exit → Act → World → Prop} {K : Act → World → Prop}
theorem e_y {d : Tmp} {op : Op} {v : Value} (ha : Has n T a) (ht : Nat.blt d n = true) (hy : Yl P a w ⟨some d, op, tt, pos, af, gd⟩ v) (h : ∀ a', Has n ((d, v) :: T) a' → K a' w) : Oper.wp P ⟨some d, op, tt, pos, af, gd⟩ a w K Q := by
 show Oper.upon P _ a K Q _
 rw [hy]
 exact h _ (ha.put ht v)
end
end Go.Proofs.Yteglmahnkfgelaa.K
end
section
namespace Go.Proofs.Yteglmahnkfgelaa.K
open Go.ChangeShapes Go.WideShapes Go.ChangeAt Go.RowKit
set_option linter.unusedVariables false
set_option linter.unusedSimpArgs false
theorem flatten_set {α : Type} {mm : Nat} (v : α) (q : Nat) (hq : q < mm) : ∀ (cs : List (List α)) (J : Nat) (c : List α), (∀ c ∈ cs, c.length = mm) → cs[J]? = some c → cs.flatten.set (J * mm + q) v = (cs.set J (c.set q v)).flatten
 | [], J, c, _, h => by simp at h
 | a :: cs, 0, c, hc, h => by
   simp at h; subst h
   have ha := hc a (by simp)
   rw [List.set_cons_zero, List.flatten_cons, List.flatten_cons, Nat.zero_mul, Nat.zero_add, List.set_append_left _ _ (by omega)]
 | a :: cs, J + 1, c, hc, h => by
   have ha := hc a (by simp)
   have ih := flatten_set v q hq cs J c (fun c h => hc c (by simp [h])) (by simpa using h)
   rw [List.set_cons_succ, List.flatten_cons, List.flatten_cons, ← ih, List.set_append_right _ _ (by rw [ha, Nat.add_mul]; omega)]
   congr 2
   rw [ha, Nat.add_mul]; omega
theorem RowOk.cast {N : Nat} {S S' : Nat → Prop} {w : World} {v : Value} {e : TypeId} {m : Nat} {rows : List (List D)} (h : RowOk N S w v e m rows) (hs : ∀ b, S b → S' b) : RowOk N S' w v e m rows := by
 obtain ⟨cs, h1, h2, h3, h4, h5⟩ := h
 exact ⟨cs, h1, h2, h3, h4, fun j q c r x d a1 a2 a3 a4 => (h5 j q c r x d a1 a2 a3 a4).cast hs⟩
section
variable {P : Program} {n : Nat} {T : List (Nat × Value)} {a : Act} {w w0 : World} {X : Cx} {M : Mm} {tt : TypeId} {pos : String} {af : Array Edge} {gd : Option (Nat × Bool)} {Q : Exit → Act → World → Prop} {K : Act → World → Prop}
end
end Go.Proofs.Yteglmahnkfgelaa.K
end
section
namespace Go.Proofs.Yteglmahnkfgelaa.K
open Go.ChangeShapes Go.WideShapes Go.ChangeAt Go.RowKit
set_option linter.unusedVariables false
set_option linter.unusedSimpArgs false
theorem Q1x {p : Prop} [Decidable p] : (decide p = true) = p := decide_eq_true_eq
theorem Q2x {p : Prop} [Decidable p] : decide p = false ↔ ¬ p := decide_eq_false_iff_not
theorem Q3x (b : Bool) : (¬ (b = true)) = (b = false) := Bool.not_eq_true b
theorem Q4x (b : Bool) : (¬ (b = false)) = (b = true) := Bool.not_eq_false b
theorem Q5x {a b : Bool} : (!a) = b ↔ a = !b := Bool.not_eq_eq_eq_not
theorem Q6x : (!true) = false := rfl
theorem Q7x : (!false) = true := rfl
theorem Q8x (b : Bool) : (!!b) = b := Bool.not_not b
theorem Q9x {a b : Int} : ¬ a < b ↔ b ≤ a := Int.not_lt
theorem Q0x {a b : Int} : ¬ a ≤ b ↔ b < a := Int.not_le
theorem Qax {α : Sort _} (a b : α) : (a ≠ b) = ¬ (a = b) := ne_eq a b
theorem Qbx {p : Prop} [Decidable p] : ¬ ¬ p ↔ p := Decidable.not_not
theorem QQ : (∀ (p : Prop) [Decidable p], (decide p = true) = p) ∧ (∀ (p : Prop) [Decidable p], decide p = false ↔ ¬ p) ∧ (∀ (b : Bool), (¬ (b = true)) = (b = false)) ∧ (∀ (b : Bool), (¬ (b = false)) = (b = true)) ∧ (∀ (a b : Bool), (!a) = b ↔ a = !b) ∧ ((!true) = false) ∧ ((!false) = true) ∧ (∀ (b : Bool), (!!b) = b) ∧ (∀ (a b : Int), ¬ a < b ↔ b ≤ a) ∧ (∀ (a b : Int), ¬ a ≤ b ↔ b < a) ∧ (∀ (p : Prop) [Decidable p], ¬ ¬ p ↔ p) := ⟨fun _ _ => Q1x, fun _ _ => Q2x, Q3x, Q4x, fun _ _ => Q5x, Q6x, Q7x, Q8x, fun _ _ => Q9x, fun _ _ => Q0x, fun _ _ => Qbx⟩
theorem il {α : Type} {a : α} {p : Prop} : a = a ∨ p := .inl rfl
variable {P : Program} {n : Nat} {T : List (Nat × Value)} {a : Act} {w w0 : World} {X : Cx} {M : Mm} {tt : TypeId} {pos : String} {af : Array Edge} {ops : Array Oper} {Q : Exit → Act → World → Prop} {md : Region.Mode} {e fuel : Nat} {S : World → Prop} {listed : Array Bool}
end Go.Proofs.Yteglmahnkfgelaa.K
end
section
namespace Go.Proofs.Yteglmahnkfgelaa.K
open Go.ChangeShapes Go.WideShapes Go.ChangeAt Go.RowKit
set_option linter.unusedVariables false
set_option linter.unusedSimpArgs false
section
variable {P : Program} {n : Nat} {T : List (Nat × Value)} {a : Act} {w : World} {d : Option Tmp} {tt : TypeId} {pos : String} {af : Array Edge} {gd : Option (Nat × Bool)}
theorem y_makeFunc (h : Has n T a) {f : FuncId} {caps : Array Operand} {vs : List Value} (hargs : evA T caps.toList = some vs) : Yl P a w ⟨d, .makeFunc (.func f) #[] caps, tt, pos, af, gd⟩ (.func (.func f) #[] vs.toArray) := by
 have hv : caps.map a.eval = vs.toArray := by
   apply Array.ext'; rw [Array.toList_map, h.evA hargs]
 show (execOp _ _).run P w = _
 simp [execOp, Instr.makeFunc, hv]
end
section
variable {P : Program} {n : Nat} {T : List (Nat × Value)} {a : Act} {w : World} {Q : Exit → Act → World → Prop} {K : Act → World → Prop} {tt : TypeId} {pos : String} {af : Array Edge} {gd : Option (Nat × Bool)}
theorem e_callC (ha : Has n T a) {d : Tmp} {f : FuncId} {x : Operand} {args : Array Operand} {ats : Array TypeId} {fn : Func} {vs cs : List Value} (hxf : evT T x = some (.func (.func f) #[] cs.toArray)) (hf : P.funcs[f]? = some fn) (hn : (fn.name == "runtime.NumGoroutine") = false) (hb : fn.body.isNone = false) (hargs : evA T args.toList = some vs) (ht : Nat.blt d n = true) {R : Ending → World → Prop} (hc : Calls P f (vs ++ cs).toArray w R) (h : ∀ e w', R e w' → ∃ v, e = .returned v ∧ ∀ a', Has n ((d, v) :: T) a' → K a' w') : Oper.wp P ⟨some d, .call { callee := .value x, args := args, argTypes := ats }, tt, pos, af, gd⟩ a w K Q := by
 have hv : args.map a.eval = vs.toArray := by
   apply Array.ext'; rw [Array.toList_map, ha.evA hargs]
 have hr : (execOp a.eval ⟨some d, .call { callee := .value x, args := args, argTypes := ats }, tt, pos, af, gd⟩).run P w = .ok (.enter f (vs ++ cs).toArray) w := by
   have hn' : ¬ fn.name = "runtime.NumGoroutine" := by simpa using hn
   have hb' : ¬ fn.body = none := by cases h9 : fn.body with | none => rw [h9] at hb; cases hb | some c => simp
   simp [execOp, resolve, ha.ev hxf, Deferred.ofValue, invoke, callFunc, hf, hn', hb', hv]
 show Oper.upon P _ a K Q _
 rw [hr]
 show Calls P f (vs ++ cs).toArray w _
 refine hc.mono (fun e w' hR => ?_)
 obtain ⟨v, rfl, hh⟩ := h e w' hR
 exact hh _ (ha.put ht v)
end
section
variable {P : Program} {n : Nat} {T : List (Nat × Value)} {a : Act} {w w0 : World} {X : Cx} {M : Mm}
theorem retCC (ha : Has n T a) (m : MemOk X w0 M w) {fn : Func} {t s : Tmp} {ty ty2 : TypeId} {td td2 : TypeDesc} {i g i2 g2 : Nat} {e e2 : TypeId} {cs cs2 : List Value} {R : Ending → World → Prop} (hr : fn.results = #[.cell t ty, .cell s ty2]) (hv : lk T t = some (.pointer (some ⟨g, 0, none⟩))) (hv2 : lk T s = some (.pointer (some ⟨g2, 0, none⟩))) (hm : lk M i = some (.box g e cs)) (hm2 : lk M i2 = some (.box g2 e2 cs2)) (hu : P.underlying ty = some td) (hd : td.isRow = true) (hs : (P.info? ty).map (·.size) = some cs.length) (hu2 : P.underlying ty2 = some td2) (hd2 : td2.isRow = true) (hs2 : (P.info? ty2).map (·.size) = some cs2.length) (h : R (.returned (.tuple #[.agg cs.toArray, .agg cs2.toArray])) w) : bodyPost P fn R .ret a w :=
 ⟨ha.d, _, by
   have h1 := ha.h t _ hv
   have h2 := ha.h s _ hv2
   rw [Array.getD_eq_getD_getElem?] at h1 h2
   simp [results, hr, h1, h2, asAddr, run_loadBox m hm hu hd hs, run_loadBox m hm2 hu2 hd2 hs2], h⟩
end
end Go.Proofs.Yteglmahnkfgelaa.K
end
section
namespace Go.Proofs.Yteglmahnkfgelaa.K
open Go.ChangeShapes Go.WideShapes Go.ChangeAt Go.RowKit
set_option linter.unusedVariables false
set_option linter.unusedSimpArgs false
section
variable {P : Program} {n : Nat} {T : List (Nat × Value)} {a : Act} {w w0 : World} {X : Cx} {M : Mm} {tt : TypeId} {pos : String} {af : Array Edge} {gd : Option (Nat × Bool)} {Q : Exit → Act → World → Prop} {K : Act → World → Prop}
theorem e_storeSD (ha : Has n T a) (m : MemOk X w0 M w) (i : Nat) {g o l c mm : Nat} {t e : TypeId} {x y : Operand} {rows : List (List D)} {v : Value} {dd : D} (hm : lk M i = some (.seg (.slice (some ⟨g, o, none⟩) l c) e mm rows)) (J : Nat) {r : List D} (hr : rows[J]? = some r) {q q' : Nat} (hq : Nat.blt q mm = true) (hx : evT T x = some (.pointer (some ⟨g, q', none⟩))) (hq' : q' = o + J * mm + q) (hy : evT T y = some v) (hv : v.oneCell' = true) (hs : (P.info? t).map (·.size) = some 1) (hdd : Rd (Free X M) w v dd)
   (h : ∀ w', MemOk X w0 ((i, .seg (.slice (some ⟨g, o, none⟩) l c) e mm (rows.set J (r.set q dd))) :: M) w' → K a w') : Oper.wp P ⟨none, .store t x y, tt, pos, af, gd⟩ a w K Q := by
 obtain ⟨⟨cs, h1, h2, h3, h4, h5⟩, hX⟩ := m.ok i _ hm
 subst hq'
 have hq0 : q < mm := by simpa [Nat.blt_eq] using hq
 have hJ : J < rows.length := (List.getElem?_eq_some_iff.1 hr).1
 have hJc : cs[J]? = some cs[J] := List.getElem?_eq_getElem (by omega)
 rcases h1.2 with ⟨e1, _⟩ | ⟨g', off, cap, cur, e1, hg', hbk, hnc, hcm, hcs, htk⟩
 · cases e1
 injection e1 with e1 e2 e3
 injection e1 with e1
 injection e1 with e1 e4
 subst e1; subst e4; subst e2; subst e3
 have hJm : J * mm + q < rows.length * mm := by
   calc J * mm + q < J * mm + mm := by omega
     _ = (J + 1) * mm := by rw [Nat.add_mul]; omega
     _ ≤ rows.length * mm := Nat.mul_le_mul_right _ (by omega)
 have hcapm : rows.length * mm ≤ c * mm := Nat.mul_le_mul_right _ hnc
 have hb : Blk w g e cur.toList := by unfold Blk; rw [Array.toArray_toList]; exact hbk
 have hcl : cur.toList.length = cur.size := Array.length_toList
 obtain ⟨w', hrn, hb', hk⟩ := run_storeVar_blk (P := P) hb (o + J * mm + q) t [v] (by simp; omega) (by simpa using hs) (by simpa using hv)
 have hst : (Instr.storeAt t (.pointer (some ⟨g, o + J * mm + q, none⟩)) v).run P w = .ok () w' := by
   have e1 : v.cells = #[v] := cells_one hv
   have e2 : (Value.agg #[v]).cells = #[v] := rfl
   simp only [Instr.storeAt, storeVar, List.toArray, e1, e2] at hrn ⊢
   exact hrn
 have hrun : (execOp a.eval ⟨none, .store t x y, tt, pos, af, gd⟩).run P w = .ok .skip w' := by
   simp [execOp, ha.ev hx, ha.ev hy, hst]
 show Oper.upon P _ a K Q _
 rw [hrun]
 have hcur : cur.toList.take (o + J * mm + q) ++ [v] ++ cur.toList.drop (o + J * mm + q + [v].length) = cur.toList.set (o + J * mm + q) v := by
   rw [List.set_eq_take_append_cons_drop, if_pos (by omega)]; simp
 rw [hcur] at hb'
 have hlen : (rows.set J (r.set q dd)).length = rows.length := List.length_set ..
 have hkeep : Keep (fun b => ∃ r, lk M i = some r ∧ r.blk = some b) w w' := (hk (fun b => b = g) rfl).mono (fun b e => ⟨_, hm, by rw [show b = g from e]; rfl⟩)
 refine h w' (m.upd i _ hkeep (fun b hb => .inl ⟨_, hm, hb⟩) (fun hf _ => ⟨⟨cs.set J (cs[J].set q v), ?_, by rw [List.length_set, h2, hlen], fun c' hc' => ?_, fun r' hr' => ?_, fun j q2 c' r' x' d a1 a2 a3 a4 => ?_⟩, hX⟩))
 · rw [hlen, ← flatten_set v q hq0 cs J cs[J] (fun c hc => (h3 c hc).1) hJc]
   refine ⟨by rw [List.length_set]; exact h1.1, .inr ⟨g, o, c, (cur.toList.set (o + J * mm + q) v).toArray, rfl, Nat.zero_le _, hb', hnc, hcm, by simp; omega, ?_⟩⟩
   rw [← htk]
   show ((cur.toList.set (o + J * mm + q) v).drop o).take (rows.length * mm) = _
   rw [List.drop_set, if_neg (by omega), List.take_set]
   congr 1; omega
 · rcases List.mem_or_eq_of_mem_set hc' with hc' | rfl
   · exact h3 c' hc'
   have := h3 cs[J] (List.getElem_mem (by omega))
   refine ⟨by rw [List.length_set]; exact this.1, fun x hx => ?_⟩
   rcases List.mem_or_eq_of_mem_set hx with hx | rfl
   · exact this.2 x hx
   exact hv
 · rcases List.mem_or_eq_of_mem_set hr' with hr' | rfl
   · exact h4 r' hr'
   rw [List.length_set]; exact h4 r (List.mem_of_getElem? hr)
 have hmono : ∀ b, b < w.heap.size → Free X M b → w'.heap[b]? = w.heap[b]? ∧ Free X ((i, Res.seg (.slice (some ⟨g, o, none⟩) rows.length c) e mm (rows.set J (r.set q dd))) :: M) b := fun b hlt hF => ⟨(hk (fun b => b = g) rfl).2.2.2.2 b hlt (fun e => hF.2 ⟨i, _, hm, by rw [show b = g from e]; rfl⟩), hf b hlt hF⟩
 have hsz := hkeep.size
 by_cases hjJ : j = J
 · subst hjJ
   rw [List.getElem?_set_self (by omega)] at a1
   rw [List.getElem?_set_self (by omega)] at a2
   cases a1; cases a2
   by_cases hqq : q2 = q
   · subst hqq
     have l1 := (List.getElem?_eq_some_iff.1 a3).1
     have l2 := (List.getElem?_eq_some_iff.1 a4).1
     rw [List.length_set] at l1 l2
     rw [List.getElem?_set_self l1] at a3
     rw [List.getElem?_set_self l2] at a4
     cases a3; cases a4
     exact hdd.mono hsz hmono
   rw [List.getElem?_set_ne (by omega)] at a3
   rw [List.getElem?_set_ne (by omega)] at a4
   exact (h5 j q2 _ r x' d hJc hr a3 a4).mono hsz hmono
 rw [List.getElem?_set_ne (by omega)] at a1
 rw [List.getElem?_set_ne (by omega)] at a2
 exact (h5 j q2 c' r' x' d a1 a2 a3 a4).mono hsz hmono
theorem madeZ (k : IntKind) (n : Nat) : (madeCells (Value.int k 0).cells n).toList = (List.replicate n 0).map (Value.int k) := by
 unfold madeCells
 apply List.ext_getElem
 · simp
 intro i h1 h2
 simp [Value.cells, Nat.mod_one]
theorem e_makeN (ha : Has n T a) (m : MemOk X w0 M w) (i : Nat) {d : Tmp} {t e : TypeId} {x y : Operand} {k kx ky : IntKind} {q q2 : Int} {bytes : Nat} (N : Nat) (hx : evT T x = some (.int kx q)) (hy : evT T y = some (.int ky q2)) (hq : q = N) (hq2 : q2 = N) (ht : P.underlying t = some (.slice e)) (hinf : (P.info? e).map (fun i => (i.zero, i.size, i.bytes)) = some (some (.int k 0), 1, bytes)) (hb8 : bytes ≤ 1000) (hN : N ≤ 100000000) (hd : Nat.blt d n = true)
   (h : ∀ p c a' w', Has n ((d, .slice p N c) :: T) a' → MemOk X w0 ((i, .num (.slice p N c) e k (List.replicate N 0)) :: M) w' → K a' w') : Oper.wp P ⟨some d, .makeSlice t x y, tt, pos, af, gd⟩ a w K Q := by
 obtain ⟨i0, hi, hz0, hz1, hz2⟩ := info_parts hinf
 subst hq; subst hq2
 have hby : N * bytes ≤ 100000000000 := Nat.mul_le_mul hN hb8
 have hby2 : (bytes : Int) * (N : Int) ≤ 281474976710656 := by
   rw [← Int.natCast_mul, Nat.mul_comm]; omega
 have hr := run_make (P := P) w t e i0 _ ht hi hz0 kx ky (N : Int) (N : Int) (by omega) (by omega) (by rw [hz2]; exact hby2) (by omega)
 rw [hz1, Nat.mul_one, Int.toNat_natCast] at hr
 have hrun : (execOp a.eval ⟨some d, .makeSlice t x y, tt, pos, af, gd⟩).run P w = .ok (.value (.slice (some ⟨w.heap.size, 0, none⟩) N N)) (w.alloc (.cells (madeCells (Value.int k 0).cells N) e)) := by
   simp [execOp, ha.ev hx, ha.ev hy, hr]
 show Oper.upon P _ a K Q _
 rw [hrun]
 refine h _ _ _ _ (ha.put hd _) (m.newN i ((Below.refl _ w).alloc (Nat.le_refl _) _) ?_)
 rw [List.length_replicate]
 refine ⟨by simp, .inr ⟨w.heap.size, N, madeCells (Value.int k 0).cells N, rfl, Nat.le_refl _, heap_alloc_new w _, Nat.le_refl _, by unfold maxLen; omega, by rw [size_madeCells, Nat.mul_one], ?_⟩⟩
 rw [madeZ, Nat.mul_one, List.take_of_length_le (by simp)]
end
end Go.Proofs.Yteglmahnkfgelaa.K
end
section
namespace Go.Proofs.Yteglmahnkfgelaa.K
open Go.ChangeShapes Go.WideShapes Go.ChangeAt Go.RowKit
set_option linter.unusedVariables false
set_option linter.unusedSimpArgs false
variable {P : Program} {n : Nat} {T : List (Nat × Value)} {a : Act} {w : World} {d : Option Tmp} {tt : TypeId} {pos : String} {af : Array Edge} {gd : Option (Nat × Bool)}
end Go.Proofs.Yteglmahnkfgelaa.K
end
section
namespace Go.Proofs.Yteglmahnkfgelaa.K
open Go.ChangeShapes Go.WideShapes Go.ChangeAt Go.RowKit
set_option linter.unusedVariables false
set_option linter.unusedSimpArgs false
inductive Ch (P : Program) (n : Nat) (ops : Array Oper) (w : World) : List Oper → List (Nat × Value) → List Oper → List (Nat × Value) → Prop
 | nil {L : List Oper} {T : List (Nat × Value)} : Ch P n ops w L T L T
 | c {d : Tmp} {op : Op} {v : Value} {L L' : List Oper} {T T' : List (Nat × Value)} {tt : TypeId} {pos : String} {af : Array Edge} (ht : Nat.blt d n = true) (hy : ∀ a, Has n T a → Yl P a w ⟨some d, op, tt, pos, af, none⟩ v) (t : Ch P n ops w L ((d, v) :: T) L' T') : Ch P n ops w (⟨some d, op, tt, pos, af, none⟩ :: L) T L' T'
 | g {d : Tmp} {op : Op} {v : Value} {L L' : List Oper} {T T' : List (Nat × Value)} {tt : TypeId} {pos : String} {af : Array Edge} {j t : Nat} {b : Bool} (hj : (ops[j]?).bind (·.dst) = some t) (hb : lk T t = some (.bool b)) (ht2 : Nat.blt t n = true) (ht : Nat.blt d n = true) (hy : ∀ a, Has n T a → Yl P a w ⟨some d, op, tt, pos, af, some (j, b)⟩ v) (tl : Ch P n ops w L ((d, v) :: T) L' T') : Ch P n ops w (⟨some d, op, tt, pos, af, some (j, b)⟩ :: L) T L' T'
 | s {d : Tmp} {op : Op} {L L' : List Oper} {T T' : List (Nat × Value)} {tt : TypeId} {pos : String} {af : Array Edge} {j t : Nat} {b : Bool} (hj : (ops[j]?).bind (·.dst) = some t) (hb : lk T t = some (.bool !b)) (ht2 : Nat.blt t n = true) (ht : Nat.blt d n = true) (tl : Ch P n ops w L ((d, undef) :: T) L' T') : Ch P n ops w (⟨some d, op, tt, pos, af, some (j, b)⟩ :: L) T L' T'
theorem goCh {P : Program} {n : Nat} {ops : Array Oper} {w : World} {Q : Exit → Act → World → Prop} {L L' : List Oper} {T T' : List (Nat × Value)} {a : Act} (ha : Has n T a) (hc : Ch P n ops w L T L' T') (h : ∀ a', Has n T' a' → wpList P ops Q L' a' w) : wpList P ops Q L a w := by
 induction hc generalizing a with
 | nil => exact h a ha
 | c ht hy t ih => exact st_y ha ht (hy a ha) (fun a' ha' => ih ha' h)
 | g hj hb ht2 ht hy t ih => exact st_g ha hj hb ht2 ht (hy a ha) (fun a' ha' => ih ha' h)
 | s hj hb ht2 ht t ih => exact st_skip ha hj hb ht2 ht (fun a' ha' => ih ha' h)
theorem regS {P : Program} {n id : Nat} {l : List Oper} {y : Code} {w : World} {Q : Exit → Act → World → Prop} {T T' : List (Nat × Value)} {a : Act} (ha : Has n T a) (hc : Ch P n l.toArray w l T [] T') (h : ∀ a', Has n T' a' → y.wp P Q a' w) : ((Code.region id l.toArray false).seq y).wp P Q a w :=
 wp_seq_k (fun K hK => wp_region_lit (goCh ha hc (fun a' ha' => wpList_nil (hK _ _ (h a' ha')))))
/-! short -/
section
variable {P : Program} {n : Nat} {ops : Array Oper} {L L' : List Oper} {T T' : List (Nat × Value)} {w w0 : World} {X : Cx} {M : Mm} {dd : Tmp} {tt : TypeId} {pos : String} {af : Array Edge} {x y z : Operand} {k : IntKind} {p q r : Int} {t t2 : TypeId}
theorem Ch.move {x : Operand} {v : Value} (hx : evT T x = some v) (tl : Ch P n ops w L ((dd, v) :: T) L' T') (ht : Nat.blt dd n = true := by rfl) : Ch P n ops w (⟨some dd, .move x, tt, pos, af, none⟩ :: L) T L' T' := .c ht (fun _ h => y_move h hx) tl
theorem Ch.moveZ {x : Operand} {v : Value} (hx : evT T x = some v) {j tg : Nat} {bb : Bool} (tl : Ch P n ops w L ((dd, v) :: T) L' T') (hj : (ops[j]?).bind (·.dst) = some tg := by rfl) (hb : lk T tg = some (.bool bb) := by rfl) (ht2 : Nat.blt tg n = true := by rfl) (ht : Nat.blt dd n = true := by rfl) : Ch P n ops w (⟨some dd, .move x, tt, pos, af, some (j, bb)⟩ :: L) T L' T' := .g hj hb ht2 ht (fun _ h => y_move h hx) tl
theorem Ch.assign {x : Operand} {v : Value} (hx : evT T x = some v) (tl : Ch P n ops w L ((dd, v) :: T) L' T') (ht : Nat.blt dd n = true := by rfl) : Ch P n ops w (⟨some dd, .assign x, tt, pos, af, none⟩ :: L) T L' T' := .c ht (fun _ h => y_assign h hx) tl
theorem Ch.pickT {c x y : Operand} {v : Value} (hc : evT T c = some (.bool true)) (hx : evT T x = some v) (tl : Ch P n ops w L ((dd, v) :: T) L' T') (ht : Nat.blt dd n = true := by rfl) : Ch P n ops w (⟨some dd, .pick c x y, tt, pos, af, none⟩ :: L) T L' T' := .c ht (fun _ h => y_pickT h hc hx) tl
theorem Ch.pickTZ {c x y : Operand} {v : Value} (hc : evT T c = some (.bool true)) (hx : evT T x = some v) {j tg : Nat} {bb : Bool} (tl : Ch P n ops w L ((dd, v) :: T) L' T') (hj : (ops[j]?).bind (·.dst) = some tg := by rfl) (hb : lk T tg = some (.bool bb) := by rfl) (ht2 : Nat.blt tg n = true := by rfl) (ht : Nat.blt dd n = true := by rfl) : Ch P n ops w (⟨some dd, .pick c x y, tt, pos, af, some (j, bb)⟩ :: L) T L' T' := .g hj hb ht2 ht (fun _ h => y_pickT h hc hx) tl
theorem Ch.pickF {c x y : Operand} {v : Value} (hc : evT T c = some (.bool false)) (hx : evT T y = some v) (tl : Ch P n ops w L ((dd, v) :: T) L' T') (ht : Nat.blt dd n = true := by rfl) : Ch P n ops w (⟨some dd, .pick c x y, tt, pos, af, none⟩ :: L) T L' T' := .c ht (fun _ h => y_pickF h hc hx) tl
theorem Ch.pickFZ {c x y : Operand} {v : Value} (hc : evT T c = some (.bool false)) (hx : evT T y = some v) {j tg : Nat} {bb : Bool} (tl : Ch P n ops w L ((dd, v) :: T) L' T') (hj : (ops[j]?).bind (·.dst) = some tg := by rfl) (hb : lk T tg = some (.bool bb) := by rfl) (ht2 : Nat.blt tg n = true := by rfl) (ht : Nat.blt dd n = true := by rfl) : Ch P n ops w (⟨some dd, .pick c x y, tt, pos, af, some (j, bb)⟩ :: L) T L' T' := .g hj hb ht2 ht (fun _ h => y_pickF h hc hx) tl
theorem Ch.not {t : TypeId} {x : Operand} {b : Bool} (hx : evT T x = some (.bool b)) (tl : Ch P n ops w L ((dd, (.bool !b)) :: T) L' T') (ht : Nat.blt dd n = true := by rfl) : Ch P n ops w (⟨some dd, .unOp .not t x, tt, pos, af, none⟩ :: L) T L' T' := .c ht (fun _ h => y_not h hx) tl
theorem Ch.notZ {t : TypeId} {x : Operand} {b : Bool} (hx : evT T x = some (.bool b)) {j tg : Nat} {bb : Bool} (tl : Ch P n ops w L ((dd, (.bool !b)) :: T) L' T') (hj : (ops[j]?).bind (·.dst) = some tg := by rfl) (hb : lk T tg = some (.bool bb) := by rfl) (ht2 : Nat.blt tg n = true := by rfl) (ht : Nat.blt dd n = true := by rfl) : Ch P n ops w (⟨some dd, .unOp .not t x, tt, pos, af, some (j, bb)⟩ :: L) T L' T' := .g hj hb ht2 ht (fun _ h => y_not h hx) tl
theorem Ch.len {t e : TypeId} {x : Operand} {p : Option Addr} {l c : Nat} (hx : evT T x = some (.slice p l c)) (hu : P.underlying t = some (.slice e)) (tl : Ch P n ops w L ((dd, (.int .i64 l)) :: T) L' T') (ht : Nat.blt dd n = true := by rfl) : Ch P n ops w (⟨some dd, .call { callee := .builtin .len, args := #[x], argTypes := #[t] }, tt, pos, af, none⟩ :: L) T L' T' := .c ht (fun _ h => y_len h hx hu) tl
theorem Ch.lenZ {t e : TypeId} {x : Operand} {p : Option Addr} {l c : Nat} (hx : evT T x = some (.slice p l c)) (hu : P.underlying t = some (.slice e)) {j tg : Nat} {bb : Bool} (tl : Ch P n ops w L ((dd, (.int .i64 l)) :: T) L' T') (hj : (ops[j]?).bind (·.dst) = some tg := by rfl) (hb : lk T tg = some (.bool bb) := by rfl) (ht2 : Nat.blt tg n = true := by rfl) (ht : Nat.blt dd n = true := by rfl) : Ch P n ops w (⟨some dd, .call { callee := .builtin .len, args := #[x], argTypes := #[t] }, tt, pos, af, some (j, bb)⟩ :: L) T L' T' := .g hj hb ht2 ht (fun _ h => y_len h hx hu) tl
theorem Ch.add (hx : evT T x = some (.int k p)) (hy : evT T y = some (.int k q)) (hr : k.wrap (p + q) = r) (tl : Ch P n ops w L ((dd, (.int k r)) :: T) L' T') (ht : Nat.blt dd n = true := by rfl) : Ch P n ops w (⟨some dd, .binOp .add t x y t2, tt, pos, af, none⟩ :: L) T L' T' := .c ht (fun _ h => y_add h hx hy hr) tl
theorem Ch.sub (hx : evT T x = some (.int k p)) (hy : evT T y = some (.int k q)) (hr : k.wrap (p - q) = r) (tl : Ch P n ops w L ((dd, (.int k r)) :: T) L' T') (ht : Nat.blt dd n = true := by rfl) : Ch P n ops w (⟨some dd, .binOp .sub t x y t2, tt, pos, af, none⟩ :: L) T L' T' := .c ht (fun _ h => y_sub h hx hy hr) tl
theorem Ch.subZ (hx : evT T x = some (.int k p)) (hy : evT T y = some (.int k q)) (hr : k.wrap (p - q) = r) {j tg : Nat} {bb : Bool} (tl : Ch P n ops w L ((dd, (.int k r)) :: T) L' T') (hj : (ops[j]?).bind (·.dst) = some tg := by rfl) (hb : lk T tg = some (.bool bb) := by rfl) (ht2 : Nat.blt tg n = true := by rfl) (ht : Nat.blt dd n = true := by rfl) : Ch P n ops w (⟨some dd, .binOp .sub t x y t2, tt, pos, af, some (j, bb)⟩ :: L) T L' T' := .g hj hb ht2 ht (fun _ h => y_sub h hx hy hr) tl
theorem Ch.mul (hx : evT T x = some (.int k p)) (hy : evT T y = some (.int k q)) (hr : k.wrap (p * q) = r) (tl : Ch P n ops w L ((dd, (.int k r)) :: T) L' T') (ht : Nat.blt dd n = true := by rfl) : Ch P n ops w (⟨some dd, .binOp .mul t x y t2, tt, pos, af, none⟩ :: L) T L' T' := .c ht (fun _ h => y_mul h hx hy hr) tl
theorem Ch.quo (hx : evT T x = some (.int k p)) (hy : evT T y = some (.int k q)) (h0 : q ≠ 0) (hr : k.wrap (p.tdiv q) = r) (tl : Ch P n ops w L ((dd, (.int k r)) :: T) L' T') (ht : Nat.blt dd n = true := by rfl) : Ch P n ops w (⟨some dd, .binOp .quo t x y t2, tt, pos, af, none⟩ :: L) T L' T' := .c ht (fun _ h => y_quo h hx hy h0 hr) tl
theorem Ch.rem (hx : evT T x = some (.int k p)) (hy : evT T y = some (.int k q)) (h0 : q ≠ 0) (hr : p.tmod q = r) (tl : Ch P n ops w L ((dd, (.int k r)) :: T) L' T') (ht : Nat.blt dd n = true := by rfl) : Ch P n ops w (⟨some dd, .binOp .rem t x y t2, tt, pos, af, none⟩ :: L) T L' T' := .c ht (fun _ h => y_rem h hx hy h0 hr) tl
theorem Ch.remZ (hx : evT T x = some (.int k p)) (hy : evT T y = some (.int k q)) (h0 : q ≠ 0) (hr : p.tmod q = r) {j tg : Nat} {bb : Bool} (tl : Ch P n ops w L ((dd, (.int k r)) :: T) L' T') (hj : (ops[j]?).bind (·.dst) = some tg := by rfl) (hb : lk T tg = some (.bool bb) := by rfl) (ht2 : Nat.blt tg n = true := by rfl) (ht : Nat.blt dd n = true := by rfl) : Ch P n ops w (⟨some dd, .binOp .rem t x y t2, tt, pos, af, some (j, bb)⟩ :: L) T L' T' := .g hj hb ht2 ht (fun _ h => y_rem h hx hy h0 hr) tl
theorem Ch.and (hx : evT T x = some (.int k p)) (hy : evT T y = some (.int k q)) (hr : k.wrap (BitVec.ofInt k.bits p &&& BitVec.ofInt k.bits q).toNat = r) (tl : Ch P n ops w L ((dd, (.int k r)) :: T) L' T') (ht : Nat.blt dd n = true := by rfl) : Ch P n ops w (⟨some dd, .binOp .and t x y t2, tt, pos, af, none⟩ :: L) T L' T' := .c ht (fun _ h => y_and h hx hy hr) tl
theorem Ch.or (hx : evT T x = some (.int k p)) (hy : evT T y = some (.int k q)) (hr : k.wrap (BitVec.ofInt k.bits p ||| BitVec.ofInt k.bits q).toNat = r) (tl : Ch P n ops w L ((dd, (.int k r)) :: T) L' T') (ht : Nat.blt dd n = true := by rfl) : Ch P n ops w (⟨some dd, .binOp .or t x y t2, tt, pos, af, none⟩ :: L) T L' T' := .c ht (fun _ h => y_or h hx hy hr) tl
theorem Ch.shl {yk : IntKind} (hx : evT T x = some (.int k p)) (hy : evT T y = some (.int yk q)) (h0 : 0 ≤ q) (hr : k.wrap (p * 2 ^ min q.toNat k.bits) = r) (tl : Ch P n ops w L ((dd, (.int k r)) :: T) L' T') (ht : Nat.blt dd n = true := by rfl) : Ch P n ops w (⟨some dd, .binOp .shl t x y t2, tt, pos, af, none⟩ :: L) T L' T' := .c ht (fun _ h => y_shl h hx hy h0 hr) tl
theorem Ch.shr {yk : IntKind} (hx : evT T x = some (.int k p)) (hy : evT T y = some (.int yk q)) (h0 : 0 ≤ q) (hr : p.fdiv (2 ^ min q.toNat k.bits) = r) (tl : Ch P n ops w L ((dd, (.int k r)) :: T) L' T') (ht : Nat.blt dd n = true := by rfl) : Ch P n ops w (⟨some dd, .binOp .shr t x y t2, tt, pos, af, none⟩ :: L) T L' T' := .c ht (fun _ h => y_shr h hx hy h0 hr) tl
theorem Ch.lss (hx : evT T x = some (.int k p)) (hy : evT T y = some (.int k q)) (tl : Ch P n ops w L ((dd, (.bool (decide (p < q)))) :: T) L' T') (ht : Nat.blt dd n = true := by rfl) : Ch P n ops w (⟨some dd, .binOp .lss t x y t2, tt, pos, af, none⟩ :: L) T L' T' := .c ht (fun _ h => y_lss h hx hy) tl
theorem Ch.lssZ (hx : evT T x = some (.int k p)) (hy : evT T y = some (.int k q)) {j tg : Nat} {bb : Bool} (tl : Ch P n ops w L ((dd, (.bool (decide (p < q)))) :: T) L' T') (hj : (ops[j]?).bind (·.dst) = some tg := by rfl) (hb : lk T tg = some (.bool bb) := by rfl) (ht2 : Nat.blt tg n = true := by rfl) (ht : Nat.blt dd n = true := by rfl) : Ch P n ops w (⟨some dd, .binOp .lss t x y t2, tt, pos, af, some (j, bb)⟩ :: L) T L' T' := .g hj hb ht2 ht (fun _ h => y_lss h hx hy) tl
theorem Ch.leq (hx : evT T x = some (.int k p)) (hy : evT T y = some (.int k q)) (tl : Ch P n ops w L ((dd, (.bool (decide (p ≤ q)))) :: T) L' T') (ht : Nat.blt dd n = true := by rfl) : Ch P n ops w (⟨some dd, .binOp .leq t x y t2, tt, pos, af, none⟩ :: L) T L' T' := .c ht (fun _ h => y_leq h hx hy) tl
theorem Ch.leqZ (hx : evT T x = some (.int k p)) (hy : evT T y = some (.int k q)) {j tg : Nat} {bb : Bool} (tl : Ch P n ops w L ((dd, (.bool (decide (p ≤ q)))) :: T) L' T') (hj : (ops[j]?).bind (·.dst) = some tg := by rfl) (hb : lk T tg = some (.bool bb) := by rfl) (ht2 : Nat.blt tg n = true := by rfl) (ht : Nat.blt dd n = true := by rfl) : Ch P n ops w (⟨some dd, .binOp .leq t x y t2, tt, pos, af, some (j, bb)⟩ :: L) T L' T' := .g hj hb ht2 ht (fun _ h => y_leq h hx hy) tl
theorem Ch.gtr (hx : evT T x = some (.int k p)) (hy : evT T y = some (.int k q)) (tl : Ch P n ops w L ((dd, (.bool (decide (q < p)))) :: T) L' T') (ht : Nat.blt dd n = true := by rfl) : Ch P n ops w (⟨some dd, .binOp .gtr t x y t2, tt, pos, af, none⟩ :: L) T L' T' := .c ht (fun _ h => y_gtr h hx hy) tl
theorem Ch.gtrZ (hx : evT T x = some (.int k p)) (hy : evT T y = some (.int k q)) {j tg : Nat} {bb : Bool} (tl : Ch P n ops w L ((dd, (.bool (decide (q < p)))) :: T) L' T') (hj : (ops[j]?).bind (·.dst) = some tg := by rfl) (hb : lk T tg = some (.bool bb) := by rfl) (ht2 : Nat.blt tg n = true := by rfl) (ht : Nat.blt dd n = true := by rfl) : Ch P n ops w (⟨some dd, .binOp .gtr t x y t2, tt, pos, af, some (j, bb)⟩ :: L) T L' T' := .g hj hb ht2 ht (fun _ h => y_gtr h hx hy) tl
theorem Ch.geq (hx : evT T x = some (.int k p)) (hy : evT T y = some (.int k q)) (tl : Ch P n ops w L ((dd, (.bool (decide (q ≤ p)))) :: T) L' T') (ht : Nat.blt dd n = true := by rfl) : Ch P n ops w (⟨some dd, .binOp .geq t x y t2, tt, pos, af, none⟩ :: L) T L' T' := .c ht (fun _ h => y_geq h hx hy) tl
theorem Ch.geqZ (hx : evT T x = some (.int k p)) (hy : evT T y = some (.int k q)) {j tg : Nat} {bb : Bool} (tl : Ch P n ops w L ((dd, (.bool (decide (q ≤ p)))) :: T) L' T') (hj : (ops[j]?).bind (·.dst) = some tg := by rfl) (hb : lk T tg = some (.bool bb) := by rfl) (ht2 : Nat.blt tg n = true := by rfl) (ht : Nat.blt dd n = true := by rfl) : Ch P n ops w (⟨some dd, .binOp .geq t x y t2, tt, pos, af, some (j, bb)⟩ :: L) T L' T' := .g hj hb ht2 ht (fun _ h => y_geq h hx hy) tl
theorem Ch.eql (hx : evT T x = some (.int k p)) (hy : evT T y = some (.int k q)) (tl : Ch P n ops w L ((dd, (.bool (decide (p = q)))) :: T) L' T') (ht : Nat.blt dd n = true := by rfl) : Ch P n ops w (⟨some dd, .binOp .eql t x y t2, tt, pos, af, none⟩ :: L) T L' T' := .c ht (fun _ h => y_eql h hx hy) tl
theorem Ch.eqlZ (hx : evT T x = some (.int k p)) (hy : evT T y = some (.int k q)) {j tg : Nat} {bb : Bool} (tl : Ch P n ops w L ((dd, (.bool (decide (p = q)))) :: T) L' T') (hj : (ops[j]?).bind (·.dst) = some tg := by rfl) (hb : lk T tg = some (.bool bb) := by rfl) (ht2 : Nat.blt tg n = true := by rfl) (ht : Nat.blt dd n = true := by rfl) : Ch P n ops w (⟨some dd, .binOp .eql t x y t2, tt, pos, af, some (j, bb)⟩ :: L) T L' T' := .g hj hb ht2 ht (fun _ h => y_eql h hx hy) tl
theorem Ch.neq (hx : evT T x = some (.int k p)) (hy : evT T y = some (.int k q)) (tl : Ch P n ops w L ((dd, (.bool (decide (p ≠ q)))) :: T) L' T') (ht : Nat.blt dd n = true := by rfl) : Ch P n ops w (⟨some dd, .binOp .neq t x y t2, tt, pos, af, none⟩ :: L) T L' T' := .c ht (fun _ h => y_neq h hx hy) tl
theorem Ch.neqZ (hx : evT T x = some (.int k p)) (hy : evT T y = some (.int k q)) {j tg : Nat} {bb : Bool} (tl : Ch P n ops w L ((dd, (.bool (decide (p ≠ q)))) :: T) L' T') (hj : (ops[j]?).bind (·.dst) = some tg := by rfl) (hb : lk T tg = some (.bool bb) := by rfl) (ht2 : Nat.blt tg n = true := by rfl) (ht : Nat.blt dd n = true := by rfl) : Ch P n ops w (⟨some dd, .binOp .neq t x y t2, tt, pos, af, some (j, bb)⟩ :: L) T L' T' := .g hj hb ht2 ht (fun _ h => y_neq h hx hy) tl
theorem Ch.eqlSZ {b c : ByteArray} (hx : evT T x = some (.string b)) (hy : evT T y = some (.string c)) {j tg : Nat} {bb : Bool} (tl : Ch P n ops w L ((dd, (.bool (b.toList == c.toList))) :: T) L' T') (hj : (ops[j]?).bind (·.dst) = some tg := by rfl) (hb : lk T tg = some (.bool bb) := by rfl) (ht2 : Nat.blt tg n = true := by rfl) (ht : Nat.blt dd n = true := by rfl) : Ch P n ops w (⟨some dd, .binOp .eql t x y t2, tt, pos, af, some (j, bb)⟩ :: L) T L' T' := .g hj hb ht2 ht (fun _ h => y_eqlS h hx hy) tl
theorem Ch.neqS {b c : ByteArray} (hx : evT T x = some (.string b)) (hy : evT T y = some (.string c)) (tl : Ch P n ops w L ((dd, (.bool (!(b.toList == c.toList)))) :: T) L' T') (ht : Nat.blt dd n = true := by rfl) : Ch P n ops w (⟨some dd, .binOp .neq t x y t2, tt, pos, af, none⟩ :: L) T L' T' := .c ht (fun _ h => y_neqS h hx hy) tl
theorem Ch.neqSZ {b c : ByteArray} (hx : evT T x = some (.string b)) (hy : evT T y = some (.string c)) {j tg : Nat} {bb : Bool} (tl : Ch P n ops w L ((dd, (.bool (!(b.toList == c.toList)))) :: T) L' T') (hj : (ops[j]?).bind (·.dst) = some tg := by rfl) (hb : lk T tg = some (.bool bb) := by rfl) (ht2 : Nat.blt tg n = true := by rfl) (ht : Nat.blt dd n = true := by rfl) : Ch P n ops w (⟨some dd, .binOp .neq t x y t2, tt, pos, af, some (j, bb)⟩ :: L) T L' T' := .g hj hb ht2 ht (fun _ h => y_neqS h hx hy) tl
theorem Ch.eqlP {e : TypeId} {b : Option Addr} (hx : evT T x = some (.pointer b)) (hy : evT T y = some (.pointer none)) (hu : P.underlying t = some (.pointer e)) (tl : Ch P n ops w L ((dd, (.bool b.isNone)) :: T) L' T') (ht : Nat.blt dd n = true := by rfl) : Ch P n ops w (⟨some dd, .binOp .eql t x y t2, tt, pos, af, none⟩ :: L) T L' T' := .c ht (fun _ h => y_eqlP h hx hy hu) tl
theorem Ch.conv {s e : TypeId} {k' : IntKind} {ds : TypeDesc} (hx : evT T x = some (.int k p)) (hs : P.underlying s = some ds) (hd : P.underlying e = some (.int k')) (hr : k'.wrap p = r) (tl : Ch P n ops w L ((dd, (.int k' r)) :: T) L' T') (ht : Nat.blt dd n = true := by rfl) : Ch P n ops w (⟨some dd, .convert s e x, tt, pos, af, none⟩ :: L) T L' T' := .c ht (fun _ h => y_conv h hx hs hd hr) tl
theorem Ch.extract {x : Operand} {vs : Array Value} {i : Nat} {v : Value} (hx : evT T x = some (.tuple vs)) (hv : nthL vs.toList i = some v) (tl : Ch P n ops w L ((dd, v) :: T) L' T') (ht : Nat.blt dd n = true := by rfl) : Ch P n ops w (⟨some dd, .extract x i, tt, pos, af, none⟩ :: L) T L' T' := .c ht (fun _ h => y_extract h hx hv) tl
theorem Ch.nilCheck {x : Operand} {p : Addr} (hx : evT T x = some (.pointer (some p))) (tl : Ch P n ops w L ((dd, (.pointer (some p))) :: T) L' T') (ht : Nat.blt dd n = true := by rfl) : Ch P n ops w (⟨some dd, .nilCheck x, tt, pos, af, none⟩ :: L) T L' T' := .c ht (fun _ h => y_nilCheck h hx) tl
theorem Ch.nilCheckZ {x : Operand} {p : Addr} (hx : evT T x = some (.pointer (some p))) {j tg : Nat} {bb : Bool} (tl : Ch P n ops w L ((dd, (.pointer (some p))) :: T) L' T') (hj : (ops[j]?).bind (·.dst) = some tg := by rfl) (hb : lk T tg = some (.bool bb) := by rfl) (ht2 : Nat.blt tg n = true := by rfl) (ht : Nat.blt dd n = true := by rfl) : Ch P n ops w (⟨some dd, .nilCheck x, tt, pos, af, some (j, bb)⟩ :: L) T L' T' := .g hj hb ht2 ht (fun _ h => y_nilCheck h hx) tl
theorem Ch.fieldAddr {t : TypeId} {x : Operand} {i g o : Nat} {fs : Array Field} {f : Field} {s off : Nat} (hx : evT T x = some (.pointer (some ⟨g, o, none⟩))) (hu : P.underlying t = some (.struct fs)) (hf : fs[i]? = some f) (hs : (P.info? f.type).map (·.size) = some (s + 1)) (ho : o + f.offset = off) (tl : Ch P n ops w L ((dd, (.pointer (some ⟨g, off, none⟩))) :: T) L' T') (ht : Nat.blt dd n = true := by rfl) : Ch P n ops w (⟨some dd, .fieldAddr t x i, tt, pos, af, none⟩ :: L) T L' T' := .c ht (fun _ h => y_fieldAddr h hx hu hf hs ho) tl
theorem Ch.fieldAddrZ {t : TypeId} {x : Operand} {i g o : Nat} {fs : Array Field} {f : Field} {s off : Nat} (hx : evT T x = some (.pointer (some ⟨g, o, none⟩))) (hu : P.underlying t = some (.struct fs)) (hf : fs[i]? = some f) (hs : (P.info? f.type).map (·.size) = some (s + 1)) (ho : o + f.offset = off) {j tg : Nat} {bb : Bool} (tl : Ch P n ops w L ((dd, (.pointer (some ⟨g, off, none⟩))) :: T) L' T') (hj : (ops[j]?).bind (·.dst) = some tg := by rfl) (hb : lk T tg = some (.bool bb) := by rfl) (ht2 : Nat.blt tg n = true := by rfl) (ht : Nat.blt dd n = true := by rfl) : Ch P n ops w (⟨some dd, .fieldAddr t x i, tt, pos, af, some (j, bb)⟩ :: L) T L' T' := .g hj hb ht2 ht (fun _ h => y_fieldAddr h hx hu hf hs ho) tl
theorem Ch.fieldAddrQ {t : TypeId} {x : Operand} {i g o : Nat} {fs : Array Field} {f : Field} {s : Nat} (q : Nat) (hx : evT T x = some (.pointer (some ⟨g, o, none⟩))) (hu : P.underlying t = some (.struct fs)) (hf : fs[i]? = some f) (hs : (P.info? f.type).map (·.size) = some (s + 1)) (hq : f.offset = q) (tl : Ch P n ops w L ((dd, (.pointer (some ⟨g, o + q, none⟩))) :: T) L' T') (ht : Nat.blt dd n = true := by rfl) : Ch P n ops w (⟨some dd, .fieldAddr t x i, tt, pos, af, none⟩ :: L) T L' T' := .c ht (fun _ h => y_fieldAddrQ h q hx hu hf hs hq) tl
theorem Ch.fieldAddrQZ {t : TypeId} {x : Operand} {i g o : Nat} {fs : Array Field} {f : Field} {s : Nat} (q : Nat) (hx : evT T x = some (.pointer (some ⟨g, o, none⟩))) (hu : P.underlying t = some (.struct fs)) (hf : fs[i]? = some f) (hs : (P.info? f.type).map (·.size) = some (s + 1)) (hq : f.offset = q) {j tg : Nat} {bb : Bool} (tl : Ch P n ops w L ((dd, (.pointer (some ⟨g, o + q, none⟩))) :: T) L' T') (hj : (ops[j]?).bind (·.dst) = some tg := by rfl) (hb : lk T tg = some (.bool bb) := by rfl) (ht2 : Nat.blt tg n = true := by rfl) (ht : Nat.blt dd n = true := by rfl) : Ch P n ops w (⟨some dd, .fieldAddr t x i, tt, pos, af, some (j, bb)⟩ :: L) T L' T' := .g hj hb ht2 ht (fun _ h => y_fieldAddrQ h q hx hu hf hs hq) tl
theorem Ch.build {t : TypeId} {parts : Array (Nat × Operand)} {z cs : List Value} {pl : List (Nat × Value)} (hp : K.evP T parts.toList = some pl) (hz : ((P.info? t).bind (·.zero)).map (·.cells.toList) = some z) (hf : flatS P t z = true) (h1 : pl.all (fun p => decide (p.1 < z.length) && p.2.oneCell') = true) (hc : setL z pl = cs) (tl : Ch P n ops w L ((dd, (.agg cs.toArray)) :: T) L' T') (ht : Nat.blt dd n = true := by rfl) : Ch P n ops w (⟨some dd, .build t parts, tt, pos, af, none⟩ :: L) T L' T' := .c ht (fun _ h => y_build h hp hz hf h1 hc) tl
theorem Ch.loadB1 (m : MemOk X w0 M w) {t : TypeId} {td : TypeDesc} {x : Operand} {i g o : Nat} {e : TypeId} {cs : List Value} {v : Value} (hm : lk M i = some (.box g e cs)) (hx : evT T x = some (.pointer (some ⟨g, o, none⟩))) (hv : cs[o]? = some v) (hu : P.underlying t = some td) (hr : td.isRow = false) (tl : Ch P n ops w L ((dd, v) :: T) L' T') (ht : Nat.blt dd n = true := by rfl) : Ch P n ops w (⟨some dd, .load t x, tt, pos, af, none⟩ :: L) T L' T' := .c ht (fun _ h => y_loadB1 h m hm hx hv hu hr) tl
theorem Ch.loadB1Z (m : MemOk X w0 M w) {t : TypeId} {td : TypeDesc} {x : Operand} {i g o : Nat} {e : TypeId} {cs : List Value} {v : Value} (hm : lk M i = some (.box g e cs)) (hx : evT T x = some (.pointer (some ⟨g, o, none⟩))) (hv : cs[o]? = some v) (hu : P.underlying t = some td) (hr : td.isRow = false) {j tg : Nat} {bb : Bool} (tl : Ch P n ops w L ((dd, v) :: T) L' T') (hj : (ops[j]?).bind (·.dst) = some tg := by rfl) (hb : lk T tg = some (.bool bb) := by rfl) (ht2 : Nat.blt tg n = true := by rfl) (ht : Nat.blt dd n = true := by rfl) : Ch P n ops w (⟨some dd, .load t x, tt, pos, af, some (j, bb)⟩ :: L) T L' T' := .g hj hb ht2 ht (fun _ h => y_loadB1 h m hm hx hv hu hr) tl
theorem Ch.loadBR (m : MemOk X w0 M w) {t : TypeId} {td : TypeDesc} {x : Operand} {i g o k : Nat} {e : TypeId} {cs vs : List Value} (hm : lk M i = some (.box g e cs)) (hx : evT T x = some (.pointer (some ⟨g, o, none⟩))) (hu : P.underlying t = some td) (hr : td.isRow = true) (hs : (P.info? t).map (·.size) = some k) (hk : o + k ≤ cs.length) (hv : (cs.drop o).take k = vs) (tl : Ch P n ops w L ((dd, (.agg vs.toArray)) :: T) L' T') (ht : Nat.blt dd n = true := by rfl) : Ch P n ops w (⟨some dd, .load t x, tt, pos, af, none⟩ :: L) T L' T' := .c ht (fun _ h => y_loadBR h m hm hx hu hr hs hk hv) tl
theorem Ch.loadBRZ (m : MemOk X w0 M w) {t : TypeId} {td : TypeDesc} {x : Operand} {i g o k : Nat} {e : TypeId} {cs vs : List Value} (hm : lk M i = some (.box g e cs)) (hx : evT T x = some (.pointer (some ⟨g, o, none⟩))) (hu : P.underlying t = some td) (hr : td.isRow = true) (hs : (P.info? t).map (·.size) = some k) (hk : o + k ≤ cs.length) (hv : (cs.drop o).take k = vs) {j tg : Nat} {bb : Bool} (tl : Ch P n ops w L ((dd, (.agg vs.toArray)) :: T) L' T') (hj : (ops[j]?).bind (·.dst) = some tg := by rfl) (hb : lk T tg = some (.bool bb) := by rfl) (ht2 : Nat.blt tg n = true := by rfl) (ht : Nat.blt dd n = true := by rfl) : Ch P n ops w (⟨some dd, .load t x, tt, pos, af, some (j, bb)⟩ :: L) T L' T' := .g hj hb ht2 ht (fun _ h => y_loadBR h m hm hx hu hr hs hk hv) tl
theorem Ch.loadC1 (m : MemOk X w0 M w) {t : TypeId} {td : TypeDesc} {x : Operand} {i b o q : Nat} {vs : List Value} {v : Value} (hm : lk M i = some (.cel b o vs)) (hx : evT T x = some (.pointer (some ⟨b, o + q, none⟩))) (hv : vs[q]? = some v) (hu : P.underlying t = some td) (hr : td.isRow = false) (tl : Ch P n ops w L ((dd, v) :: T) L' T') (ht : Nat.blt dd n = true := by rfl) : Ch P n ops w (⟨some dd, .load t x, tt, pos, af, none⟩ :: L) T L' T' := .c ht (fun _ h => y_loadC1 h m hm hx hv hu hr) tl
theorem Ch.loadC0 (m : MemOk X w0 M w) {t : TypeId} {td : TypeDesc} {x : Operand} {i b o : Nat} {vs : List Value} {v : Value} (hm : lk M i = some (.cel b o (v :: vs))) (hx : evT T x = some (.pointer (some ⟨b, o, none⟩))) (hu : P.underlying t = some td) (hr : td.isRow = false) (tl : Ch P n ops w L ((dd, v) :: T) L' T') (ht : Nat.blt dd n = true := by rfl) : Ch P n ops w (⟨some dd, .load t x, tt, pos, af, none⟩ :: L) T L' T' := .c ht (fun _ h => y_loadC0 h m hm hx hu hr) tl
theorem Ch.loadC0Z (m : MemOk X w0 M w) {t : TypeId} {td : TypeDesc} {x : Operand} {i b o : Nat} {vs : List Value} {v : Value} (hm : lk M i = some (.cel b o (v :: vs))) (hx : evT T x = some (.pointer (some ⟨b, o, none⟩))) (hu : P.underlying t = some td) (hr : td.isRow = false) {j tg : Nat} {bb : Bool} (tl : Ch P n ops w L ((dd, v) :: T) L' T') (hj : (ops[j]?).bind (·.dst) = some tg := by rfl) (hb : lk T tg = some (.bool bb) := by rfl) (ht2 : Nat.blt tg n = true := by rfl) (ht : Nat.blt dd n = true := by rfl) : Ch P n ops w (⟨some dd, .load t x, tt, pos, af, some (j, bb)⟩ :: L) T L' T' := .g hj hb ht2 ht (fun _ h => y_loadC0 h m hm hx hu hr) tl
theorem Ch.loadCR (m : MemOk X w0 M w) {t : TypeId} {td : TypeDesc} {x : Operand} {i b o : Nat} {vs : List Value} (hm : lk M i = some (.cel b o vs)) (hx : evT T x = some (.pointer (some ⟨b, o, none⟩))) (hu : P.underlying t = some td) (hr : td.isRow = true) (hs : (P.info? t).map (·.size) = some vs.length) (tl : Ch P n ops w L ((dd, (.agg vs.toArray)) :: T) L' T') (ht : Nat.blt dd n = true := by rfl) : Ch P n ops w (⟨some dd, .load t x, tt, pos, af, none⟩ :: L) T L' T' := .c ht (fun _ h => y_loadCR h m hm hx hu hr hs) tl
theorem Ch.str {s t e : TypeId} {x : Operand} {v : Value} {bs : List Int} (hx : evT T x = some v) (hv : IsNums .u8 w v bs) (hs : P.underlying s = some (.slice e)) (he : P.underlying e = some (.int .u8)) (hd : P.underlying t = some .string) (tl : Ch P n ops w L ((dd, (.string (strOfNums bs))) :: T) L' T') (ht : Nat.blt dd n = true := by rfl) : Ch P n ops w (⟨some dd, .convert s t x, tt, pos, af, none⟩ :: L) T L' T' := .c ht (fun _ h => y_str h hx hv hs he hd) tl
theorem Ch.strZ {s t e : TypeId} {x : Operand} {v : Value} {bs : List Int} (hx : evT T x = some v) (hv : IsNums .u8 w v bs) (hs : P.underlying s = some (.slice e)) (he : P.underlying e = some (.int .u8)) (hd : P.underlying t = some .string) {j tg : Nat} {bb : Bool} (tl : Ch P n ops w L ((dd, (.string (strOfNums bs))) :: T) L' T') (hj : (ops[j]?).bind (·.dst) = some tg := by rfl) (hb : lk T tg = some (.bool bb) := by rfl) (ht2 : Nat.blt tg n = true := by rfl) (ht : Nat.blt dd n = true := by rfl) : Ch P n ops w (⟨some dd, .convert s t x, tt, pos, af, some (j, bb)⟩ :: L) T L' T' := .g hj hb ht2 ht (fun _ h => y_str h hx hv hs he hd) tl
theorem Ch.loadAt {t : TypeId} {td : TypeDesc} {x : Operand} {b o : Nat} {vs : List Value} (hr : w.rangeAt b o vs) (hx : evT T x = some (.pointer (some ⟨b, o, none⟩))) (hu : P.underlying t = some td) (hd : td.isRow = true) (hs : (P.info? t).map (·.size) = some vs.length) (tl : Ch P n ops w L ((dd, (.agg vs.toArray)) :: T) L' T') (ht : Nat.blt dd n = true := by rfl) : Ch P n ops w (⟨some dd, .load t x, tt, pos, af, none⟩ :: L) T L' T' := .c ht (fun _ h => y_loadAt h hr hx hu hd hs) tl
theorem Ch.loadAt1 {t : TypeId} {td : TypeDesc} {x : Operand} {b o q q' : Nat} {vs : List Value} {v : Value} (hr : w.rangeAt b o vs) (hx : evT T x = some (.pointer (some ⟨b, q', none⟩))) (hq : q' = o + q) (hv : nthL vs q = some v) (hu : P.underlying t = some td) (hd : td.isRow = false) (tl : Ch P n ops w L ((dd, v) :: T) L' T') (ht : Nat.blt dd n = true := by rfl) : Ch P n ops w (⟨some dd, .load t x, tt, pos, af, none⟩ :: L) T L' T' := .c ht (fun _ h => y_loadAt1 h hr hx hq hv hu hd) tl
theorem Ch.loadAt1Z {t : TypeId} {td : TypeDesc} {x : Operand} {b o q q' : Nat} {vs : List Value} {v : Value} (hr : w.rangeAt b o vs) (hx : evT T x = some (.pointer (some ⟨b, q', none⟩))) (hq : q' = o + q) (hv : nthL vs q = some v) (hu : P.underlying t = some td) (hd : td.isRow = false) {j tg : Nat} {bb : Bool} (tl : Ch P n ops w L ((dd, v) :: T) L' T') (hj : (ops[j]?).bind (·.dst) = some tg := by rfl) (hb : lk T tg = some (.bool bb) := by rfl) (ht2 : Nat.blt tg n = true := by rfl) (ht : Nat.blt dd n = true := by rfl) : Ch P n ops w (⟨some dd, .load t x, tt, pos, af, some (j, bb)⟩ :: L) T L' T' := .g hj hb ht2 ht (fun _ h => y_loadAt1 h hr hx hq hv hu hd) tl
theorem Ch.cap {t e : TypeId} {x : Operand} {p : Option Addr} {l c : Nat} (hx : evT T x = some (.slice p l c)) (hu : P.underlying t = some (.slice e)) (tl : Ch P n ops w L ((dd, (.int .i64 c)) :: T) L' T') (ht : Nat.blt dd n = true := by rfl) : Ch P n ops w (⟨some dd, .call { callee := .builtin .cap, args := #[x], argTypes := #[t] }, tt, pos, af, none⟩ :: L) T L' T' := .c ht (fun _ h => y_cap h hx hu) tl
theorem Ch.buildG {t : TypeId} {parts : Array (Nat × Operand)} {z cs : List Value} {pl : List (Nat × Value)} {ps : List (Nat × Nat)} (hp : K.evP T parts.toList = some pl) (hz : ((P.info? t).bind (·.zero)).map (·.cells.toList) = some z) (hps : placesS P t = some ps) (hc : putL z ps pl = some cs) (tl : Ch P n ops w L ((dd, (.agg cs.toArray)) :: T) L' T') (ht : Nat.blt dd n = true := by rfl) : Ch P n ops w (⟨some dd, .build t parts, tt, pos, af, none⟩ :: L) T L' T' := .c ht (fun _ h => y_buildG h hp hz hps hc) tl
theorem Ch.loadSVZ (m : MemOk X w0 M w) {t : TypeId} {td : TypeDesc} {x : Operand} {i g o l c mm : Nat} {e : TypeId} {rows : List (List D)} (hm : lk M i = some (.seg (.slice (some ⟨g, o, none⟩) l c) e mm rows)) (J : Nat) {r : List D} (hr : rows[J]? = some r) {q q' : Nat} {v : Value} (hq : nthL r q = some (.v v)) (hx : evT T x = some (.pointer (some ⟨g, q', none⟩))) (hq' : q' = o + J * mm + q) (hu : P.underlying t = some td) (hd : td.isRow = false) {j tg : Nat} {bb : Bool} (tl : Ch P n ops w L ((dd, v) :: T) L' T') (hj : (ops[j]?).bind (·.dst) = some tg := by rfl) (hb : lk T tg = some (.bool bb) := by rfl) (ht2 : Nat.blt tg n = true := by rfl) (ht : Nat.blt dd n = true := by rfl) : Ch P n ops w (⟨some dd, .load t x, tt, pos, af, some (j, bb)⟩ :: L) T L' T' := .g hj hb ht2 ht (fun _ h => y_loadSV h m hm J hr hq hx hq' hu hd) tl
theorem Ch.makeFunc {f : FuncId} {caps : Array Operand} {vs : List Value} (hargs : evA T caps.toList = some vs) (tl : Ch P n ops w L ((dd, (.func (.func f) #[] vs.toArray)) :: T) L' T') (ht : Nat.blt dd n = true := by rfl) : Ch P n ops w (⟨some dd, .makeFunc (.func f) #[] caps, tt, pos, af, none⟩ :: L) T L' T' := .c ht (fun _ h => y_makeFunc h hargs) tl
theorem Ch.sk {op : Op} {j tg : Nat} {bb : Bool} (tl : Ch P n ops w L ((dd, undef) :: T) L' T') (hj : (ops[j]?).bind (·.dst) = some tg := by rfl) (hb : lk T tg = some (.bool !bb) := by rfl) (ht2 : Nat.blt tg n = true := by rfl) (ht : Nat.blt dd n = true := by rfl) : Ch P n ops w (⟨some dd, op, tt, pos, af, some (j, bb)⟩ :: L) T L' T' := .s hj hb ht2 ht tl
end
/-! shorter -/
theorem znl {P : Program} {ops : Array Oper} {Q : Exit → Act → World → Prop} {a : Act} {w : World} (h : Q .normal a w) : wpList P ops Q [] a w := h
theorem zsr {P : Program} {id : Nat} {l : List Oper} {y : Code} {Q : Exit → Act → World → Prop} {a : Act} {w : World} (h : ∀ K : Act → World → Prop, (∀ a w, y.wp P Q a w → K a w) → wpList P l.toArray (Exit.then K Q) l a w) : ((Code.region id l.toArray false).seq y).wp P Q a w := wp_seq_k fun K hK => wp_region_lit (h K hK)
theorem zss {P : Program} {Q : Exit → Act → World → Prop} {a : Act} {w : World} (h : Q .normal a w) : Code.skip.wp P Q a w := wp_skip h
theorem ent0 {P : Program} {f : FuncId} {fn : Func} {c : Code} {w : World} {R : Ending → World → Prop} {N : Nat} (hf : P.funcs[f]? = some fn) (hb : fn.body = some c) (hN : fn.ntmps = N) (h : ∀ a, Has N [] a → c.wp P (bodyPost P fn R) a w) (hl : Nat.ble 0 N = true := by rfl) : Calls P f #[] w R := enter hf hb hN hl h
theorem ent1 {P : Program} {f : FuncId} {fn : Func} {c : Code} {x0 : Value} {w : World} {R : Ending → World → Prop} {N : Nat} (hf : P.funcs[f]? = some fn) (hb : fn.body = some c) (hN : fn.ntmps = N) (h : ∀ a, Has N [(0, x0)] a → c.wp P (bodyPost P fn R) a w) (hl : Nat.ble 1 N = true := by rfl) : Calls P f #[x0] w R := enter hf hb hN hl h
theorem ent2 {P : Program} {f : FuncId} {fn : Func} {c : Code} {x0 x1 : Value} {w : World} {R : Ending → World → Prop} {N : Nat} (hf : P.funcs[f]? = some fn) (hb : fn.body = some c) (hN : fn.ntmps = N) (h : ∀ a, Has N [(0, x0), (1, x1)] a → c.wp P (bodyPost P fn R) a w) (hl : Nat.ble 2 N = true := by rfl) : Calls P f #[x0, x1] w R := enter hf hb hN hl h
theorem ent3 {P : Program} {f : FuncId} {fn : Func} {c : Code} {x0 x1 x2 : Value} {w : World} {R : Ending → World → Prop} {N : Nat} (hf : P.funcs[f]? = some fn) (hb : fn.body = some c) (hN : fn.ntmps = N) (h : ∀ a, Has N [(0, x0), (1, x1), (2, x2)] a → c.wp P (bodyPost P fn R) a w) (hl : Nat.ble 3 N = true := by rfl) : Calls P f #[x0, x1, x2] w R := enter hf hb hN hl h
theorem ent5 {P : Program} {f : FuncId} {fn : Func} {c : Code} {x0 x1 x2 x3 x4 : Value} {w : World} {R : Ending → World → Prop} {N : Nat} (hf : P.funcs[f]? = some fn) (hb : fn.body = some c) (hN : fn.ntmps = N) (h : ∀ a, Has N [(0, x0), (1, x1), (2, x2), (3, x3), (4, x4)] a → c.wp P (bodyPost P fn R) a w) (hl : Nat.ble 5 N = true := by rfl) : Calls P f #[x0, x1, x2, x3, x4] w R := enter hf hb hN hl h
theorem ent6 {P : Program} {f : FuncId} {fn : Func} {c : Code} {x0 x1 x2 x3 x4 x5 : Value} {w : World} {R : Ending → World → Prop} {N : Nat} (hf : P.funcs[f]? = some fn) (hb : fn.body = some c) (hN : fn.ntmps = N) (h : ∀ a, Has N [(0, x0), (1, x1), (2, x2), (3, x3), (4, x4), (5, x5)] a → c.wp P (bodyPost P fn R) a w) (hl : Nat.ble 6 N = true := by rfl) : Calls P f #[x0, x1, x2, x3, x4, x5] w R := enter hf hb hN hl h
section
variable {P : Program} {n : Nat} {ops : Array Oper} {L L' : List Oper} {T T' : List (Nat × Value)} {w w0 : World} {X : Cx} {M : Mm} {dd : Tmp} {tt : TypeId} {pos : String} {af : Array Edge}
theorem Ch.fa {t : TypeId} {x : Operand} {i g o : Nat} {fs : Array Field} {f : Field} (off : Nat) (hx : evT T x = some (.pointer (some ⟨g, o, none⟩))) (hu : P.underlying t = some (.struct fs)) (tl : Ch P n ops w L ((dd, (.pointer (some ⟨g, off, none⟩))) :: T) L' T') (hf : fs[i]? = some f := by rfl) (hs : (P.info? f.type).map (·.size) = some (0 + 1) := by kernel_rfl) (ho : o + f.offset = off := by rfl) (ht : Nat.blt dd n = true := by rfl) : Ch P n ops w (⟨some dd, .fieldAddr t x i, tt, pos, af, none⟩ :: L) T L' T' := .c ht (fun _ h => y_fieldAddr h hx hu hf hs ho) tl
theorem Ch.faZ {t : TypeId} {x : Operand} {i g o : Nat} {fs : Array Field} {f : Field} (off : Nat) (hx : evT T x = some (.pointer (some ⟨g, o, none⟩))) (hu : P.underlying t = some (.struct fs)) {j tg : Nat} {bb : Bool} (tl : Ch P n ops w L ((dd, (.pointer (some ⟨g, off, none⟩))) :: T) L' T') (hf : fs[i]? = some f := by rfl) (hs : (P.info? f.type).map (·.size) = some (0 + 1) := by kernel_rfl) (ho : o + f.offset = off := by rfl) (hj : (ops[j]?).bind (·.dst) = some tg := by rfl) (hb : lk T tg = some (.bool bb) := by rfl) (ht2 : Nat.blt tg n = true := by rfl) (ht : Nat.blt dd n = true := by rfl) : Ch P n ops w (⟨some dd, .fieldAddr t x i, tt, pos, af, some (j, bb)⟩ :: L) T L' T' := .g hj hb ht2 ht (fun _ h => y_fieldAddr h hx hu hf hs ho) tl
theorem Ch.lb (m : MemOk X w0 M w) (i : Nat) {t : TypeId} {td : TypeDesc} {x : Operand} {g o : Nat} {e : TypeId} {cs : List Value} {v : Value} (hu : P.underlying t = some td) (hx : evT T x = some (.pointer (some ⟨g, o, none⟩))) (hm : lk M i = some (.box g e cs)) (hv : cs[o]? = some v) (tl : Ch P n ops w L ((dd, v) :: T) L' T') (hr : td.isRow = false := by rfl) (ht : Nat.blt dd n = true := by rfl) : Ch P n ops w (⟨some dd, .load t x, tt, pos, af, none⟩ :: L) T L' T' := .c ht (fun _ h => y_loadB1 h m hm hx hv hu hr) tl
end
theorem U2 : type_of% Try.underlying2 := Try.underlying2
theorem U3 : type_of% Try.underlying3 := Try.underlying3
theorem U4 : type_of% Try.underlying4 := Try.underlying4
theorem U5 : type_of% Try.underlying5 := Try.underlying5
theorem U9 : type_of% Try.underlying9 := Try.underlying9
theorem U22 : type_of% Try.underlying22 := Try.underlying22
theorem U24 : type_of% Try.underlying24 := Try.underlying24
theorem U25 : type_of% Try.underlying25 := Try.underlying25
theorem U26 : type_of% Try.underlying26 := Try.underlying26
theorem U28 : type_of% Try.underlying28 := Try.underlying28
theorem U31 : type_of% Try.underlying31 := Try.underlying31
theorem U34 : type_of% Try.underlying34 := Try.underlying34
theorem U36 : type_of% Try.underlying36 := Try.underlying36
theorem U41 : type_of% Try.underlying41 := Try.underlying41
theorem U44 : type_of% Try.underlying44 := Try.underlying44
theorem U50 : type_of% Try.underlying50 := Try.underlying50
theorem U51 : type_of% Try.underlying51 := Try.underlying51
theorem U53 : type_of% Try.underlying53 := Try.underlying53
theorem U59 : type_of% Try.underlying59 := Try.underlying59
theorem U65 : type_of% Try.underlying65 := Try.underlying65
theorem U67 : type_of% Try.underlying67 := Try.underlying67
theorem U73 : type_of% Try.underlying73 := Try.underlying73
theorem U76 : type_of% Try.underlying76 := Try.underlying76
theorem U85 : type_of% Try.underlying85 := Try.underlying85
theorem U88 : type_of% Try.underlying88 := Try.underlying88
theorem U101 : type_of% Try.underlying101 := Try.underlying101
theorem U109 : type_of% Try.underlying109 := Try.underlying109
theorem U111 : type_of% Try.underlying111 := Try.underlying111
theorem U113 : type_of% Try.underlying113 := Try.underlying113
theorem U114 : type_of% Try.underlying114 := Try.underlying114
theorem U145 : type_of% Try.underlying145 := Try.underlying145
theorem U153 : type_of% Try.underlying153 := Try.underlying153
theorem U154 : type_of% Try.underlying154 := Try.underlying154
theorem fct0 : (Try.prog.info? 5).map (fun i => (i.zero, i.size, i.bytes)) = some (some (.int .u8 0), 1, 1) := by kernel_rfl
theorem fct1 : (Try.prog.info? 50).map (fun i => (i.zero, i.size, i.bytes)) = some (some (.agg #[.int .i64 0, .slice none 0 0]), 2, 32) := by kernel_rfl
theorem fct2 : (Try.prog.info? 53).map (fun i => (i.zero, i.size, i.bytes)) = some (some (.agg #[.int .i64 0, .slice none 0 0]), 2, 32) := by kernel_rfl
theorem fct3 : (Try.prog.info? 31).map (·.size) = some 8 := by kernel_rfl
theorem fct4 : (Try.prog.info? 36).map (·.size) = some 7 := by kernel_rfl
theorem fct5 : ((Try.prog.info? 31).bind (·.zero)).map (·.cells.toList) = some [.int .i64 0, .int .i64 0, .int .i64 0, .int .i64 0, .int .i64 0, .int .i64 0, .int .i64 0, .slice none 0 0] := by kernel_rfl
theorem fct6 : ((Try.prog.info? 36).bind (·.zero)).map (·.cells.toList) = some [.int .i64 0, .int .i64 0, .int .i64 0, .int .i64 0, .int .i64 0, .int .i64 0, .slice none 0 0] := by kernel_rfl
theorem fct7 : ((Try.prog.info? 50).bind (·.zero)).map (·.cells.toList) = some [.int .i64 0, .slice none 0 0] := by kernel_rfl
theorem fct8 : ((Try.prog.info? 53).bind (·.zero)).map (·.cells.toList) = some [.int .i64 0, .slice none 0 0] := by kernel_rfl
theorem fct9 : (Try.prog.info? 2).map (·.size) = some 1 := by kernel_rfl
theorem fct10 : (Try.prog.info? 26).map (·.size) = some 1 := by kernel_rfl
theorem fct11 : (Try.prog.info? 51).map (·.size) = some 1 := by kernel_rfl
theorem fct12 : (Try.prog.info? 53).map (·.size) = some 2 := by kernel_rfl
theorem fct13 : (Try.prog.info? 85).map (·.size) = some 4 := by kernel_rfl
theorem fct14 : ((Try.prog.info? 85).bind (·.zero)).map (·.cells.toList) = some [.int .i64 0, .int .i64 0, .int .i64 0, .int .i64 0] := by kernel_rfl
theorem fct15 : (Try.prog.info? 5).map (·.size) = some 1 := by kernel_rfl
theorem fct16 : (Try.prog.info? 22).map (·.size) = some 1 := by kernel_rfl
theorem fct17 : (Try.prog.info? 28).map (·.size) = some 11 := by kernel_rfl
theorem fct18 : (Try.prog.info? 73).map (·.size) = some 10 := by kernel_rfl
theorem fct19 : (Try.prog.info? 76).map (·.size) = some 5 := by kernel_rfl
theorem fct20 : ((Try.prog.info? 28).bind (·.zero)).map (·.cells.toList) = some [.int .i64 0, .int .i64 0, .int .i64 0, .int .i64 0, .slice none 0 0, .int .i64 0, .int .i64 0, .bool false, .int .i64 0, .slice none 0 0, .slice none 0 0] := by kernel_rfl
theorem fct21 : ((Try.prog.info? 76).bind (·.zero)).map (·.cells.toList) = some [.int .i64 0, .int .i64 0, .int .i64 0, .int .i64 0, .slice none 0 0] := by kernel_rfl
theorem fct22 : (Try.prog.info? 3).map (·.size) = some 1 := by kernel_rfl
theorem fct23 : ((Try.prog.info? 73).bind (·.zero)).map (·.cells.toList) = some [.int .i64 0, .int .i64 0, .int .i64 0, .int .i64 0, .int .i64 0, .slice none 0 0, .int .i64 0, .int .i64 0, .int .i64 0, .slice none 0 0] := by kernel_rfl
theorem fct24 : (Try.prog.info? 22).map (fun i => (i.zero, i.size, i.bytes)) = some (some (.slice none 0 0), 1, 24) := by kernel_rfl
theorem fct25 : (Try.prog.info? 2).map (fun i => (i.zero, i.size, i.bytes)) = some (some (.int .i64 0), 1, 8) := by kernel_rfl
theorem fct26 : (Try.prog.info? 3).map (fun i => (i.zero, i.size, i.bytes)) = some (some (.int .i64 0), 1, 8) := by kernel_rfl
theorem fct27 : (Try.prog.info? 88).map (·.size) = some 1 := by kernel_rfl
theorem fct28 : (Try.prog.info? 113).map (·.size) = some 2 := by kernel_rfl
theorem fct29 : ((Try.prog.info? 113).bind (·.zero)).map (·.cells.toList) = some [.int .i64 0, .slice none 0 0] := by kernel_rfl
theorem fct30 : ((Try.prog.info? 67).bind (·.zero)).map (·.cells.toList) = some [.slice none 0 0] := by kernel_rfl
theorem fct31 : (Try.prog.info? 50).map (·.size) = some 2 := by kernel_rfl
theorem fct32 : (Try.prog.info? 113).map (fun i => (i.zero, i.size, i.bytes)) = some (some (.agg #[.int .i64 0, .slice none 0 0]), 2, 32) := by kernel_rfl
theorem fct33 : (Try.prog.info? 88).map (fun i => (i.zero, i.size, i.bytes)) = some (some (.slice none 0 0), 1, 24) := by kernel_rfl
theorem fct34 : (Try.prog.info? 34).map (·.size) = some 1 := by kernel_rfl
theorem fct35 : (Try.prog.info? 101).map (·.size) = some 1 := by kernel_rfl
theorem fct36 : (Try.prog.info? 101).map (fun i => (i.zero, i.size, i.bytes)) = some (some (.int .u64 0), 1, 8) := by kernel_rfl
theorem fct37 : (Try.prog.info? 24).map (·.size) = some 1 := by kernel_rfl
theorem fct38 : ((Try.prog.info? 145).bind (·.zero)).map (·.cells.toList) = some [.slice none 0 0, .int .i64 0] := by kernel_rfl
theorem fct39 : (Try.prog.info? 44).map (·.size) = some 1 := by kernel_rfl
theorem fct40 : (Try.prog.info? 4).map (·.size) = some 1 := by kernel_rfl
theorem fct41 : (Try.prog.info? 25).map (·.size) = some 1 := by kernel_rfl
theorem fct42 : (Try.prog.info? 114).map (·.size) = some 1 := by kernel_rfl
theorem fct43 : ((Try.prog.info? 114).bind (·.zero)).map (·.cells.toList) = some [.nilFunc] := by kernel_rfl
theorem fct44 : ((Try.prog.info? 109).bind (·.zero)).map (·.cells.toList) = some [.slice none 0 0, .int .i64 0] := by kernel_rfl
theorem fct45 : ((Try.prog.info? 111).bind (·.zero)).map (·.cells.toList) = some [.slice none 0 0, .int .i64 0] := by kernel_rfl
theorem fct46 : (Try.prog.info? 28).map (fun i => (i.zero, i.size, i.bytes)) = some (some (.agg #[.int .i64 0, .int .i64 0, .int .i64 0, .int .i64 0, .slice none 0 0, .int .i64 0, .int .i64 0, .bool false, .int .i64 0, .slice none 0 0, .slice none 0 0]), 11, 136) := by kernel_rfl
theorem fct47 : (Try.prog.info? 65).map (·.size) = some 1 := by kernel_rfl
/-! shorter still -/
section
variable {P : Program} {ops : Array Oper} {Q : Exit → Act → World → Prop} {rest : List Oper} {a : Act} {w : World} {o : Oper} {n : Nat} {T : List (Nat × Value)}
theorem plz (h : Oper.wp P o a w (wpList P ops Q rest) Q) (hg : o.guard = none := by rfl) : wpList P ops Q (o :: rest) a w := wpList_plain hg fun K hK => Oper.wp_mono hK h
theorem stz (ha : Has n T a) {j t : Nat} {b : Bool} (h : Oper.wp P o a w (wpList P ops Q rest) Q) (hg : o.guard = some (j, b) := by rfl) (hj : (ops[j]?).bind (·.dst) = some t := by rfl) (hb : lk T t = some (.bool b) := by rfl) (ht2 : Nat.blt t n = true := by rfl) : wpList P ops Q (o :: rest) a w := st_ge ha hg hj hb ht2 fun K hK => Oper.wp_mono hK h
theorem rtd {fn : Func} {R : Ending → World → Prop} (h : bodyPost P fn R .ret a w) (hQ : Q .ret a w = bodyPost P fn R .ret a w := by ((try dsimp only [Exit.then, Exit.inBlock]) <;> rfl)) : Code.ret.wp P Q a w := wp_ret (hQ ▸ h)
theorem wct {x y : Code} {t : Tmp} (ha : Has n T a) (h : x.wp P Q a w) (hc : lk T t = some (.bool true) := by rfl) : (Code.cond (.tmp t) x y).wp P Q a w := wp_cond_true (ha.ev (x := .tmp t) hc) h
theorem wcf {x y : Code} {t : Tmp} (ha : Has n T a) (h : y.wp P Q a w) (hc : lk T t = some (.bool false) := by rfl) : (Code.cond (.tmp t) x y).wp P Q a w := wp_cond_false (ha.ev (x := .tmp t) hc) h
theorem wsk : type_of% @wp_seq_k := @wp_seq_k
inductive KP {α : Type} (T : List (Nat × α)) : List Nat → List (Nat × α) → Prop
  | nil : KP T [] []
  | cons {t : Nat} {v : α} {l : List Nat} {T' : List (Nat × α)} (h : lk T t = some v) (k : KP T l T') : KP T (t :: l) ((t, v) :: T')
theorem KP.lk {α : Type} {T T' : List (Nat × α)} {l : List Nat} (k : KP T l T') : ∀ t v, K.lk T' t = some v → K.lk T t = some v := by
  induction k with
  | nil => intro t v h; cases h
  | cons h k ih =>
    intro t v hh
    rw [lk_cons] at hh
    split at hh
    · rename_i e; subst e; rw [← hh]; exact h
    · exact ih t v hh
theorem Has.oz (h : Has n T a) (l : List Nat) {T' : List (Nat × Value)} (k : KP T l T' := by repeat (first | exact KP.nil | (apply KP.cons; rfl))) : Has n T' a := h.sub k.lk
theorem MemOk.oz {X : Cx} {w0 : World} {M : Mm} (m : MemOk X w0 M w) (l : List Nat) {M' : Mm} (k : KP M l M' := by repeat (first | exact KP.nil | (apply KP.cons; rfl))) : MemOk X w0 M' w := m.sub k.lk
theorem gz {G K : Act → World → Prop} {L : List Oper} {T' : List (Nat × Value)} (hK : ∀ a w, G a w → K a w) (ha : Has n T a) (hc : Ch P n ops w L T [] T') (h : ∀ a', Has n T' a' → G a' w) (hQ : ∀ a, K a w → Q .normal a w := by exact fun _ h => h) : wpList P ops Q L a w := goCh ha hc fun a' ha' => hQ _ (hK _ _ (h a' ha'))
theorem rt1 (ha : Has n T a) {fn : Func} {t : Tmp} {v : Value} {R : Ending → World → Prop} (h : R (.returned v) w) (hQ : Q .ret a w = bodyPost P fn R .ret a w := by ((try dsimp only [Exit.then, Exit.inBlock]) <;> rfl)) (hr : fn.results = #[.tmp t] := by rfl) (hv : lk T t = some v := by rfl) : Code.ret.wp P Q a w := rtd (ret1 ha hr hv h) hQ
theorem rt2 (ha : Has n T a) {fn : Func} {t s : Tmp} {v u : Value} {R : Ending → World → Prop} (h : R (.returned (.tuple #[v, u])) w) (hQ : Q .ret a w = bodyPost P fn R .ret a w := by ((try dsimp only [Exit.then, Exit.inBlock]) <;> rfl)) (hr : fn.results = #[.tmp t, .tmp s] := by rfl) (hv : lk T t = some v := by rfl) (hu : lk T s = some u := by rfl) : Code.ret.wp P Q a w := rtd (ret2 ha hr hv hu h) hQ
theorem stw (ha : Has n T a) {X : Cx} {w0 : World} {M : Mm} (m : MemOk X w0 M w) (i : Nat) {g k : Nat} {t e : TypeId} {x y : Operand} {cs xs : List Value} {K : Act → World → Prop} {tt : TypeId} {pos : String} {af : Array Edge} {gd : Option (Nat × Bool)} (hs : (P.info? t).map (·.size) = some k) (h : ∀ w', MemOk X w0 ((i, .box g e xs) :: M) w' → Keep (fun b => b = g) w w' → K a w') (hm : lk M i = some (.box g e cs) := by rfl) (hx : evT T x = some (.pointer (some ⟨g, 0, none⟩)) := by rfl) (hy : evT T y = some (.agg xs.toArray) := by rfl) (h1 : xs.all (fun v => v.oneCell') = true := by rfl) (hl : xs.length = cs.length := by rfl) (hk : k = xs.length := by rfl) : Oper.wp P ⟨none, .store t x y, tt, pos, af, gd⟩ a w K Q := e_storeW ha m i hm hx hy h1 hl (hk ▸ hs) h
theorem st1 (ha : Has n T a) {X : Cx} {w0 : World} {M : Mm} (m : MemOk X w0 M w) (i : Nat) {g o : Nat} {t e : TypeId} {x y : Operand} {cs cs' : List Value} {v : Value} {K : Act → World → Prop} {tt : TypeId} {pos : String} {af : Array Edge} {gd : Option (Nat × Bool)} (hs : (P.info? t).map (·.size) = some 1) (h : ∀ w', MemOk X w0 ((i, .box g e cs') :: M) w' → Keep (fun b => b = g) w w' → K a w') (hm : lk M i = some (.box g e cs) := by rfl) (hx : evT T x = some (.pointer (some ⟨g, o, none⟩)) := by rfl) (hy : evT T y = some v := by rfl) (h1 : v.oneCell' = true := by rfl) (ho : Nat.blt o cs.length = true := by rfl) (hc : cs.set o v = cs' := by (dsimp only [List.set] <;> rfl)) : Oper.wp P ⟨none, .store t x y, tt, pos, af, gd⟩ a w K Q := e_store1 ha m i hm hx hy h1 ho hs hc h
theorem Ch.inc {L L' : List Oper} {T' : List (Nat × Value)} {dd : Tmp} {tt t t2 : TypeId} {pos : String} {af : Array Edge} {x y : Operand} {p q : Int} (r : Nat) (tl : Ch P n ops w L ((dd, (.int .i64 (r : Int))) :: T) L' T') (hx : evT T x = some (.int .i64 p) := by rfl) (hy : evT T y = some (.int .i64 q) := by rfl) (hr : IntKind.i64.wrap (p + q) = (r : Int) := by (rw [IntWalk.i64_in _ (by omega)]; omega)) (ht : Nat.blt dd n = true := by rfl) : Ch P n ops w (⟨some dd, .binOp .add t x y t2, tt, pos, af, none⟩ :: L) T L' T' := .add hx hy hr tl ht
theorem bc {G : Prop} (h : Has n T a) (t : Nat) {b : Bool} (ht : b = true → Has n ((t, .bool true) :: T) a → G) (hf : b = false → Has n ((t, .bool false) :: T) a → G) (hb : lk T t = some (.bool b) := by rfl) : G := bool_cases h hb ht hf
variable {d : Tmp} {f : FuncId} {args : Array Operand} {ats : Array TypeId} {fn : Func} {vs : List Value} {K : Act → World → Prop} {tt : TypeId} {pos : String} {af : Array Edge} {gd : Option (Nat × Bool)}
theorem ecl (ha : Has n T a) (hf : P.funcs[f]? = some fn) (hargs : evA T args.toList = some vs) {R : Ending → World → Prop} (hc : Calls P f vs.toArray w R) (h : ∀ e w', R e w' → ∃ v, e = .returned v ∧ ∀ a', Has n ((d, v) :: T) a' → K a' w') (hn : (fn.name == "runtime.NumGoroutine") = false := by rfl) (hb : fn.body.isNone = false := by rfl) (ht : Nat.blt d n = true := by rfl) : Oper.wp P ⟨some d, .call { callee := .value (.func f), args := args, argTypes := ats }, tt, pos, af, gd⟩ a w K Q := e_call ha hf hn hb hargs ht hc h
variable {X : Cx} {w0 : World} {M : Mm}
theorem ecn (ha : Has n T a) (hf : P.funcs[f]? = some fn) (hargs : evA T args.toList = some vs) (m : MemOk X w0 M w) (i : Nat) {v u : Option Addr → Nat → Value} {et : TypeId} {k : IntKind} {zs : List Int} (hc : Calls P f vs.toArray w fun e w' => ∃ p c, e = .returned (v p c) ∧ w'.ownsRow w.heap.size et 1 (u p c) zs.length (zs.map (Value.int k)) ∧ Below w.heap.size w w') (h : ∀ p c a' w', Has n ((d, v p c) :: T) a' → MemOk X w0 ((i, .num (u p c) et k zs) :: M) w' → K a' w') (hn : (fn.name == "runtime.NumGoroutine") = false := by rfl) (hb : fn.body.isNone = false := by rfl) (ht : Nat.blt d n = true := by rfl) : Oper.wp P ⟨some d, .call { callee := .value (.func f), args := args, argTypes := ats }, tt, pos, af, gd⟩ a w K Q := e_call ha hf hn hb hargs ht hc fun e w' hR => by
  obtain ⟨p, c, rfl, ho, hb⟩ := hR
  exact ⟨_, rfl, fun a' ha' => h p c a' w' ha' (m.newN i hb ho)⟩
theorem ecb (ha : Has n T a) (hf : P.funcs[f]? = some fn) (hargs : evA T args.toList = some vs) (m : MemOk X w0 M w) {v : Value} (hc : Calls P f vs.toArray w fun e w' => e = .returned v ∧ Below w.heap.size w w') (h : ∀ a' w', Has n ((d, v) :: T) a' → MemOk X w0 M w' → K a' w') (hn : (fn.name == "runtime.NumGoroutine") = false := by rfl) (hb : fn.body.isNone = false := by rfl) (ht : Nat.blt d n = true := by rfl) : Oper.wp P ⟨some d, .call { callee := .value (.func f), args := args, argTypes := ats }, tt, pos, af, gd⟩ a w K Q := e_call ha hf hn hb hargs ht hc fun e w' hR => by
  obtain ⟨rfl, hb⟩ := hR
  exact ⟨_, rfl, fun a' ha' => h a' w' ha' (m.later hb)⟩
variable {md : Region.Mode} {e fuel : Nat} {S : World → Prop} {listed : Array Bool}
theorem so (i : Nat) (h : Oper.wp P o a w (fun a' w' => S w' ∧ wpAnyE P md ops Q e S fuel (listed.setIfInBounds i true) a' w') Q) (hi : ops[i]? = some o := by rfl) (hr : Region.ready md ops listed = [i] := by kernel_rfl) (hw : Region.wanted o (yielded ops a.tmps) = true := by rfl) : wpAnyE P md ops Q e S (fuel + 1) listed a w := stepE_only i hi hr hw fun _ hK => Oper.wp_mono (fun a' w' h => hK a' w' h.1 h.2) h
theorem se (i : Nat) (h : Oper.wp P o a w (wpAnyE P md ops Q e S fuel (listed.setIfInBounds i true)) Q) (hi : ops[i]? = some o := by rfl) (hr : Region.ready md ops listed = [i] := by kernel_rfl) (hw : Region.wanted o (yielded ops a.tmps) = true := by rfl) (hl : (listed.setIfInBounds i true).getD e false = true := by rfl) : wpAnyE P md ops Q e S (fuel + 1) listed a w := stepE_end i hi hr hw hl fun _ hK => Oper.wp_mono hK h
theorem dtw (i j : Nat) {oi oj : Oper} (h1 : Oper.wp P oi a w (fun a' w' => ((listed.setIfInBounds i true).getD e false = false → S w') ∧ wpAnyE P md ops Q e S fuel (listed.setIfInBounds i true) a' w') Q) (h2 : Oper.wp P oj a w (fun a' w' => ((listed.setIfInBounds j true).getD e false = false → S w') ∧ wpAnyE P md ops Q e S fuel (listed.setIfInBounds j true) a' w') Q) (hi : ops[i]? = some oi := by rfl) (hj : ops[j]? = some oj := by rfl) (hr : Region.ready md ops listed = [i, j] := by kernel_rfl) (hwi : Region.wanted oi (Go.yielded ops a.tmps) = true := by rfl) (hwj : Region.wanted oj (Go.yielded ops a.tmps) = true := by rfl) : wpAnyE P md ops Q e S (fuel + 1) listed a w :=
  d_two i j hi hj hr hwi hwj (fun _ hK => Oper.wp_mono (fun a' w' h => hK a' w' h.1 h.2) h1) (fun _ hK => Oper.wp_mono (fun a' w' h => hK a' w' h.1 h.2) h2)
end

section
variable {P : Program} {Q : Exit → Act → World → Prop} {a : Act} {w : World} {n : Nat} {T : List (Nat × Value)}
end
end Go.Proofs.Yteglmahnkfgelaa.K
end
section
namespace Go.Proofs.Yteglmahnkfgelaa.K
open Go.ChangeShapes Go.WideShapes Go.ChangeAt Go.RowKit
set_option linter.unusedVariables false
set_option linter.unusedSimpArgs false
def gdB (ops : Array Oper) (n : Nat) (T : List (Nat × Value)) : Option (Nat × Bool) → Bool
 | none => true
 | some (j, b) => match (ops[j]?).bind (·.dst) with
   | some t => Nat.blt t n && match lk T t with
     | some (.bool x) => x == b
     | _ => false
   | none => false
theorem gd_wanted {ops : Array Oper} {n : Nat} {T : List (Nat × Value)} {a : Act} (ha : Has n T a) {o : Oper} (h : gdB ops n T o.guard = true) : Region.wanted o (Go.yielded ops a.tmps) = true := by
 unfold gdB at h
 split at h
 · next e => simp [Region.wanted, e]
 next j b e =>
 split at h
 · next t hj =>
   rw [Bool.and_eq_true] at h
   split at h
   · next x hb =>
     obtain rfl : x = b := by simpa using h.2
     simp [Region.wanted, e, ha.yielded hj hb h.1]
   cases h.2
 cases h
inductive Cd (P : Program) (n : Nat) (ops : Array Oper) (S : World → Prop) : List (Oper × Bool) → List (Nat × Value) → List (Nat × Value) → Prop
 | nil {T : List (Nat × Value)} : Cd P n ops S [] T T
 | c {d : Tmp} {op : Op} {v : Value} {L : List (Oper × Bool)} {T T' : List (Nat × Value)} {tt : TypeId} {pos : String} {af : Array Edge} {gd : Option (Nat × Bool)} (hy : ∀ W, S W → ∀ a, Has n T a → Yl P a W ⟨some d, op, tt, pos, af, gd⟩ v) (tl : Cd P n ops S L ((d, v) :: T) T') (hg : gdB ops n T gd = true := by rfl) (ht : Nat.blt d n = true := by rfl) : Cd P n ops S ((⟨some d, op, tt, pos, af, gd⟩, true) :: L) T T'
 | p {d : Tmp} {op : Op} {v : Value} {L : List (Oper × Bool)} {T T' : List (Nat × Value)} {tt : TypeId} {pos : String} {af : Array Edge} {gd : Option (Nat × Bool)} (hy : ∀ W, ∀ a, Has n T a → Yl P a W ⟨some d, op, tt, pos, af, gd⟩ v) (tl : Cd P n ops S L ((d, v) :: T) T') (hg : gdB ops n T gd = true := by rfl) (ht : Nat.blt d n = true := by rfl) : Cd P n ops S ((⟨some d, op, tt, pos, af, gd⟩, false) :: L) T T'
 | s {d : Tmp} {op : Op} {L : List (Oper × Bool)} {T T' : List (Nat × Value)} {tt : TypeId} {pos : String} {af : Array Edge} {j t : Nat} {b : Bool} (tl : Cd P n ops S L ((d, undef) :: T) T') (hj : (ops[j]?).bind (·.dst) = some t := by rfl) (hb : lk T t = some (.bool !b) := by rfl) (ht2 : Nat.blt t n = true := by rfl) (ht : Nat.blt d n = true := by rfl) : Cd P n ops S ((⟨some d, op, tt, pos, af, some (j, b)⟩, false) :: L) T T'
 | u {d : Tmp} {op : Op} {L : List (Oper × Bool)} {T T' : List (Nat × Value)} {tt : TypeId} {pos : String} {af : Array Edge} {j t : Nat} {b : Bool} (tl : Cd P n ops S L ((d, undef) :: T) T') (hj : (ops[j]?).bind (·.dst) = some t := by rfl) (hb : lk T t = some undef := by rfl) (ht2 : Nat.blt t n = true := by rfl) (ht : Nat.blt d n = true := by rfl) : Cd P n ops S ((⟨some d, op, tt, pos, af, some (j, b)⟩, false) :: L) T T'
def opsAt (ops : Array Oper) (rs : List Nat) : List Nat → List (Oper × Bool)
 | [] => []
 | i :: is => match ops[i]? with
   | some o => (o, rs.contains i) :: opsAt ops rs is
   | none => opsAt ops rs is
def lst (s m : Nat) : Array Bool := ((List.range s).map fun i => m.testBit i).toArray
theorem lst_size (s m : Nat) : (lst s m).size = s := by simp [lst]
theorem lst_getD (s m i : Nat) (d : Bool) : (lst s m).getD i d = if i < s then m.testBit i else d := by
 unfold Array.getD
 by_cases h : i < s
 · rw [dif_pos (show i < (lst s m).size by rw [lst_size]; exact h), if_pos h]; simp [lst]
 rw [dif_neg (show ¬ i < (lst s m).size by rw [lst_size]; exact h), if_neg h]
theorem lst_set (s m i : Nat) : (lst s m).setIfInBounds i true = lst s (m ||| (1 <<< i)) := by
 apply Array.ext
 · simp [lst_size]
 intro k h1 h2
 rw [Array.getElem_setIfInBounds (by rw [lst_size]; simpa [lst_size] using h1)]
 have hk : k < s := by rw [lst_size] at h2; exact h2
 by_cases hik : i = k
 · subst hik; simp [lst, Nat.testBit_or, Nat.one_shiftLeft, Nat.testBit_two_pow_self]
 rw [if_neg hik]; simp [lst, Nat.testBit_or, Nat.one_shiftLeft, Nat.testBit_two_pow_of_ne hik]
def pairB (md : Region.Mode) (ops : Array Oper) : Bool := (List.range ops.size).all fun i => match ops[i]? with
 | none => true
 | some oi => (List.range ops.size).all fun j => j == i || match ops[j]? with
   | none => true
   | some oj => oj.after.any (fun e => Region.binds md e && e.on == i) || oi.after.any (fun e => Region.binds md e && e.on == j) || oi.apart ops oj
def rdM (md : Region.Mode) (ops : Array Oper) (e : Nat) (rs : List Nat) : Nat → List Nat → Bool
 | _, [] => true
 | m, i :: is => (match ops[i]? with
   | none => false
   | some o => !(m.testBit i) && o.after.all fun ed => !Region.binds md ed || (m.testBit ed.on && Nat.blt ed.on ops.size)) && Nat.blt i ops.size && decide (i ≠ e) && (!(rs.contains i) || (decide (ops.size ≤ e) || waits md ops e i)) && rdM md ops e rs (m ||| (1 <<< i)) is
def bitsM : Nat → List Nat → Nat
 | m, [] => m
 | m, i :: is => bitsM (m ||| (1 <<< i)) is
theorem rd_ready {md : Region.Mode} {ops : Array Oper} {m i : Nat} {o : Oper} (ho : ops[i]? = some o) (hn : m.testBit i = false) (ha : ∀ ed ∈ o.after, Region.binds md ed = true → m.testBit ed.on = true ∧ ed.on < ops.size) : i ∈ Region.ready md ops (lst ops.size m) := by
 have hi' : i < ops.size := (Array.getElem?_eq_some_iff.1 ho).1
 refine mem_ready.2 ⟨by rw [lst_getD, if_pos hi', hn], o, ho, fun ed hed hb => ?_⟩
 rw [lst_getD, if_pos (ha ed hed hb).2, (ha ed hed hb).1]
theorem pair_free {md : Region.Mode} {ops : Array Oper} {m i : Nat} {o : Oper} (hp : pairB md ops = true) (ho : ops[i]? = some o) (ha : ∀ ed ∈ o.after, Region.binds md ed = true → m.testBit ed.on = true ∧ ed.on < ops.size) : Region.free md ops (lst ops.size m) i = true := by
 simp only [pairB, List.all_eq_true, List.mem_range] at hp
 have hi := hp i (Array.getElem?_eq_some_iff.1 ho).1
 simp only [ho, List.all_eq_true, List.mem_range] at hi
 simp only [Region.free, ho, List.all_eq_true, List.mem_range]
 intro j hj
 have hij := hi j hj
 rw [lst_getD, if_pos hj]
 rw [Bool.or_eq_true] at hij
 rcases hij with h1 | h1
 · rw [h1]; simp
 cases hoj : ops[j]? with
 | none => simp
 | some oj =>
   simp only [hoj, Bool.or_eq_true] at h1
   rcases h1 with (h3 | h3) | h3
   · simp [h3]
   · obtain ⟨ed, hed, h4⟩ := Array.any_eq_true'.1 h3
     rw [Bool.and_eq_true, beq_iff_eq] at h4
     have h5 := ha ed hed h4.1
     rw [h4.2] at h5
     simp [h5.1]
   simp [h3]
theorem rd_after {md : Region.Mode} {ops : Array Oper} {m : Nat} {o : Oper} (h : (o.after.all fun ed => !Region.binds md ed || (m.testBit ed.on && Nat.blt ed.on ops.size)) = true) : ∀ ed ∈ o.after, Region.binds md ed = true → m.testBit ed.on = true ∧ ed.on < ops.size := fun ed hed hb => by
 have h5 := Array.all_eq_true_iff_forall_mem.1 h ed hed
 rw [hb] at h5
 simpa [Nat.blt_eq] using h5
section
variable {P : Program} {n : Nat} {ops : Array Oper} {Q : Exit → Act → World → Prop} {md : Region.Mode} {e fuel : Nat} {S S' : World → Prop}
theorem closedB_of {L : Array Bool} (h : Closed md ops L) : closedB md ops L = true := by
 unfold closedB
 rw [Bool.and_eq_true, decide_eq_true_eq, List.all_eq_true]
 refine ⟨h.1, fun j _ => ?_⟩
 cases hl : L.getD j false with
 | false => rfl
 | true =>
   cases ho : ops[j]? with
   | none => rfl
   | some oj =>
     simp only [Bool.not_true, Bool.false_or]
     rw [Array.all_eq_true_iff_forall_mem]
     intro ed hed
     cases hb : Region.binds md ed with
     | false => rfl
     | true => simpa using h.2 j oj ho hl ed hed hb
theorem hh : ∀ W, S W → S W := fun _ h => h
theorem stepsR (rs : List Nat) (hp : pairB md ops = true) (hs : Region.noSelect ops = true) (hQ : ∀ c a d v w, Q (.panic c) (a.put (some d) v) w → Q (.panic c) a w) : ∀ (is : List Nat) {k m : Nat} {T T' : List (Nat × Value)} {a : Act} {w : World}, is.length = k → Has n T a → (S w ∨ (Nat.testBit m e = true ∧ e < ops.size ∧ rs = [])) → (rs = [] ∨ closedB md ops (lst ops.size m) = true) → Cd P n ops S (opsAt ops rs is) T T' → rdM md ops e rs m is = true → (∀ a', Has n T' a' → wpAnyE P md ops Q e S fuel (lst ops.size (bitsM m is)) a' w) → wpAnyE P md ops Q e S (fuel + k) (lst ops.size m) a w
 | [], k, m, T, T', a, w, hk, ha, hS, hcl, hc, _, h => by
   subst hk
   cases hc
   exact h a ha
 | i :: is, k, m, T, T', a, w, hk, ha, hS, hcl, hc, hr, h => by
   subst hk
   simp only [rdM, Bool.and_eq_true] at hr
   obtain ⟨⟨⟨⟨h1, h2⟩, h4⟩, h6⟩, h7⟩ := hr
   cases ho : ops[i]? with
   | none => rw [ho] at h1; cases h1
   | some o =>
     rw [ho] at h1
     simp only [Bool.and_eq_true, Bool.not_eq_true'] at h1
     have haf := rd_after h1.2
     have hop : opsAt ops rs (i :: is) = (o, rs.contains i) :: opsAt ops rs is := by simp only [opsAt, ho]
     rw [hop] at hc
     have h4' : i ≠ e := of_decide_eq_true h4
     have hrd := rd_ready ho h1.1 haf
     have hrb : (Region.ready md ops (lst ops.size m)).contains i = true := List.contains_iff_mem.2 hrd
     have hf := pair_free hp ho haf
     have hS1 : (lst ops.size m).getD e false = false → S w := fun h => hS.elim (fun h => h) (fun h9 => by rw [lst_getD, if_pos h9.2.1, h9.1] at h; cases h)
     have hS2 : S w ∨ (Nat.testBit (m ||| (1 <<< i)) e = true ∧ e < ops.size ∧ rs = []) := hS.imp (fun h => h) (fun h9 => ⟨by rw [Nat.testBit_or, h9.1]; rfl, h9.2⟩)
     have hcl2 : rs = [] ∨ closedB md ops (lst ops.size (m ||| (1 <<< i))) = true := hcl.imp (fun h => h) (fun h => by
       have := (closedB_spec h).set hrd
       rw [lst_set] at this
       exact closedB_of this)
     have go {d : Tmp} {v : Value} (ha' : Has n ((d, v) :: T) (a.put (some d) v)) (tl : Cd P n ops S (opsAt ops rs is) ((d, v) :: T) T') : wpAnyE P md ops Q e S (fuel + is.length) ((lst ops.size m).setIfInBounds i true) (a.put (some d) v) w := by
       rw [lst_set]
       exact stepsR rs hp hs hQ is rfl ha' hS2 hcl2 tl h7 h
     generalize hb : rs.contains i = b at hc
     cases hc with
     | c hy tl hg ht =>
       rw [hb] at h6
       simp only [Bool.not_true, Bool.false_or, Bool.or_eq_true] at h6
       have hne : rs ≠ [] := fun h => by rw [h] at hb; cases hb
       have hS0 : S w := hS.elim (fun h => h) (fun h9 => absurd h9.2.2 hne)
       have hc0 := hcl.resolve_left hne
       rcases h6 with h9 | h9
       · exact stepE_held i (some _) hS0 ho rfl hs hf hrb hc0 (by rw [h9, h4]; rfl) (fun c a w => hQ c a _ _ w) (gd_wanted ha hg) (fun W hW => hy W hW a ha) (go (ha.put ht _) tl)
       exact stepE_readW i (some _) hS0 ho rfl hs hf hrb hc0 (by rw [h9, h4]; rfl) (fun c a w => hQ c a _ _ w) (gd_wanted ha hg) (fun W hW => hy W hW a ha) (go (ha.put ht _) tl)
     | p hy tl hg ht => exact stepE_any i (some _) hS1 ho rfl hs hf hrb h4 (fun c a w => hQ c a _ _ w) (gd_wanted ha hg) (fun W => hy W a ha) (go (ha.put ht _) tl)
     | s tl hj hb ht2 ht => exact stepE_skip i (some _) hS1 ho rfl hs hf hrb h4 (fun c a w => hQ c a _ _ w) (by simp [Region.wanted, ha.yielded hj hb ht2]) (go (ha.put ht _) tl)
     | u tl hj hb ht2 ht => exact stepE_skip i (some _) hS1 ho rfl hs hf hrb h4 (fun c a w => hQ c a _ _ w) (by simp [Region.wanted, ha.unyielded hj hb ht2]) (go (ha.put ht _) tl)
theorem region_p {P : Program} {a : Act} {w w0 : World} {X : Cx} {M B : Mm} {ops : Array Oper} {Q : Exit → Act → World → Prop} (e : Nat) (mB : MemOk X w0 B w) (m : MemOk X w0 M w) {id : Nat} (hm : P.follows .mixedOrders = true)
   (h : ∀ w', pairB .any ops = true → MemOk X w0 M w' → wpAnyE P .any ops Q e (MemOk X w0 B) ops.size (Array.replicate ops.size false) a w') (hp : pairB .any ops = true := by kernel_rfl) : (Code.region id ops true).wp P Q a w := region_m e mB m hm (fun w' _ m' => h w' hp m')
theorem goR (hp : pairB md ops = true) (is rs : List Nat) (k m m' : Nat) {T T' : List (Nat × Value)} {a : Act} {w : World} {listed : Array Bool} (ha : Has n T a) (hS : S w) (hc : Cd P n ops S (opsAt ops rs is) T T') (h : ∀ a', Has n T' a' → wpAnyE P md ops Q e S fuel (lst ops.size m') a' w) (hl : listed = lst ops.size m := by kernel_rfl) (hm : m' = bitsM m is := by kernel_rfl) (hk : is.length = k := by rfl) (hcl : closedB md ops (lst ops.size m) = true := by kernel_rfl) (hs : Region.noSelect ops = true := by kernel_rfl) (hr : rdM md ops e rs m is = true := by kernel_rfl) (hQ : ∀ c a d v w, Q (.panic c) (a.put (some d) v) w → Q (.panic c) a w := by exact fun _ _ _ _ _ h => h) : wpAnyE P md ops Q e S (fuel + k) listed a w := by
 subst hl; subst hm
 exact stepsR rs hp hs hQ is hk ha (.inl hS) (.inr hcl) hc hr h
theorem goA (hp : pairB md ops = true) (is : List Nat) (k m m' : Nat) {T T' : List (Nat × Value)} {a : Act} {w : World} {listed : Array Bool} (ha : Has n T a) (hS : S w) (hc : Cd P n ops S (opsAt ops [] is) T T') (h : ∀ a', Has n T' a' → wpAnyE P md ops Q e S fuel (lst ops.size m') a' w) (hl : listed = lst ops.size m := by kernel_rfl) (hm : m' = bitsM m is := by kernel_rfl) (hk : is.length = k := by rfl) (hs : Region.noSelect ops = true := by kernel_rfl) (hr : rdM md ops e [] m is = true := by kernel_rfl) (hQ : ∀ c a d v w, Q (.panic c) (a.put (some d) v) w → Q (.panic c) a w := by exact fun _ _ _ _ _ h => h) : wpAnyE P md ops Q e S (fuel + k) listed a w := by
 subst hl; subst hm
 exact stepsR [] hp hs hQ is hk ha (.inl hS) (.inl rfl) hc hr h
theorem goB (hp : pairB md ops = true) (is : List Nat) (k m m' : Nat) {T T' : List (Nat × Value)} {a : Act} {w : World} {listed : Array Bool} (ha : Has n T a) (hc : Cd P n ops S (opsAt ops [] is) T T') (h : ∀ a', Has n T' a' → wpAnyE P md ops Q e S fuel (lst ops.size m') a' w) (hl : listed = lst ops.size m := by kernel_rfl) (hm : m' = bitsM m is := by kernel_rfl) (hk : is.length = k := by rfl) (hb : (Nat.testBit m e && Nat.blt e ops.size) = true := by kernel_rfl) (hs : Region.noSelect ops = true := by kernel_rfl) (hr : rdM md ops e [] m is = true := by kernel_rfl) (hQ : ∀ c a d v w, Q (.panic c) (a.put (some d) v) w → Q (.panic c) a w := by exact fun _ _ _ _ _ h => h) : wpAnyE P md ops Q e S (fuel + k) listed a w := by
 subst hl; subst hm
 rw [Bool.and_eq_true] at hb
 exact stepsR [] hp hs hQ is hk ha (.inr ⟨hb.1, by simpa [Nat.blt_eq] using hb.2, rfl⟩) (.inl rfl) hc hr h
end
/-! short -/
section
variable {P : Program} {n : Nat} {ops : Array Oper} {S : World → Prop} {L : List (Oper × Bool)} {T T' : List (Nat × Value)} {w0 : World} {X : Cx} {M : Mm} {dd : Tmp} {tt : TypeId} {pos : String} {af : Array Edge} {gd : Option (Nat × Bool)} {x y z : Operand} {k : IntKind} {p q r : Int} {t t2 : TypeId}
theorem Cd.move {x : Operand} {v : Value} (hx : evT T x = some v) (tl : Cd P n ops S L ((dd, v) :: T) T') (hg : gdB ops n T gd = true := by rfl) (ht : Nat.blt dd n = true := by rfl) : Cd P n ops S ((⟨some dd, .move x, tt, pos, af, gd⟩, false) :: L) T T' := .p (fun W _ h => y_move h hx) tl hg ht
theorem Cd.assign {x : Operand} {v : Value} (hx : evT T x = some v) (tl : Cd P n ops S L ((dd, v) :: T) T') (hg : gdB ops n T gd = true := by rfl) (ht : Nat.blt dd n = true := by rfl) : Cd P n ops S ((⟨some dd, .assign x, tt, pos, af, gd⟩, false) :: L) T T' := .p (fun W _ h => y_assign h hx) tl hg ht
theorem Cd.pickT {c x y : Operand} {v : Value} (hc : evT T c = some (.bool true)) (hx : evT T x = some v) (tl : Cd P n ops S L ((dd, v) :: T) T') (hg : gdB ops n T gd = true := by rfl) (ht : Nat.blt dd n = true := by rfl) : Cd P n ops S ((⟨some dd, .pick c x y, tt, pos, af, gd⟩, false) :: L) T T' := .p (fun W _ h => y_pickT h hc hx) tl hg ht
theorem Cd.pickF {c x y : Operand} {v : Value} (hc : evT T c = some (.bool false)) (hx : evT T y = some v) (tl : Cd P n ops S L ((dd, v) :: T) T') (hg : gdB ops n T gd = true := by rfl) (ht : Nat.blt dd n = true := by rfl) : Cd P n ops S ((⟨some dd, .pick c x y, tt, pos, af, gd⟩, false) :: L) T T' := .p (fun W _ h => y_pickF h hc hx) tl hg ht
theorem Cd.not {t : TypeId} {x : Operand} {b : Bool} (hx : evT T x = some (.bool b)) (tl : Cd P n ops S L ((dd, (.bool !b)) :: T) T') (hg : gdB ops n T gd = true := by rfl) (ht : Nat.blt dd n = true := by rfl) : Cd P n ops S ((⟨some dd, .unOp .not t x, tt, pos, af, gd⟩, false) :: L) T T' := .p (fun W _ h => y_not h hx) tl hg ht
theorem Cd.len {t e : TypeId} {x : Operand} {p : Option Addr} {l c : Nat} (hx : evT T x = some (.slice p l c)) (hu : P.underlying t = some (.slice e)) (tl : Cd P n ops S L ((dd, (.int .i64 l)) :: T) T') (hg : gdB ops n T gd = true := by rfl) (ht : Nat.blt dd n = true := by rfl) : Cd P n ops S ((⟨some dd, .call { callee := .builtin .len, args := #[x], argTypes := #[t] }, tt, pos, af, gd⟩, false) :: L) T T' := .p (fun W _ h => y_len h hx hu) tl hg ht
theorem Cd.add (hx : evT T x = some (.int k p)) (hy : evT T y = some (.int k q)) (hr : k.wrap (p + q) = r) (tl : Cd P n ops S L ((dd, (.int k r)) :: T) T') (hg : gdB ops n T gd = true := by rfl) (ht : Nat.blt dd n = true := by rfl) : Cd P n ops S ((⟨some dd, .binOp .add t x y t2, tt, pos, af, gd⟩, false) :: L) T T' := .p (fun W _ h => y_add h hx hy hr) tl hg ht
theorem Cd.sub (hx : evT T x = some (.int k p)) (hy : evT T y = some (.int k q)) (hr : k.wrap (p - q) = r) (tl : Cd P n ops S L ((dd, (.int k r)) :: T) T') (hg : gdB ops n T gd = true := by rfl) (ht : Nat.blt dd n = true := by rfl) : Cd P n ops S ((⟨some dd, .binOp .sub t x y t2, tt, pos, af, gd⟩, false) :: L) T T' := .p (fun W _ h => y_sub h hx hy hr) tl hg ht
theorem Cd.mul (hx : evT T x = some (.int k p)) (hy : evT T y = some (.int k q)) (hr : k.wrap (p * q) = r) (tl : Cd P n ops S L ((dd, (.int k r)) :: T) T') (hg : gdB ops n T gd = true := by rfl) (ht : Nat.blt dd n = true := by rfl) : Cd P n ops S ((⟨some dd, .binOp .mul t x y t2, tt, pos, af, gd⟩, false) :: L) T T' := .p (fun W _ h => y_mul h hx hy hr) tl hg ht
theorem Cd.quo (hx : evT T x = some (.int k p)) (hy : evT T y = some (.int k q)) (h0 : q ≠ 0) (hr : k.wrap (p.tdiv q) = r) (tl : Cd P n ops S L ((dd, (.int k r)) :: T) T') (hg : gdB ops n T gd = true := by rfl) (ht : Nat.blt dd n = true := by rfl) : Cd P n ops S ((⟨some dd, .binOp .quo t x y t2, tt, pos, af, gd⟩, false) :: L) T T' := .p (fun W _ h => y_quo h hx hy h0 hr) tl hg ht
theorem Cd.rem (hx : evT T x = some (.int k p)) (hy : evT T y = some (.int k q)) (h0 : q ≠ 0) (hr : p.tmod q = r) (tl : Cd P n ops S L ((dd, (.int k r)) :: T) T') (hg : gdB ops n T gd = true := by rfl) (ht : Nat.blt dd n = true := by rfl) : Cd P n ops S ((⟨some dd, .binOp .rem t x y t2, tt, pos, af, gd⟩, false) :: L) T T' := .p (fun W _ h => y_rem h hx hy h0 hr) tl hg ht
theorem Cd.and (hx : evT T x = some (.int k p)) (hy : evT T y = some (.int k q)) (hr : k.wrap (BitVec.ofInt k.bits p &&& BitVec.ofInt k.bits q).toNat = r) (tl : Cd P n ops S L ((dd, (.int k r)) :: T) T') (hg : gdB ops n T gd = true := by rfl) (ht : Nat.blt dd n = true := by rfl) : Cd P n ops S ((⟨some dd, .binOp .and t x y t2, tt, pos, af, gd⟩, false) :: L) T T' := .p (fun W _ h => y_and h hx hy hr) tl hg ht
theorem Cd.or (hx : evT T x = some (.int k p)) (hy : evT T y = some (.int k q)) (hr : k.wrap (BitVec.ofInt k.bits p ||| BitVec.ofInt k.bits q).toNat = r) (tl : Cd P n ops S L ((dd, (.int k r)) :: T) T') (hg : gdB ops n T gd = true := by rfl) (ht : Nat.blt dd n = true := by rfl) : Cd P n ops S ((⟨some dd, .binOp .or t x y t2, tt, pos, af, gd⟩, false) :: L) T T' := .p (fun W _ h => y_or h hx hy hr) tl hg ht
theorem Cd.shl {yk : IntKind} (hx : evT T x = some (.int k p)) (hy : evT T y = some (.int yk q)) (h0 : 0 ≤ q) (hr : k.wrap (p * 2 ^ min q.toNat k.bits) = r) (tl : Cd P n ops S L ((dd, (.int k r)) :: T) T') (hg : gdB ops n T gd = true := by rfl) (ht : Nat.blt dd n = true := by rfl) : Cd P n ops S ((⟨some dd, .binOp .shl t x y t2, tt, pos, af, gd⟩, false) :: L) T T' := .p (fun W _ h => y_shl h hx hy h0 hr) tl hg ht
theorem Cd.shr {yk : IntKind} (hx : evT T x = some (.int k p)) (hy : evT T y = some (.int yk q)) (h0 : 0 ≤ q) (hr : p.fdiv (2 ^ min q.toNat k.bits) = r) (tl : Cd P n ops S L ((dd, (.int k r)) :: T) T') (hg : gdB ops n T gd = true := by rfl) (ht : Nat.blt dd n = true := by rfl) : Cd P n ops S ((⟨some dd, .binOp .shr t x y t2, tt, pos, af, gd⟩, false) :: L) T T' := .p (fun W _ h => y_shr h hx hy h0 hr) tl hg ht
theorem Cd.lss (hx : evT T x = some (.int k p)) (hy : evT T y = some (.int k q)) (tl : Cd P n ops S L ((dd, (.bool (decide (p < q)))) :: T) T') (hg : gdB ops n T gd = true := by rfl) (ht : Nat.blt dd n = true := by rfl) : Cd P n ops S ((⟨some dd, .binOp .lss t x y t2, tt, pos, af, gd⟩, false) :: L) T T' := .p (fun W _ h => y_lss h hx hy) tl hg ht
theorem Cd.leq (hx : evT T x = some (.int k p)) (hy : evT T y = some (.int k q)) (tl : Cd P n ops S L ((dd, (.bool (decide (p ≤ q)))) :: T) T') (hg : gdB ops n T gd = true := by rfl) (ht : Nat.blt dd n = true := by rfl) : Cd P n ops S ((⟨some dd, .binOp .leq t x y t2, tt, pos, af, gd⟩, false) :: L) T T' := .p (fun W _ h => y_leq h hx hy) tl hg ht
theorem Cd.gtr (hx : evT T x = some (.int k p)) (hy : evT T y = some (.int k q)) (tl : Cd P n ops S L ((dd, (.bool (decide (q < p)))) :: T) T') (hg : gdB ops n T gd = true := by rfl) (ht : Nat.blt dd n = true := by rfl) : Cd P n ops S ((⟨some dd, .binOp .gtr t x y t2, tt, pos, af, gd⟩, false) :: L) T T' := .p (fun W _ h => y_gtr h hx hy) tl hg ht
theorem Cd.geq (hx : evT T x = some (.int k p)) (hy : evT T y = some (.int k q)) (tl : Cd P n ops S L ((dd, (.bool (decide (q ≤ p)))) :: T) T') (hg : gdB ops n T gd = true := by rfl) (ht : Nat.blt dd n = true := by rfl) : Cd P n ops S ((⟨some dd, .binOp .geq t x y t2, tt, pos, af, gd⟩, false) :: L) T T' := .p (fun W _ h => y_geq h hx hy) tl hg ht
theorem Cd.eql (hx : evT T x = some (.int k p)) (hy : evT T y = some (.int k q)) (tl : Cd P n ops S L ((dd, (.bool (decide (p = q)))) :: T) T') (hg : gdB ops n T gd = true := by rfl) (ht : Nat.blt dd n = true := by rfl) : Cd P n ops S ((⟨some dd, .binOp .eql t x y t2, tt, pos, af, gd⟩, false) :: L) T T' := .p (fun W _ h => y_eql h hx hy) tl hg ht
theorem Cd.neq (hx : evT T x = some (.int k p)) (hy : evT T y = some (.int k q)) (tl : Cd P n ops S L ((dd, (.bool (decide (p ≠ q)))) :: T) T') (hg : gdB ops n T gd = true := by rfl) (ht : Nat.blt dd n = true := by rfl) : Cd P n ops S ((⟨some dd, .binOp .neq t x y t2, tt, pos, af, gd⟩, false) :: L) T T' := .p (fun W _ h => y_neq h hx hy) tl hg ht
theorem Cd.neqS {b c : ByteArray} (hx : evT T x = some (.string b)) (hy : evT T y = some (.string c)) (tl : Cd P n ops S L ((dd, (.bool (!(b.toList == c.toList)))) :: T) T') (hg : gdB ops n T gd = true := by rfl) (ht : Nat.blt dd n = true := by rfl) : Cd P n ops S ((⟨some dd, .binOp .neq t x y t2, tt, pos, af, gd⟩, false) :: L) T T' := .p (fun W _ h => y_neqS h hx hy) tl hg ht
theorem Cd.eqlP {e : TypeId} {b : Option Addr} (hx : evT T x = some (.pointer b)) (hy : evT T y = some (.pointer none)) (hu : P.underlying t = some (.pointer e)) (tl : Cd P n ops S L ((dd, (.bool b.isNone)) :: T) T') (hg : gdB ops n T gd = true := by rfl) (ht : Nat.blt dd n = true := by rfl) : Cd P n ops S ((⟨some dd, .binOp .eql t x y t2, tt, pos, af, gd⟩, false) :: L) T T' := .p (fun W _ h => y_eqlP h hx hy hu) tl hg ht
theorem Cd.conv {s e : TypeId} {k' : IntKind} {ds : TypeDesc} (hx : evT T x = some (.int k p)) (hs : P.underlying s = some ds) (hd : P.underlying e = some (.int k')) (hr : k'.wrap p = r) (tl : Cd P n ops S L ((dd, (.int k' r)) :: T) T') (hg : gdB ops n T gd = true := by rfl) (ht : Nat.blt dd n = true := by rfl) : Cd P n ops S ((⟨some dd, .convert s e x, tt, pos, af, gd⟩, false) :: L) T T' := .p (fun W _ h => y_conv h hx hs hd hr) tl hg ht
theorem Cd.extract {x : Operand} {vs : Array Value} {i : Nat} {v : Value} (hx : evT T x = some (.tuple vs)) (hv : nthL vs.toList i = some v) (tl : Cd P n ops S L ((dd, v) :: T) T') (hg : gdB ops n T gd = true := by rfl) (ht : Nat.blt dd n = true := by rfl) : Cd P n ops S ((⟨some dd, .extract x i, tt, pos, af, gd⟩, false) :: L) T T' := .p (fun W _ h => y_extract h hx hv) tl hg ht
theorem Cd.nilCheck {x : Operand} {p : Addr} (hx : evT T x = some (.pointer (some p))) (tl : Cd P n ops S L ((dd, (.pointer (some p))) :: T) T') (hg : gdB ops n T gd = true := by rfl) (ht : Nat.blt dd n = true := by rfl) : Cd P n ops S ((⟨some dd, .nilCheck x, tt, pos, af, gd⟩, false) :: L) T T' := .p (fun W _ h => y_nilCheck h hx) tl hg ht
theorem Cd.fieldAddr {t : TypeId} {x : Operand} {i g o : Nat} {fs : Array Field} {f : Field} {s off : Nat} (hx : evT T x = some (.pointer (some ⟨g, o, none⟩))) (hu : P.underlying t = some (.struct fs)) (hf : fs[i]? = some f) (hs : (P.info? f.type).map (·.size) = some (s + 1)) (ho : o + f.offset = off) (tl : Cd P n ops S L ((dd, (.pointer (some ⟨g, off, none⟩))) :: T) T') (hg : gdB ops n T gd = true := by rfl) (ht : Nat.blt dd n = true := by rfl) : Cd P n ops S ((⟨some dd, .fieldAddr t x i, tt, pos, af, gd⟩, false) :: L) T T' := .p (fun W _ h => y_fieldAddr h hx hu hf hs ho) tl hg ht
theorem Cd.fieldAddrQ {t : TypeId} {x : Operand} {i g o : Nat} {fs : Array Field} {f : Field} {s : Nat} (q : Nat) (hx : evT T x = some (.pointer (some ⟨g, o, none⟩))) (hu : P.underlying t = some (.struct fs)) (hf : fs[i]? = some f) (hs : (P.info? f.type).map (·.size) = some (s + 1)) (hq : f.offset = q) (tl : Cd P n ops S L ((dd, (.pointer (some ⟨g, o + q, none⟩))) :: T) T') (hg : gdB ops n T gd = true := by rfl) (ht : Nat.blt dd n = true := by rfl) : Cd P n ops S ((⟨some dd, .fieldAddr t x i, tt, pos, af, gd⟩, false) :: L) T T' := .p (fun W _ h => y_fieldAddrQ h q hx hu hf hs hq) tl hg ht
theorem Cd.build {t : TypeId} {parts : Array (Nat × Operand)} {z cs : List Value} {pl : List (Nat × Value)} (hp : K.evP T parts.toList = some pl) (hz : ((P.info? t).bind (·.zero)).map (·.cells.toList) = some z) (hf : flatS P t z = true) (h1 : pl.all (fun p => decide (p.1 < z.length) && p.2.oneCell') = true) (hc : setL z pl = cs) (tl : Cd P n ops S L ((dd, (.agg cs.toArray)) :: T) T') (hg : gdB ops n T gd = true := by rfl) (ht : Nat.blt dd n = true := by rfl) : Cd P n ops S ((⟨some dd, .build t parts, tt, pos, af, gd⟩, false) :: L) T T' := .p (fun W _ h => y_build h hp hz hf h1 hc) tl hg ht
theorem Cd.loadB1 (m : ∀ W, S W → MemOk X w0 M W) {t : TypeId} {td : TypeDesc} {x : Operand} {i g o : Nat} {e : TypeId} {cs : List Value} {v : Value} (hm : lk M i = some (.box g e cs)) (hx : evT T x = some (.pointer (some ⟨g, o, none⟩))) (hv : cs[o]? = some v) (hu : P.underlying t = some td) (hr : td.isRow = false) (tl : Cd P n ops S L ((dd, v) :: T) T') (hg : gdB ops n T gd = true := by rfl) (ht : Nat.blt dd n = true := by rfl) : Cd P n ops S ((⟨some dd, .load t x, tt, pos, af, gd⟩, true) :: L) T T' := .c (fun W hW _ h => y_loadB1 h (m W hW) hm hx hv hu hr) tl hg ht
theorem Cd.loadBR (m : ∀ W, S W → MemOk X w0 M W) {t : TypeId} {td : TypeDesc} {x : Operand} {i g o k : Nat} {e : TypeId} {cs vs : List Value} (hm : lk M i = some (.box g e cs)) (hx : evT T x = some (.pointer (some ⟨g, o, none⟩))) (hu : P.underlying t = some td) (hr : td.isRow = true) (hs : (P.info? t).map (·.size) = some k) (hk : o + k ≤ cs.length) (hv : (cs.drop o).take k = vs) (tl : Cd P n ops S L ((dd, (.agg vs.toArray)) :: T) T') (hg : gdB ops n T gd = true := by rfl) (ht : Nat.blt dd n = true := by rfl) : Cd P n ops S ((⟨some dd, .load t x, tt, pos, af, gd⟩, true) :: L) T T' := .c (fun W hW _ h => y_loadBR h (m W hW) hm hx hu hr hs hk hv) tl hg ht
theorem Cd.loadC1 (m : ∀ W, S W → MemOk X w0 M W) {t : TypeId} {td : TypeDesc} {x : Operand} {i b o q : Nat} {vs : List Value} {v : Value} (hm : lk M i = some (.cel b o vs)) (hx : evT T x = some (.pointer (some ⟨b, o + q, none⟩))) (hv : vs[q]? = some v) (hu : P.underlying t = some td) (hr : td.isRow = false) (tl : Cd P n ops S L ((dd, v) :: T) T') (hg : gdB ops n T gd = true := by rfl) (ht : Nat.blt dd n = true := by rfl) : Cd P n ops S ((⟨some dd, .load t x, tt, pos, af, gd⟩, true) :: L) T T' := .c (fun W hW _ h => y_loadC1 h (m W hW) hm hx hv hu hr) tl hg ht
theorem Cd.loadC0 (m : ∀ W, S W → MemOk X w0 M W) {t : TypeId} {td : TypeDesc} {x : Operand} {i b o : Nat} {vs : List Value} {v : Value} (hm : lk M i = some (.cel b o (v :: vs))) (hx : evT T x = some (.pointer (some ⟨b, o, none⟩))) (hu : P.underlying t = some td) (hr : td.isRow = false) (tl : Cd P n ops S L ((dd, v) :: T) T') (hg : gdB ops n T gd = true := by rfl) (ht : Nat.blt dd n = true := by rfl) : Cd P n ops S ((⟨some dd, .load t x, tt, pos, af, gd⟩, true) :: L) T T' := .c (fun W hW _ h => y_loadC0 h (m W hW) hm hx hu hr) tl hg ht
theorem Cd.loadCR (m : ∀ W, S W → MemOk X w0 M W) {t : TypeId} {td : TypeDesc} {x : Operand} {i b o : Nat} {vs : List Value} (hm : lk M i = some (.cel b o vs)) (hx : evT T x = some (.pointer (some ⟨b, o, none⟩))) (hu : P.underlying t = some td) (hr : td.isRow = true) (hs : (P.info? t).map (·.size) = some vs.length) (tl : Cd P n ops S L ((dd, (.agg vs.toArray)) :: T) T') (hg : gdB ops n T gd = true := by rfl) (ht : Nat.blt dd n = true := by rfl) : Cd P n ops S ((⟨some dd, .load t x, tt, pos, af, gd⟩, true) :: L) T T' := .c (fun W hW _ h => y_loadCR h (m W hW) hm hx hu hr hs) tl hg ht
theorem Cd.str {s t e : TypeId} {x : Operand} {v : Value} {bs : List Int} (hx : evT T x = some v) (hv : ∀ W, S W → IsNums .u8 W v bs) (hs : P.underlying s = some (.slice e)) (he : P.underlying e = some (.int .u8)) (hd : P.underlying t = some .string) (tl : Cd P n ops S L ((dd, (.string (strOfNums bs))) :: T) T') (hg : gdB ops n T gd = true := by rfl) (ht : Nat.blt dd n = true := by rfl) : Cd P n ops S ((⟨some dd, .convert s t x, tt, pos, af, gd⟩, true) :: L) T T' := .c (fun W hW _ h => y_str h hx (hv W hW) hs he hd) tl hg ht
theorem Cd.loadAt {t : TypeId} {td : TypeDesc} {x : Operand} {b o : Nat} {vs : List Value} (hr : ∀ W, S W → W.rangeAt b o vs) (hx : evT T x = some (.pointer (some ⟨b, o, none⟩))) (hu : P.underlying t = some td) (hd : td.isRow = true) (hs : (P.info? t).map (·.size) = some vs.length) (tl : Cd P n ops S L ((dd, (.agg vs.toArray)) :: T) T') (hg : gdB ops n T gd = true := by rfl) (ht : Nat.blt dd n = true := by rfl) : Cd P n ops S ((⟨some dd, .load t x, tt, pos, af, gd⟩, true) :: L) T T' := .c (fun W hW _ h => y_loadAt h (hr W hW) hx hu hd hs) tl hg ht
theorem Cd.loadAt1 {t : TypeId} {td : TypeDesc} {x : Operand} {b o q q' : Nat} {vs : List Value} {v : Value} (hr : ∀ W, S W → W.rangeAt b o vs) (hx : evT T x = some (.pointer (some ⟨b, q', none⟩))) (hq : q' = o + q) (hv : nthL vs q = some v) (hu : P.underlying t = some td) (hd : td.isRow = false) (tl : Cd P n ops S L ((dd, v) :: T) T') (hg : gdB ops n T gd = true := by rfl) (ht : Nat.blt dd n = true := by rfl) : Cd P n ops S ((⟨some dd, .load t x, tt, pos, af, gd⟩, true) :: L) T T' := .c (fun W hW _ h => y_loadAt1 h (hr W hW) hx hq hv hu hd) tl hg ht
theorem Cd.cap {t e : TypeId} {x : Operand} {p : Option Addr} {l c : Nat} (hx : evT T x = some (.slice p l c)) (hu : P.underlying t = some (.slice e)) (tl : Cd P n ops S L ((dd, (.int .i64 c)) :: T) T') (hg : gdB ops n T gd = true := by rfl) (ht : Nat.blt dd n = true := by rfl) : Cd P n ops S ((⟨some dd, .call { callee := .builtin .cap, args := #[x], argTypes := #[t] }, tt, pos, af, gd⟩, false) :: L) T T' := .p (fun W _ h => y_cap h hx hu) tl hg ht
end
section
variable {P : Program} {n : Nat} {ops : Array Oper} {S : World → Prop} {L : List (Oper × Bool)} {T T' : List (Nat × Value)} {w0 : World} {X : Cx} {M : Mm} {dd : Tmp} {tt : TypeId} {pos : String} {af : Array Edge} {gd : Option (Nat × Bool)}
theorem Cd.fa {t : TypeId} {x : Operand} {i g o : Nat} {fs : Array Field} {f : Field} (off : Nat) (hx : evT T x = some (.pointer (some ⟨g, o, none⟩))) (hu : P.underlying t = some (.struct fs)) (tl : Cd P n ops S L ((dd, (.pointer (some ⟨g, off, none⟩))) :: T) T') (hf : fs[i]? = some f := by rfl) (hs : (P.info? f.type).map (·.size) = some (0 + 1) := by kernel_rfl) (ho : o + f.offset = off := by rfl) (hg : gdB ops n T gd = true := by rfl) (ht : Nat.blt dd n = true := by rfl) : Cd P n ops S ((⟨some dd, .fieldAddr t x i, tt, pos, af, gd⟩, false) :: L) T T' := .p (fun W _ h => y_fieldAddr h hx hu hf hs ho) tl hg ht
theorem Cd.lb (m : ∀ W, S W → MemOk X w0 M W) (i : Nat) {t : TypeId} {td : TypeDesc} {x : Operand} {g o : Nat} {e : TypeId} {cs : List Value} {v : Value} (hu : P.underlying t = some td) (hx : evT T x = some (.pointer (some ⟨g, o, none⟩))) (hm : lk M i = some (.box g e cs)) (hv : cs[o]? = some v) (tl : Cd P n ops S L ((dd, v) :: T) T') (hr : td.isRow = false := by rfl) (hg : gdB ops n T gd = true := by rfl) (ht : Nat.blt dd n = true := by rfl) : Cd P n ops S ((⟨some dd, .load t x, tt, pos, af, gd⟩, true) :: L) T T' := .c (fun W hW _ h => y_loadB1 h (m W hW) hm hx hv hu hr) tl hg ht
end
end Go.Proofs.Yteglmahnkfgelaa.K
end
section
namespace Go.Proofs.Yteglmahnkfgelaa.K
open Go.ChangeShapes Go.WideShapes Go.ChangeAt Go.RowKit
set_option linter.unusedVariables false
set_option linter.unusedSimpArgs false
def PlaceOk (bl pe : Int) (place : List Int) : Prop := (∀ g ∈ place, 1 ≤ g ∧ g ≤ 7) ∧ (place.length : Int) = (bl + pe - 1) / pe
def NewOk (vo bl sz pe to : Int) (place : List Int) : Prop := 0 ≤ vo ∧ vo ≤ 7 ∧ 1 ≤ bl ∧ bl ≤ 256 ∧ 1 ≤ sz ∧ sz ≤ 32 ∧ 1 ≤ pe ∧ pe ≤ bl ∧ PlaceOk bl pe place ∧ 0 ≤ to ∧ to ≤ 1099511627776
theorem getD_mem {l : List Int} {k : Nat} (h : k < l.length) : l.getD k 0 ∈ l := by rw [List.getD, List.getElem?_eq_getElem h]; exact List.getElem_mem _
theorem all_snoc {l : List Int} {k : Nat} {P : Int → Prop} (h : ∀ j, j < k → P (l.getD j 0)) (hk : P (l.getD k 0)) : ∀ j, j < k + 1 → P (l.getD j 0) := fun j hj => by
 rcases Nat.lt_or_ge j k with h1 | h1
 · exact h j h1
 obtain rfl : j = k := by omega
 exact hk
theorem all_mem {l : List Int} {P : Int → Prop} (h : ∀ j, j < l.length → P (l.getD j 0)) : ∀ g ∈ l, P g := fun g hg => by
 obtain ⟨j, hj, rfl⟩ := List.getElem_of_mem hg
 have := h j hj
 rwa [List.getD, List.getElem?_eq_getElem hj] at this
set_option maxRecDepth 100000
set_option maxHeartbeats 4000000
theorem chunks_any (a b : Int) (w0 : World) (ha : 0 ≤ a ∧ a ≤ 1000000) (hb : 1 ≤ b ∧ b ≤ 1000000) :
   Calls Try.prog 64 #[.int .i64 a, .int .i64 b] w0 fun e w' => e = .returned (.int .i64 ((a + b - 1) / b)) ∧ Below w0.heap.size w0 w' := by
 refine ent2 Try.func64 rfl Try.ntmps64 fun Az Hz => ?_
 have m0 := MemOk.start (fun _ => False) w0
 refine regS Hz (.assign rfl .nil) fun Az Hz => ?_
 refine regS Hz (.move rfl <| .move rfl <| .add rfl rfl (r := a + b) (IntWalk.i64_in _ (by omega)) <| .sub rfl rfl (r := a + b - 1) (IntWalk.i64_in _ (by omega)) <| .move rfl <| .quo rfl rfl (by omega) (r := (a + b - 1) / b) (by rw [Int.tdiv_eq_ediv_of_nonneg (by omega)]; exact IntWalk.i64_in _ (by have := Int.ediv_le_self b (show 0 ≤ a + b - 1 by omega); have := Int.ediv_nonneg (show 0 ≤ a + b - 1 by omega) (show 0 ≤ b by omega); omega)) <| .assign rfl .nil) fun Az Hz => ?_
 refine rt1 Hz ?_
 exact ⟨rfl, m0.below⟩
end Go.Proofs.Yteglmahnkfgelaa.K
end
section
namespace Go.Proofs.Yteglmahnkfgelaa.K
open Go.ChangeShapes Go.WideShapes Go.ChangeAt Go.RowKit
set_option linter.unusedVariables false
set_option linter.unusedSimpArgs false
def itD (x : Int × List Int) : List D := [.v (.int .i64 x.1), .ns .u8 x.2]
def wrD (x : Int × List (Int × List Int)) : List D := [.v (.int .i64 x.1), .l 2 (x.2.map itD)]
theorem itD_get {A : List (Int × List Int)} {k : Nat} {b : Int} {d : List Int} (h : A[k]? = some (b, d)) : (A.map itD)[k]? = some [.v (.int .i64 b), .ns .u8 d] := by simp [h, itD]
theorem wrD_get {A : List (Int × List (Int × List Int))} {k : Nat} {b : Int} {d : List (Int × List Int)} (h : A[k]? = some (b, d)) : (A.map wrD)[k]? = some [.v (.int .i64 b), .l 2 (d.map itD)] := by simp [h, wrD]
def ItsOk (es : List (Int × List Int)) : Prop := ∀ e ∈ es, e.2.length ≤ 140737488351232
def WrsOk (ws : List (Int × List (Int × List Int))) : Prop := ∀ e ∈ ws, e.2.length ≤ 1000000 ∧ ItsOk e.2
theorem take_snoc {α : Type} {l : List α} {k : Nat} {x : α} (h : l[k]? = some x) : l.take (k + 1) = l.take k ++ [x] := by
 obtain ⟨hk, e⟩ := List.getElem?_eq_some_iff.1 h
 rw [List.take_succ_eq_append_getElem hk, e]
theorem rowNil {N : Nat} {S : Nat → Prop} {w : World} {v : Value} {e : TypeId} {k : Nat} (h : w.ownsRow N e k v 0 []) : RowOk N S w v e k [] := ⟨[], by simpa using h, rfl, by simp, by simp, by simp⟩
set_option maxRecDepth 100000
set_option maxHeartbeats 4000000
theorem plainB_any (d : List Int) (p0 : Option Addr) (c0 : Nat) (w0 : World) (h0 : Rd (fun _ => True) w0 (.slice p0 d.length c0) (.ns .u8 d)) (hd : d.length ≤ 140737488351232) :
   Calls Try.prog 98 #[.slice p0 d.length c0] w0 fun e w' => ∃ p c, e = .returned (.slice p d.length c) ∧ Rd (New w0) w' (.slice p d.length c) (.ns .u8 d) ∧ Below w0.heap.size w0 w' := by
 refine ent1 Try.func98 rfl Try.ntmps98 fun Az Hz => ?_
 have m0 := MemOk.start (fun _ => False) w0
 refine regS Hz (.assign rfl .nil) fun Az Hz => ?_
 refine zsr fun K0 hK0 => ?_
 refine goCh Hz (.move rfl .nil) fun Az Hz => ?_
 refine plz (e_app0M Hz m0 2 rfl rfl (h0.now' m0 rfl).ns_out.nums U22 fct0 (by decide) (by omega) rfl fun p4 c4 Az w5 Hz m5 => ?_)
 refine gz hK0 Hz (.assign rfl .nil) fun Az Hz => ?_
 refine rt1 Hz ?_
 have m7 := m5.freezeN 2 rfl
 exact ⟨_, _, rfl, m7.outF (i := 2) rfl, m7.below⟩
end Go.Proofs.Yteglmahnkfgelaa.K
end
section
namespace Go.Proofs.Yteglmahnkfgelaa.K
open Go.ChangeShapes Go.WideShapes Go.ChangeAt Go.RowKit
set_option linter.unusedVariables false
set_option linter.unusedSimpArgs false
abbrev i0 : Int × List Int := (0, [])
theorem getI {l : List (Int × List Int)} {k : Nat} {e : Int × List Int} (h : l[k]? = some e) : l.getD k i0 = e := by rw [List.getD, h]; rfl
theorem ne_snoc {l : List (Int × List Int)} {k : Nat} {xb yb : Int} {yd : List Int} (h : ∀ j, j < k → (l.getD j i0).1 ≠ xb) (hes : l[k]? = some (yb, yd)) (hne : ¬ yb = xb) : ∀ j, j < k + 1 → (l.getD j i0).1 ≠ xb := fun j hj => by
 rcases Nat.lt_or_ge j k with h1 | h1
 · exact h j h1
 obtain rfl : j = k := by omega
 rw [getI hes]; exact hne
def ItPre (bl sz : Int) (l : List (Int × List Int)) (k : Nat) : Prop := ∀ j, j < k → 0 ≤ (l.getD j i0).1 ∧ (l.getD j i0).1 < bl ∧ ((l.getD j i0).2.length : Int) = sz ∧ ¬ ∃ e ∈ l.take j, e.1 = (l.getD j i0).1
def ItemsR (bl sz : Int) (l : List (Int × List Int)) : Prop := 1 ≤ l.length ∧ l.length ≤ 8 ∧ ItPre bl sz l l.length
theorem itpre_snoc {bl sz : Int} {l : List (Int × List Int)} {k : Nat} {yb : Int} {yd : List Int} (h : ItPre bl sz l k) (hes : l[k]? = some (yb, yd)) (hb : 0 ≤ yb ∧ yb < bl) (hs : (yd.length : Int) = sz) (hn : ¬ ∃ e ∈ l.take k, e.1 = yb) : ItPre bl sz l (k + 1) := fun j hj => by
 rcases Nat.lt_or_ge j k with h1 | h1
 · exact h j h1
 obtain rfl : j = k := by omega
 rw [getI hes]; exact ⟨hb.1, hb.2, hs, hn⟩
set_option maxRecDepth 100000
set_option maxHeartbeats 4000000
theorem eqblk_fr (X : Cx) (B : Nat) (xb yb : Int) (px py : Option Addr) (nx cx ny cy : Nat) (w0 : World) (m0 : MemOk X w0 [(2, .box B 50 [.int .i64 xb, .slice px nx cx])] w0) :
   Calls Try.prog 76 #[.agg #[.int .i64 yb, .slice py ny cy], .pointer (some ⟨B, 0, none⟩)] w0 fun e w' => e = .returned (.bool (decide (yb = xb))) ∧ MemOk X w0 [(2, .box B 50 [.int .i64 xb, .slice px nx cx])] w' := by
 refine ent2 Try.func76 rfl Try.ntmps76 fun Az Hz => ?_
 refine zsr fun K0 hK0 => ?_
 refine plz (e_box Hz m0 20 (cs := [_, _]) rfl rfl rfl fun g1 Az w2 Hz m2 _ _ => ?_)
 refine gz hK0 Hz (.assign rfl .nil) fun Az Hz => ?_
 refine regS Hz (.fa 0 rfl U50 <| .lb m2 20 U3 rfl rfl rfl <| .fa 0 rfl U50 <| .lb m2 2 U3 rfl rfl rfl <| .eql rfl rfl <| .assign rfl .nil) fun Az Hz => ?_
 refine rt1 Hz ?_
 exact ⟨rfl, m2.only [2]⟩
theorem ixfunc_fr (X : Cx) (B : Nat) (l : List (Int × List Int)) (xb : Int) (p px : Option Addr) (nn c nx cx : Nat) (w0 : World) (hl : l.length ≤ 1000000) (hnn : nn = l.length) (m0 : MemOk X w0 [(1, .dat (.slice p nn c) (.l 2 (l.map itD))), (2, .box B 50 [.int .i64 xb, .slice px nx cx])] w0) :
   Calls Try.prog 91 #[.slice p nn c, .func (.func 76) #[] #[.pointer (some ⟨B, 0, none⟩)]] w0 fun e w' => ∃ q : Int, e = .returned (.int .i64 q) ∧ (0 ≤ q ↔ ∃ e ∈ l, e.1 = xb) ∧ MemOk X w0 [(1, .dat (.slice p nn c) (.l 2 (l.map itD))), (2, .box B 50 [.int .i64 xb, .slice px nx cx])] w' := by
 subst hnn
 refine ent2 Try.func91 rfl Try.ntmps91 fun Az Hz => ?_
 refine regS Hz (.assign rfl .nil) fun Az Hz => ?_
 refine wsk fun K0 hK0 => ?_
 refine regS Hz (.move rfl <| .len rfl U51 <| .move rfl .nil) fun Az Hz => ?_
 refine wp_block ?_
 refine wp_loop_ghost (fun g a w => ∃ (k : Nat), k ≤ l.length ∧ g = l.length - k ∧ (∀ j, j < k → (l.getD j i0).1 ≠ xb) ∧ Has 19 [(0, .slice p l.length c), (1, .func (.func 76) #[] #[.pointer (some ⟨B, 0, none⟩)]), (7, .int .i64 l.length), (8, .int .i64 k)] a ∧ MemOk X w0 [(1, .dat (.slice p l.length c) (.l 2 (l.map itD))), (2, .box B 50 [.int .i64 xb, .slice px nx cx])] w) (l.length) ?_ ?_
 · exact ⟨0, Nat.zero_le _, rfl, (fun j hj => by omega), Hz.only [0, 1, 7, 8], m0.only [1, 2]⟩
 clear Hz m0
 rintro g Az w5 ⟨k, hkl, hg, hall, Hz, m5⟩
 refine regS Hz (.lss rfl rfl .nil) fun Az Hz => ?_
 refine wsk fun K1 hK1 => ?_
 refine bc Hz 9 ?_ ?_
 ·
  intro hb7 Hz; try simp only [QQ, Qax] at hb7
  have hk : k < l.length := by omega
  obtain ⟨⟨yb, yd⟩, hes⟩ : ∃ e, l[k]? = some e := ⟨_, List.getElem?_eq_getElem hk⟩
  refine wct Hz ?_
  refine zss (hK1 _ _ ?_)
  refine wsk fun K2 hK2 => ?_
  refine wp_block ?_
  refine regS Hz (.move rfl <| .assign rfl .nil) fun Az Hz => ?_
  refine zsr fun K3 hK3 => ?_
  refine goCh Hz (.move rfl <| .move rfl <| .move rfl .nil) fun Az Hz => ?_
  obtain ⟨b17, o17, vs17, hp17, hR17, ho17, m17⟩ := m5.openR (i := 1) rfl (k) (r := [.v (.int .i64 yb), .ns .u8 yd]) (itD_get hes) 100 rfl
  revert Hz
  cases hp17; clear m5 ho17
  rcases hR17 with _ | ⟨hd17_0, _ | ⟨hd17_1, _ | _⟩⟩
  obtain rfl := hd17_0.v_out
  clear hd17_0
  obtain ⟨p18, c18, hv18, hc18⟩ := hd17_1.ns_shape; subst hv18
  intro Hz
  have m18 := m17.dat 101 rfl (hd17_1.cast (fun _ h => (free_add rfl h))); clear m17 hd17_1
  refine goCh Hz (.c rfl (fun _ h => y_idx h rfl rfl U51 fct31 (k) rfl hk) <| .loadCR m18 (i := 100) rfl rfl U50 rfl fct31 .nil) fun Az Hz => ?_
  refine plz (e_callC Hz rfl Try.func76 rfl rfl rfl rfl (eqblk_fr _ _ _ _ _ _ _ _ _ _ _ (m18.into [(2, 2)] (by decide) rfl)) ?_)
  rintro e w21 ⟨rfl, hm21⟩
  have mx21 := m18.back hm21 [(2, 2)] (by decide); clear hm21 m18
  have m21 := mx21.oz [2, 1, 100, 101]
  refine ⟨_, rfl, ?_⟩; intro Az Hz
  refine znl (hK3 _ _ ?_)
  refine bc Hz 16 ?_ ?_
  ·
   intro hb23 Hz; try simp only [QQ, Qax] at hb23
   refine wct Hz ?_
   replace Hz := Hz.oz [0, 1, 7, 8, 5, 16]
   refine regS Hz (.move rfl <| .assign rfl .nil) fun Az Hz => ?_
   refine rt1 Hz ?_
   exact ⟨_, rfl, iff_of_true (by omega) ⟨_, List.mem_of_getElem? hes, hb23⟩, m21.only [1, 2]⟩
  intro hb23 Hz; try simp only [QQ, Qax] at hb23
  refine wcf Hz ?_
  refine zss (hK2 _ _ ?_)
  replace Hz := Hz.oz [0, 1, 7, 8, 16]
  refine wp_region_lit ?_
  refine goCh Hz (.inc (k + 1) <| .move rfl .nil) fun Az Hz => ?_
  refine wpList_nil ?_
  show ∃ n', n' < _ ∧ _
  exact ⟨l.length - (k + 1), by omega, k + 1, by omega, rfl, ne_snoc hall hes hb23, Hz.only [0, 1, 7, 8], m21.only [1, 2]⟩
 intro hb7 Hz; try simp only [QQ, Qax] at hb7
 revert Hz
 obtain rfl : k = l.length := by omega
 intro Hz
 refine wcf Hz ?_
 refine wp_exit ?_
 refine hK0 _ _ ?_
 refine regS Hz (.assign rfl .nil) fun Az Hz => ?_
 refine rt1 Hz ?_
 exact ⟨_, rfl, iff_of_false (by omega) (fun h => by obtain ⟨e9, h1, h2⟩ := h; obtain ⟨j, hj, rfl⟩ := List.getElem_of_mem h1; have := hall j hj; rw [List.getD, List.getElem?_eq_getElem hj] at this; exact this h2), m5.only [1, 2]⟩
theorem cfunc_fr (X : Cx) (B : Nat) (l : List (Int × List Int)) (xb : Int) (p px : Option Addr) (nn c nx cx : Nat) (w0 : World) (hl : l.length ≤ 1000000) (hnn : nn = l.length) (m0 : MemOk X w0 [(1, .dat (.slice p nn c) (.l 2 (l.map itD))), (2, .box B 50 [.int .i64 xb, .slice px nx cx])] w0) :
   Calls Try.prog 75 #[.slice p nn c, .func (.func 76) #[] #[.pointer (some ⟨B, 0, none⟩)]] w0 fun e w' => ∃ b : Bool, e = .returned (.bool b) ∧ (b = true ↔ ∃ e ∈ l, e.1 = xb) ∧ MemOk X w0 [(1, .dat (.slice p nn c) (.l 2 (l.map itD))), (2, .box B 50 [.int .i64 xb, .slice px nx cx])] w' := by
 subst hnn
 refine ent2 Try.func75 rfl Try.ntmps75 fun Az Hz => ?_
 refine regS Hz (.assign rfl .nil) fun Az Hz => ?_
 refine zsr fun K0 hK0 => ?_
 refine goCh Hz (.move rfl <| .move rfl .nil) fun Az Hz => ?_
 refine plz (ecl Hz Try.func91 rfl (ixfunc_fr _ _ l _ _ _ _ _ _ _ _ (by omega) rfl (m0.into [(1, 1), (2, 2)] (by decide) rfl)) ?_)
 rintro e w6 ⟨q, rfl, hq, hm6⟩
 have mx6 := m0.back hm6 [(1, 1), (2, 2)] (by decide); clear hm6 m0
 have m6 := mx6.oz [1, 2]
 refine ⟨_, rfl, ?_⟩; intro Az Hz
 refine gz hK0 Hz (.geq rfl rfl <| .assign rfl <| .nil) fun Az Hz => ?_
 refine rt1 Hz ?_
 exact ⟨_, rfl, by rw [decide_eq_true_eq]; exact hq, m6.only [1, 2]⟩
theorem pitems_any (bl sz : Int) (l : List (Int × List Int)) (p : Option Addr) (c : Nat) (w0 : World) (h0 : Rd (fun _ => True) w0 (.slice p l.length c) (.l 2 (l.map itD))) (hl : l.length ≤ 1000000) :
   Calls Try.prog 54 #[.int .i64 bl, .int .i64 sz, .slice p l.length c] w0 fun e w' => ∃ b : Bool, e = .returned (.bool b) ∧ (b = true ↔ ItemsR bl sz l) ∧ Below w0.heap.size w0 w' := by
 have hcap : l.length ≤ c := by obtain ⟨pq, cq, hv, hcap⟩ := h0.l_shape; injection hv with _ _ e3; rw [List.length_map] at hcap; omega
 refine ent3 Try.func54 rfl Try.ntmps54 fun Az Hz => ?_
 have m0 := (MemOk.start (fun _ => True) w0).dat 1 rfl (h0.cast (fun _ _ => free_nil (fun _ => trivial)))
 refine regS Hz (.assign rfl .nil) fun Az Hz => ?_
 refine wsk fun K0 hK0 => ?_
 refine regS Hz (.move rfl <| .len rfl U51 <| .move rfl .nil) fun Az Hz => ?_
 refine wp_block ?_
 refine wp_loop_ghost (fun g a w => ∃ (k : Nat), k ≤ l.length ∧ g = l.length - k ∧ ItPre bl sz l k ∧ Has 46 [(0, .int .i64 bl), (1, .int .i64 sz), (2, .slice p l.length c), (9, .slice p l.length c), (10, .int .i64 l.length), (11, .int .i64 k)] a ∧ MemOk (cx (fun _ => True) w0) w0 [(1, .dat (.slice p l.length c) (.l 2 (l.map itD)))] w) (l.length) ?_ ?_
 · exact ⟨0, Nat.zero_le _, rfl, (fun j hj => by omega), Hz.only [0, 1, 2, 9, 10, 11], m0.only [1]⟩
 clear Hz m0
 rintro g Az w5 ⟨k, hkl, hg, hall, Hz, m5⟩
 refine regS Hz (.lss rfl rfl .nil) fun Az Hz => ?_
 refine wsk fun K1 hK1 => ?_
 refine bc Hz 12 ?_ ?_
 ·
  intro hb7 Hz; try simp only [QQ, Qax] at hb7
  have hk : k < l.length := by omega
  obtain ⟨⟨yb, yd⟩, hes⟩ : ∃ e, l[k]? = some e := ⟨_, List.getElem?_eq_getElem hk⟩
  refine wct Hz ?_
  refine zss (hK1 _ _ ?_)
  refine wsk fun K2 hK2 => ?_
  refine wp_block ?_
  refine zsr fun K3 hK3 => ?_
  refine goCh Hz (.move rfl .nil) fun Az Hz => ?_
  obtain ⟨b11, o11, vs11, hp11, hR11, ho11, m11⟩ := m5.openR (i := 1) rfl (k) (r := [.v (.int .i64 yb), .ns .u8 yd]) (itD_get hes) 100 rfl
  revert Hz
  cases hp11; clear m5 ho11
  rcases hR11 with _ | ⟨hd11_0, _ | ⟨hd11_1, _ | _⟩⟩
  obtain rfl := hd11_0.v_out
  clear hd11_0
  obtain ⟨p12, c12, hv12, hc12⟩ := hd11_1.ns_shape; subst hv12
  intro Hz
  have m12 := m11.dat 101 rfl (hd11_1.cast (fun _ h => (free_add rfl h))); clear m11 hd11_1
  refine goCh Hz (.c rfl (fun _ h => y_idx h rfl rfl U51 fct31 (k) rfl hk) <| .loadCR m12 (i := 100) rfl rfl U50 rfl fct31 .nil) fun Az Hz => ?_
  refine plz (e_alloc Hz m12 102 fct7 rfl fun g15 Az w16 Hz m16 _ _ => ?_)
  refine goCh Hz (.assign rfl .nil) fun Az Hz => ?_
  refine plz (stw Hz m16 102 fct31 fun w18 m18 _ => ?_)
  refine znl (hK3 _ _ ?_)
  refine wsk fun K4 hK4 => ?_
  refine zsr fun K5 hK5 => ?_
  refine goCh Hz (.fa 0 rfl U50 <| .lb m18 102 U3 rfl rfl rfl <| .lss rfl rfl <| .move rfl .nil) fun Az Hz => ?_
  refine bc Hz 19 ?_ ?_
  ·
   intro hb27 Hz; try simp only [QQ, Qax] at hb27
   refine gz hK5 Hz (.sk <| .sk <| .sk <| .sk <| .pickT rfl rfl <| .move rfl <| .sk <| .sk <| .sk <| .sk <| .sk <| .pickT rfl rfl <| .nil) fun Az Hz => ?_
   refine wct Hz ?_
   replace Hz := Hz.oz [0, 1, 2, 9, 10, 11, 12, 8, 7]
   refine regS Hz (.assign rfl .nil) fun Az Hz => ?_
   refine rt1 Hz ?_
   exact ⟨_, rfl, iff_of_false (by simp) (fun h => by have h9 := h.2.2 k hk; rw [getI hes] at h9; dsimp only at h9; omega), m18.below⟩
  intro hb27 Hz; try simp only [QQ, Qax] at hb27
  refine goCh Hz (.faZ 0 rfl U50 <| .loadB1Z m18 (i := 102) rfl rfl rfl U3 rfl <| .moveZ rfl <| .geqZ rfl rfl <| .pickF rfl rfl <| .move rfl .nil) fun Az Hz => ?_
  refine bc Hz 25 ?_ ?_
  ·
   intro hb48 Hz; try simp only [QQ, Qax] at hb48
   refine gz hK5 Hz (.sk <| .sk <| .sk <| .sk <| .sk <| .pickT rfl rfl <| .nil) fun Az Hz => ?_
   refine wct Hz ?_
   replace Hz := Hz.oz [0, 1, 2, 9, 10, 11, 12, 8, 7]
   refine regS Hz (.assign rfl .nil) fun Az Hz => ?_
   refine rt1 Hz ?_
   exact ⟨_, rfl, iff_of_false (by simp) (fun h => by have h9 := h.2.2 k hk; rw [getI hes] at h9; dsimp only at h9; omega), m18.below⟩
  intro hb48 Hz; try simp only [QQ, Qax] at hb48
  refine gz hK5 Hz (.faZ 1 rfl U50 <| .loadB1Z m18 (i := 102) rfl rfl rfl U22 rfl <| .lenZ rfl U22 <| .moveZ rfl <| .neqZ rfl rfl <| .pickF rfl rfl <| .nil) fun Az Hz => ?_
  refine bc Hz 31 ?_ ?_
  ·
   intro hb63 Hz; try simp only [QQ, Qax] at hb63
   refine wct Hz ?_
   replace Hz := Hz.oz [0, 1, 2, 9, 10, 11, 12, 8, 7]
   refine regS Hz (.assign rfl .nil) fun Az Hz => ?_
   refine rt1 Hz ?_
   exact ⟨_, rfl, iff_of_false (by simp) (fun h => by have h9 := h.2.2 k hk; rw [getI hes] at h9; dsimp only at h9; omega), m18.below⟩
  intro hb63 Hz; try simp only [QQ, Qax] at hb63
  refine wcf Hz ?_
  refine zss (hK4 _ _ ?_)
  replace Hz := Hz.oz [0, 1, 2, 9, 10, 11, 12, 8, 7]
  refine zsr fun K6 hK6 => ?_
  refine goCh Hz (.move rfl <| .move rfl <| .c rfl (fun _ h => y_sliceHn h k rfl rfl U51 fct31 rfl (by omega)) <| .makeFunc rfl .nil) fun Az Hz => ?_
  have m75 := m18.takeR (i := 1) rfl k (by rw [List.length_map]; omega) 103 rfl
  rw [← List.map_take] at m75
  refine plz (ecl Hz Try.func75 rfl (cfunc_fr _ _ (l.take k) _ _ _ _ _ _ _ _ (by rw [List.length_take]; omega) (by rw [List.length_take]; omega) (m75.into [(1, 103), (2, 102)] (by decide) rfl)) ?_)
  rintro e w76 ⟨cb, rfl, hcb, hm76⟩
  have mx76 := m75.back hm76 [(103, 1), (102, 2)] (by decide); clear hm76 m75
  have m76 := mx76.oz [103, 102, 1, 100, 101]
  refine ⟨_, rfl, ?_⟩; intro Az Hz
  refine znl (hK6 _ _ ?_)
  refine bc Hz 36 ?_ ?_
  ·
   intro hb78 Hz; try simp only [QQ, Qax] at hb78
   refine wct Hz ?_
   replace Hz := Hz.oz [0, 1, 2, 9, 10, 11, 12, 36]
   refine regS Hz (.assign rfl .nil) fun Az Hz => ?_
   refine rt1 Hz ?_
   exact ⟨_, rfl, iff_of_false (by simp) (fun h => (h.2.2 k hk).2.2.2 (by rw [getI hes]; exact hcb.1 (by simp_all))), m76.below⟩
  intro hb78 Hz; try simp only [QQ, Qax] at hb78
  refine wcf Hz ?_
  refine zss (hK2 _ _ ?_)
  replace Hz := Hz.oz [0, 1, 2, 9, 10, 11, 12, 36]
  refine wp_region_lit ?_
  refine goCh Hz (.inc (k + 1) <| .move rfl .nil) fun Az Hz => ?_
  refine wpList_nil ?_
  show ∃ n', n' < _ ∧ _
  exact ⟨l.length - (k + 1), by omega, k + 1, by omega, rfl, itpre_snoc hall hes (by omega) (by omega) (fun h => by have h9 := hcb.2 h; simp_all), Hz.only [0, 1, 2, 9, 10, 11], m76.only [1]⟩
 intro hb7 Hz; try simp only [QQ, Qax] at hb7
 revert Hz
 obtain rfl : k = l.length := by omega
 intro Hz
 refine wcf Hz ?_
 refine wp_exit ?_
 refine hK0 _ _ ?_
 refine zsr fun K7 hK7 => ?_
 refine goCh Hz (.move rfl <| .len rfl U51 <| .geq rfl rfl <| .move rfl .nil) fun Az Hz => ?_
 refine bc Hz 41 ?_ ?_
 ·
  intro hb92 Hz; try simp only [QQ, Qax] at hb92
  refine gz hK7 Hz (.moveZ rfl <| .lenZ rfl U51 <| .leqZ rfl rfl <| .pickT rfl rfl <| .assign rfl <| .nil) fun Az Hz => ?_
  refine rt1 Hz ?_
  exact ⟨_, rfl, by unfold ItemsR; first | (simp; intros; first | exact hall | omega) | (refine iff_of_false (by simp) (fun h => ?_); omega) | (rw [decide_eq_true_eq]; exact ⟨fun h => ⟨by omega, by omega, hall⟩, fun h => by omega⟩), m5.below⟩
 intro hb92 Hz; try simp only [QQ, Qax] at hb92
 refine gz hK7 Hz (.sk <| .sk <| .sk <| .pickF rfl rfl <| .assign rfl <| .nil) fun Az Hz => ?_
 refine rt1 Hz ?_
 exact ⟨_, rfl, by unfold ItemsR; first | (simp; intros; first | exact hall | omega) | (refine iff_of_false (by simp) (fun h => ?_); omega) | (rw [decide_eq_true_eq]; exact ⟨fun h => ⟨by omega, by omega, hall⟩, fun h => by omega⟩), m5.below⟩
end Go.Proofs.Yteglmahnkfgelaa.K
end
section
namespace Go.Proofs.Yteglmahnkfgelaa.K
open Go.ChangeShapes Go.WideShapes Go.ChangeAt Go.RowKit
set_option linter.unusedVariables false
set_option linter.unusedSimpArgs false
abbrev w1 : Int × List (Int × List Int) := (0, [])
def lastP (fl : Int) (pins : List Int) : Nat → Int
 | 0 => fl
 | k + 1 => pins.getD k 0
def PinsPre (fl : Int) (n : Nat) (pins : List Int) (k : Nat) : Prop := ∀ j, j < k → lastP fl pins j ≤ pins.getD j 0 ∧ pins.getD j 0 ≤ n
def lowL (n : Nat) (pins : List Int) : Int := pins.foldl min (n : Int)
theorem low_snoc {n : Nat} {pins : List Int} {k : Nat} (hk : k < pins.length) : min (lowL n (pins.take k)) (pins.getD k 0) = lowL n (pins.take (k + 1)) := by
 rw [List.take_succ_eq_append_getElem hk, lowL, lowL, List.foldl_append, List.getD, List.getElem?_eq_getElem hk]; rfl
def WrPre (bl sz : Int) (ws : List (Int × List (Int × List Int))) (k : Nat) : Prop := ∀ j, j < k → (ws.getD j w1).1 = j + 1 ∧ ItemsR bl sz (ws.getD j w1).2
def VolR (vo bl sz pe to ne fl : Int) (hi : Bool) (place pins : List Int) (ws : List (Int × List (Int × List Int))) : Prop := NewOk vo bl sz pe to place ∧ 0 ≤ ne ∧ ne ≤ to ∧ (hi = true → to ≠ 0) ∧ (hi = false → ne = to) ∧ 0 ≤ fl ∧ fl ≤ ws.length ∧ PinsPre fl ws.length pins pins.length ∧ WrPre bl sz ws ws.length
set_option maxRecDepth 100000
set_option maxHeartbeats 4000000
end Go.Proofs.Yteglmahnkfgelaa.K
end
section
namespace Go.Proofs.Yteglmahnkfgelaa.K
open Go.ChangeShapes Go.WideShapes Go.ChangeAt Go.RowKit
set_option linter.unusedVariables false
set_option linter.unusedSimpArgs false
set_option maxRecDepth 100000
set_option maxHeartbeats 4000000
end Go.Proofs.Yteglmahnkfgelaa.K
end
section
namespace Go.Proofs.Yteglmahnkfgelaa.K
open Go.ChangeShapes Go.WideShapes Go.ChangeAt Go.RowKit
set_option linter.unusedVariables false
set_option linter.unusedSimpArgs false
def bD (l : List Int) : List D := [.ns .u8 l]
def itemsL (fi cn9 : Int) (es : List (Int × List Int)) : List (Int × List Int) := (es.filter (fun x => decide (fi ≤ x.1 ∧ x.1 ≤ fi + cn9 - 1))).map (fun x => (x.1 - fi, x.2))
theorem itemsL_yes {fi cn9 : Int} {es : List (Int × List Int)} {k : Nat} {xb : Int} {xd : List Int} (h : es[k]? = some (xb, xd)) (hb : fi ≤ xb ∧ xb ≤ fi + cn9 - 1) : itemsL fi cn9 (es.take (k + 1)) = itemsL fi cn9 (es.take k) ++ [(xb - fi, xd)] := by
 unfold itemsL
 rw [take_snoc h, List.filter_append, List.map_append]
 simp [hb]
theorem itemsL_no {fi cn9 : Int} {es : List (Int × List Int)} {k : Nat} {xb : Int} {xd : List Int} (h : es[k]? = some (xb, xd)) (hb : ¬ (fi ≤ xb ∧ xb ≤ fi + cn9 - 1)) : itemsL fi cn9 (es.take (k + 1)) = itemsL fi cn9 (es.take k) := by
 unfold itemsL
 rw [take_snoc h, List.filter_append, List.map_append]
 simp; omega
theorem itemsL_len (fi cn9 : Int) (es : List (Int × List Int)) : (itemsL fi cn9 es).length ≤ es.length := by
 unfold itemsL; rw [List.length_map]; exact List.length_filter_le _ _
set_option maxRecDepth 100000
set_option maxHeartbeats 4000000
end Go.Proofs.Yteglmahnkfgelaa.K
end
section
namespace Go.Proofs.Yteglmahnkfgelaa.K
open Go.ChangeShapes Go.WideShapes Go.ChangeAt Go.RowKit
set_option linter.unusedVariables false
set_option linter.unusedSimpArgs false
def stStep (L : List (List Int)) (x : Int × List Int) : List (List Int) := if 0 ≤ x.1 ∧ x.1 ≤ (L.length : Int) - 1 then L.set x.1.toNat x.2 else L
def stW (L : List (List Int)) (x : Int × List (Int × List Int)) : List (List Int) := x.2.foldl stStep L
theorem bD_get {L : List (List Int)} {k : Nat} (h : k < L.length) : (L.map bD)[k]? = some [.ns .u8 (L.getD k [])] := by simp [bD, List.getD, h]
theorem stx_yes {L L2 : List (List Int)} {xl : List (Int × List Int)} {j : Nat} {xb : Int} {xd : List Int} (h : xl[j]? = some (xb, xd)) (hL : L2 = (xl.take j).foldl stStep L) (hb : 0 ≤ xb ∧ xb ≤ (L2.length : Int) - 1) : L2.set xb.toNat xd = (xl.take (j + 1)).foldl stStep L := by
 rw [take_snoc h, List.foldl_append, ← hL]; simp only [List.foldl_cons, List.foldl_nil, stStep]; rw [if_pos hb]
theorem st_snoc {L0 L L2 : List (List Int)} {ws : List (Int × List (Int × List Int))} {k : Nat} {xs : Int} {xl : List (Int × List Int)} (h : ws[k]? = some (xs, xl)) (hL : L = (ws.take k).foldl stW L0) (h2 : L2 = xl.foldl stStep L) : L2 = (ws.take (k + 1)).foldl stW L0 := by
 rw [take_snoc h, List.foldl_append, ← hL]; exact h2
set_option maxRecDepth 100000
set_option maxHeartbeats 4000000
end Go.Proofs.Yteglmahnkfgelaa.K
end
section
namespace Go.Proofs.Yteglmahnkfgelaa.K
open Go.ChangeShapes Go.WideShapes Go.ChangeAt Go.RowKit
set_option linter.unusedVariables false
set_option linter.unusedSimpArgs false
def pushL (fi cnt : Int) (W : List (Int × List (Int × List Int))) : List (Int × List (Int × List Int)) := (W.map (fun w => (w.1, itemsL fi cnt w.2))).filter (fun w => decide (0 < w.2.length))
theorem push_yes {fi cnt : Int} {W : List (Int × List (Int × List Int))} {k : Nat} {xs : Int} {xl : List (Int × List Int)} (h : W[k]? = some (xs, xl)) (hb : 0 < (itemsL fi cnt xl).length) : pushL fi cnt (W.take (k + 1)) = pushL fi cnt (W.take k) ++ [(xs, itemsL fi cnt xl)] := by
 unfold pushL
 rw [take_snoc h, List.map_append, List.filter_append]
 simp [hb]
theorem push_no {fi cnt : Int} {W : List (Int × List (Int × List Int))} {k : Nat} {xs : Int} {xl : List (Int × List Int)} (h : W[k]? = some (xs, xl)) (hb : ¬ 0 < (itemsL fi cnt xl).length) : pushL fi cnt (W.take (k + 1)) = pushL fi cnt (W.take k) := by
 unfold pushL
 rw [take_snoc h, List.map_append, List.filter_append]
 simp; simpa using hb
theorem push_len (fi cnt : Int) (W : List (Int × List (Int × List Int))) : (pushL fi cnt W).length ≤ W.length := by
 unfold pushL; exact Nat.le_trans (List.length_filter_le _ _) (by simp)
section
variable {P : Program} {n : Nat} {T : List (Nat × Value)} {a : Act} {w : World} {d : Option Tmp} {tt : TypeId} {pos : String} {af : Array Edge} {gd : Option (Nat × Bool)}
end
set_option maxRecDepth 100000
set_option maxHeartbeats 4000000
end Go.Proofs.Yteglmahnkfgelaa.K
end
section
namespace Go.Proofs.Yteglmahnkfgelaa.K
open Go.ChangeShapes Go.WideShapes Go.ChangeAt Go.RowKit
set_option linter.unusedVariables false
set_option linter.unusedSimpArgs false
set_option maxRecDepth 100000
set_option maxHeartbeats 4000000
end Go.Proofs.Yteglmahnkfgelaa.K
end
section
namespace Go.Proofs.Yteglmahnkfgelaa.K
open Go.ChangeShapes Go.WideShapes Go.ChangeAt Go.RowKit
set_option linter.unusedVariables false
set_option linter.unusedSimpArgs false
theorem fl28rn : flatS Try.prog 28 [.int .i64 0, .int .i64 0, .int .i64 0, .int .i64 0, .slice none 0 0, .int .i64 0, .int .i64 0, .bool false, .int .i64 0, .slice none 0 0, .slice none 0 0] = true := by kernel_rfl
theorem fl73cr : flatS Try.prog 73 [.int .i64 0, .int .i64 0, .int .i64 0, .int .i64 0, .int .i64 0, .slice none 0 0, .int .i64 0, .int .i64 0, .int .i64 0, .slice none 0 0] = true := by kernel_rfl
theorem fl50is2 : flatS Try.prog 50 [.int .i64 0, .slice none 0 0] = true := by kernel_rfl
def BytesL (d : List Int) : Prop := ∀ x ∈ d, 0 ≤ x ∧ x ≤ 255
theorem bytes_snoc {d : List Int} {z : Int} (h : BytesL d) (hz : 0 ≤ z ∧ z ≤ 255) : BytesL (d ++ [z]) := fun x hx => by
 rcases List.mem_append.1 hx with h1 | h1
 · exact h x h1
 simp at h1; subst h1; exact hz
def crL (px : Int) (i : Nat) : List Int := (List.range i).map (fun j : Nat => 1 + ((j : Int) + px) % 2)
theorem crL_len (px : Int) (i : Nat) : (crL px i).length = i := by simp [crL]
theorem crL_snoc (px : Int) (i : Nat) : crL px (i + 1) = crL px i ++ [1 + ((i : Int) + px) % 2] := by simp [crL, List.range_succ]
theorem crL_ok (px : Int) (i : Nat) : ∀ g ∈ crL px i, 1 ≤ g ∧ g ≤ 7 := fun g hg => by
 obtain ⟨j, -, rfl⟩ := List.mem_map.1 hg
 omega
def ItsB (es : List (Int × List Int)) : Prop := ∀ e ∈ es, e.2.length ≤ 1000000 ∧ BytesL e.2
theorem ItsB.ok {es : List (Int × List Int)} (h : ItsB es) : ItsOk es := fun e he => Nat.le_trans (h e he).1 (by decide)
theorem itsB_snoc {es : List (Int × List Int)} {b : Int} {d : List Int} (h : ItsB es) (h1 : d.length ≤ 1000000) (h2 : BytesL d) : ItsB (es ++ [(b, d)]) := fun e he => by
 rcases List.mem_append.1 he with h3 | h3
 · exact h e h3
 simp at h3; subst h3; exact ⟨h1, h2⟩
theorem itpre_app {bl sz : Int} {it : List (Int × List Int)} {b : Int} {d : List Int} (h : ItPre bl sz it it.length) (hb : 0 ≤ b ∧ b < bl) (hs : (d.length : Int) = sz) (hn : ¬ ∃ e ∈ it, e.1 = b) : ItPre bl sz (it ++ [(b, d)]) (it.length + 1) := fun j hj => by
 rcases Nat.lt_or_ge j it.length with h1 | h1
 · have h2 := h j h1
   rw [show (it ++ [(b, d)]).getD j i0 = it.getD j i0 by simp [List.getD, List.getElem?_append, h1], List.take_append_of_le_length (by omega)]
   exact h2
 obtain rfl : j = it.length := by omega
 rw [show (it ++ [(b, d)]).getD it.length i0 = (b, d) by simp [List.getD], List.take_left]
 exact ⟨hb.1, hb.2, hs, hn⟩
theorem there_snoc {it : List (Int × List Int)} {j : Nat} {b yb : Int} {yd : List Int} {tb : Bool} (h : tb = true ↔ ∃ e ∈ it.take j, e.1 = b) (hit : it[j]? = some (yb, yd)) : (tb || decide (yb = b)) = true ↔ ∃ e ∈ it.take (j + 1), e.1 = b := by
 rw [take_snoc hit, Bool.or_eq_true, h, decide_eq_true_eq]
 constructor
 · rintro (⟨e, h1, h2⟩ | h1)
   · exact ⟨e, List.mem_append_left _ h1, h2⟩
   exact ⟨_, List.mem_append_right _ (List.mem_singleton.2 rfl), h1⟩
 rintro ⟨e, h1, h2⟩
 rcases List.mem_append.1 h1 with h3 | h3
 · exact .inl ⟨e, h3, h2⟩
 simp at h3; subst h3; exact .inr h2
set_option maxRecDepth 100000
set_option maxHeartbeats 4000000
theorem rshape_any (kd vo bl sz pe to at0 ix : Int) (place : List Int) (pp pi : Option Addr) (cp ni ci : Nat) (w0 : World) (h0 : Rd (fun _ => True) w0 (.slice pp place.length cp) (.ns .i64 place)) (hn : place.length ≤ 1000000) :
   Calls Try.prog 63 #[.agg #[.int .i64 kd, .int .i64 vo, .int .i64 bl, .int .i64 sz, .int .i64 pe, .slice pp place.length cp, .int .i64 to, .int .i64 at0, .int .i64 ix, .slice pi ni ci]] w0 fun e w' => ∃ b : Bool, e = .returned (.bool b) ∧ (b = true ↔ NewOk vo bl sz pe to place) ∧ Below w0.heap.size w0 w' := by
 refine ent1 Try.func63 rfl Try.ntmps63 fun Az Hz => ?_
 have m0 := MemOk.start (fun _ => False) w0
 refine zsr fun K0 hK0 => ?_
 refine plz (e_box Hz m0 20 (cs := [_, _, _, _, _, _, _, _, _, _]) rfl rfl rfl fun g1 Az w2 Hz m2 _ _ => ?_)
 refine gz hK0 Hz (.assign rfl .nil) fun Az Hz => ?_
 refine wsk fun K1 hK1 => ?_
 refine wsk fun K2 hK2 => ?_
 have m4 := m2.oz [20]
 refine region_p 61 (B := [(20, _)]) (m4.to ⟨il, trivial⟩) m4 (by kernel_rfl) (fun w5 hP5 m5 => ?_); clear m4
 refine goR hP5 [0, 1, 2, 3] [1] 4 0 15 Hz (m5.to ⟨il, trivial⟩) (.fa 1 rfl U73 <| .lb hh 20 U3 rfl rfl rfl <| .lss rfl rfl <| .move rfl .nil) fun Az Hz => ?_
 refine bc Hz 7 ?_ ?_
 ·
  intro hb10 Hz; try simp only [QQ, Qax] at hb10
  refine goA hP5 [4, 5, 6, 7, 8, 9, 10, 11, 12, 13, 14, 15, 16, 17, 18, 19, 20, 21, 22, 23, 24, 25, 26, 27, 28, 29, 30, 31, 32, 33, 34, 35, 36, 37, 38, 39, 40, 41, 42, 43, 44, 45, 46, 47, 48, 49, 50, 51, 52, 53, 54, 55, 56, 57, 58, 59, 60] 57 15 2305843009213693951 Hz (m5.to ⟨il, trivial⟩) (.s <| .s <| .s <| .pickT rfl rfl <| .move rfl <| .s <| .s <| .s <| .pickT rfl rfl <| .move rfl <| .s <| .s <| .s <| .pickT rfl rfl <| .move rfl <| .s <| .s <| .s <| .pickT rfl rfl <| .move rfl <| .s <| .s <| .s <| .pickT rfl rfl <| .move rfl <| .s <| .s <| .s <| .pickT rfl rfl <| .move rfl <| .s <| .s <| .s <| .s <| .s <| .pickT rfl rfl <| .move rfl <| .s <| .s <| .s <| .s <| .s <| .s <| .s <| .s <| .s <| .pickT rfl rfl <| .move rfl <| .s <| .s <| .s <| .pickT rfl rfl <| .move rfl <| .s <| .s <| .s <| .pickT rfl rfl .nil) fun Az Hz => ?_
  refine wpAnyE_done (by kernel_rfl) ?_ _
  refine hK2 _ _ ?_
  refine wct Hz ?_
  replace Hz := Hz.oz [1, 2]
  refine regS Hz (.assign rfl .nil) fun Az Hz => ?_
  refine rt1 Hz ?_
  exact ⟨false, rfl, iff_of_false (by simp) (fun h => by obtain ⟨h1, h2, h3, h4, h5, h6, h7, h8, ⟨h9, h10⟩, h11, h12⟩ := h; first | omega | (have h13 := h9 _ (getD_mem hk); omega)), m5.below⟩
 intro hb10 Hz; try simp only [QQ, Qax] at hb10
 refine goR hP5 [4, 5, 6, 7, 8] [5] 5 15 511 Hz (m5.to ⟨il, trivial⟩) (.fa 1 rfl U73 <| .lb hh 20 U3 rfl rfl rfl <| .geq rfl rfl <| .pickF rfl rfl <| .move rfl .nil) fun Az Hz => ?_
 refine bc Hz 12 ?_ ?_
 ·
  intro hb75 Hz; try simp only [QQ, Qax] at hb75
  refine goA hP5 [9, 10, 11, 12, 13, 14, 15, 16, 17, 18, 19, 20, 21, 22, 23, 24, 25, 26, 27, 28, 29, 30, 31, 32, 33, 34, 35, 36, 37, 38, 39, 40, 41, 42, 43, 44, 45, 46, 47, 48, 49, 50, 51, 52, 53, 54, 55, 56, 57, 58, 59, 60] 52 511 2305843009213693951 Hz (m5.to ⟨il, trivial⟩) (.s <| .s <| .s <| .pickT rfl rfl <| .move rfl <| .s <| .s <| .s <| .pickT rfl rfl <| .move rfl <| .s <| .s <| .s <| .pickT rfl rfl <| .move rfl <| .s <| .s <| .s <| .pickT rfl rfl <| .move rfl <| .s <| .s <| .s <| .pickT rfl rfl <| .move rfl <| .s <| .s <| .s <| .s <| .s <| .pickT rfl rfl <| .move rfl <| .s <| .s <| .s <| .s <| .s <| .s <| .s <| .s <| .s <| .pickT rfl rfl <| .move rfl <| .s <| .s <| .s <| .pickT rfl rfl <| .move rfl <| .s <| .s <| .s <| .pickT rfl rfl .nil) fun Az Hz => ?_
  refine wpAnyE_done (by kernel_rfl) ?_ _
  refine hK2 _ _ ?_
  refine wct Hz ?_
  replace Hz := Hz.oz [1, 2]
  refine regS Hz (.assign rfl .nil) fun Az Hz => ?_
  refine rt1 Hz ?_
  exact ⟨false, rfl, iff_of_false (by simp) (fun h => by obtain ⟨h1, h2, h3, h4, h5, h6, h7, h8, ⟨h9, h10⟩, h11, h12⟩ := h; first | omega | (have h13 := h9 _ (getD_mem hk); omega)), m5.below⟩
 intro hb75 Hz; try simp only [QQ, Qax] at hb75
 refine goR hP5 [9, 10, 11, 12, 13] [10] 5 511 16383 Hz (m5.to ⟨il, trivial⟩) (.fa 2 rfl U73 <| .lb hh 20 U3 rfl rfl rfl <| .lss rfl rfl <| .pickF rfl rfl <| .move rfl .nil) fun Az Hz => ?_
 refine bc Hz 17 ?_ ?_
 ·
  intro hb135 Hz; try simp only [QQ, Qax] at hb135
  refine goA hP5 [14, 15, 16, 17, 18, 19, 20, 21, 22, 23, 24, 25, 26, 27, 28, 29, 30, 31, 32, 33, 34, 35, 36, 37, 38, 39, 40, 41, 42, 43, 44, 45, 46, 47, 48, 49, 50, 51, 52, 53, 54, 55, 56, 57, 58, 59, 60] 47 16383 2305843009213693951 Hz (m5.to ⟨il, trivial⟩) (.s <| .s <| .s <| .pickT rfl rfl <| .move rfl <| .s <| .s <| .s <| .pickT rfl rfl <| .move rfl <| .s <| .s <| .s <| .pickT rfl rfl <| .move rfl <| .s <| .s <| .s <| .pickT rfl rfl <| .move rfl <| .s <| .s <| .s <| .s <| .s <| .pickT rfl rfl <| .move rfl <| .s <| .s <| .s <| .s <| .s <| .s <| .s <| .s <| .s <| .pickT rfl rfl <| .move rfl <| .s <| .s <| .s <| .pickT rfl rfl <| .move rfl <| .s <| .s <| .s <| .pickT rfl rfl .nil) fun Az Hz => ?_
  refine wpAnyE_done (by kernel_rfl) ?_ _
  refine hK2 _ _ ?_
  refine wct Hz ?_
  replace Hz := Hz.oz [1, 2]
  refine regS Hz (.assign rfl .nil) fun Az Hz => ?_
  refine rt1 Hz ?_
  exact ⟨false, rfl, iff_of_false (by simp) (fun h => by obtain ⟨h1, h2, h3, h4, h5, h6, h7, h8, ⟨h9, h10⟩, h11, h12⟩ := h; first | omega | (have h13 := h9 _ (getD_mem hk); omega)), m5.below⟩
 intro hb135 Hz; try simp only [QQ, Qax] at hb135
 refine goR hP5 [14, 15, 16, 17, 18] [15] 5 16383 524287 Hz (m5.to ⟨il, trivial⟩) (.fa 2 rfl U73 <| .lb hh 20 U3 rfl rfl rfl <| .gtr rfl rfl <| .pickF rfl rfl <| .move rfl .nil) fun Az Hz => ?_
 refine bc Hz 22 ?_ ?_
 ·
  intro hb190 Hz; try simp only [QQ, Qax] at hb190
  refine goA hP5 [19, 20, 21, 22, 23, 24, 25, 26, 27, 28, 29, 30, 31, 32, 33, 34, 35, 36, 37, 38, 39, 40, 41, 42, 43, 44, 45, 46, 47, 48, 49, 50, 51, 52, 53, 54, 55, 56, 57, 58, 59, 60] 42 524287 2305843009213693951 Hz (m5.to ⟨il, trivial⟩) (.s <| .s <| .s <| .pickT rfl rfl <| .move rfl <| .s <| .s <| .s <| .pickT rfl rfl <| .move rfl <| .s <| .s <| .s <| .pickT rfl rfl <| .move rfl <| .s <| .s <| .s <| .s <| .s <| .pickT rfl rfl <| .move rfl <| .s <| .s <| .s <| .s <| .s <| .s <| .s <| .s <| .s <| .pickT rfl rfl <| .move rfl <| .s <| .s <| .s <| .pickT rfl rfl <| .move rfl <| .s <| .s <| .s <| .pickT rfl rfl .nil) fun Az Hz => ?_
  refine wpAnyE_done (by kernel_rfl) ?_ _
  refine hK2 _ _ ?_
  refine wct Hz ?_
  replace Hz := Hz.oz [1, 2]
  refine regS Hz (.assign rfl .nil) fun Az Hz => ?_
  refine rt1 Hz ?_
  exact ⟨false, rfl, iff_of_false (by simp) (fun h => by obtain ⟨h1, h2, h3, h4, h5, h6, h7, h8, ⟨h9, h10⟩, h11, h12⟩ := h; first | omega | (have h13 := h9 _ (getD_mem hk); omega)), m5.below⟩
 intro hb190 Hz; try simp only [QQ, Qax] at hb190
 refine goR hP5 [19, 20, 21, 22, 23] [20] 5 524287 16777215 Hz (m5.to ⟨il, trivial⟩) (.fa 3 rfl U73 <| .lb hh 20 U3 rfl rfl rfl <| .lss rfl rfl <| .pickF rfl rfl <| .move rfl .nil) fun Az Hz => ?_
 refine bc Hz 27 ?_ ?_
 ·
  intro hb240 Hz; try simp only [QQ, Qax] at hb240
  refine goA hP5 [24, 25, 26, 27, 28, 29, 30, 31, 32, 33, 34, 35, 36, 37, 38, 39, 40, 41, 42, 43, 44, 45, 46, 47, 48, 49, 50, 51, 52, 53, 54, 55, 56, 57, 58, 59, 60] 37 16777215 2305843009213693951 Hz (m5.to ⟨il, trivial⟩) (.s <| .s <| .s <| .pickT rfl rfl <| .move rfl <| .s <| .s <| .s <| .pickT rfl rfl <| .move rfl <| .s <| .s <| .s <| .s <| .s <| .pickT rfl rfl <| .move rfl <| .s <| .s <| .s <| .s <| .s <| .s <| .s <| .s <| .s <| .pickT rfl rfl <| .move rfl <| .s <| .s <| .s <| .pickT rfl rfl <| .move rfl <| .s <| .s <| .s <| .pickT rfl rfl .nil) fun Az Hz => ?_
  refine wpAnyE_done (by kernel_rfl) ?_ _
  refine hK2 _ _ ?_
  refine wct Hz ?_
  replace Hz := Hz.oz [1, 2]
  refine regS Hz (.assign rfl .nil) fun Az Hz => ?_
  refine rt1 Hz ?_
  exact ⟨false, rfl, iff_of_false (by simp) (fun h => by obtain ⟨h1, h2, h3, h4, h5, h6, h7, h8, ⟨h9, h10⟩, h11, h12⟩ := h; first | omega | (have h13 := h9 _ (getD_mem hk); omega)), m5.below⟩
 intro hb240 Hz; try simp only [QQ, Qax] at hb240
 refine goR hP5 [24, 25, 26, 27, 28] [25] 5 16777215 536870911 Hz (m5.to ⟨il, trivial⟩) (.fa 3 rfl U73 <| .lb hh 20 U3 rfl rfl rfl <| .gtr rfl rfl <| .pickF rfl rfl <| .move rfl .nil) fun Az Hz => ?_
 refine bc Hz 32 ?_ ?_
 ·
  intro hb285 Hz; try simp only [QQ, Qax] at hb285
  refine goA hP5 [29, 30, 31, 32, 33, 34, 35, 36, 37, 38, 39, 40, 41, 42, 43, 44, 45, 46, 47, 48, 49, 50, 51, 52, 53, 54, 55, 56, 57, 58, 59, 60] 32 536870911 2305843009213693951 Hz (m5.to ⟨il, trivial⟩) (.s <| .s <| .s <| .pickT rfl rfl <| .move rfl <| .s <| .s <| .s <| .s <| .s <| .pickT rfl rfl <| .move rfl <| .s <| .s <| .s <| .s <| .s <| .s <| .s <| .s <| .s <| .pickT rfl rfl <| .move rfl <| .s <| .s <| .s <| .pickT rfl rfl <| .move rfl <| .s <| .s <| .s <| .pickT rfl rfl .nil) fun Az Hz => ?_
  refine wpAnyE_done (by kernel_rfl) ?_ _
  refine hK2 _ _ ?_
  refine wct Hz ?_
  replace Hz := Hz.oz [1, 2]
  refine regS Hz (.assign rfl .nil) fun Az Hz => ?_
  refine rt1 Hz ?_
  exact ⟨false, rfl, iff_of_false (by simp) (fun h => by obtain ⟨h1, h2, h3, h4, h5, h6, h7, h8, ⟨h9, h10⟩, h11, h12⟩ := h; first | omega | (have h13 := h9 _ (getD_mem hk); omega)), m5.below⟩
 intro hb285 Hz; try simp only [QQ, Qax] at hb285
 refine goR hP5 [29, 30, 31, 32, 33] [30] 5 536870911 17179869183 Hz (m5.to ⟨il, trivial⟩) (.fa 4 rfl U73 <| .lb hh 20 U3 rfl rfl rfl <| .lss rfl rfl <| .pickF rfl rfl <| .move rfl .nil) fun Az Hz => ?_
 refine bc Hz 37 ?_ ?_
 ·
  intro hb325 Hz; try simp only [QQ, Qax] at hb325
  refine goA hP5 [34, 35, 36, 37, 38, 39, 40, 41, 42, 43, 44, 45, 46, 47, 48, 49, 50, 51, 52, 53, 54, 55, 56, 57, 58, 59, 60] 27 17179869183 2305843009213693951 Hz (m5.to ⟨il, trivial⟩) (.s <| .s <| .s <| .s <| .s <| .pickT rfl rfl <| .move rfl <| .s <| .s <| .s <| .s <| .s <| .s <| .s <| .s <| .s <| .pickT rfl rfl <| .move rfl <| .s <| .s <| .s <| .pickT rfl rfl <| .move rfl <| .s <| .s <| .s <| .pickT rfl rfl .nil) fun Az Hz => ?_
  refine wpAnyE_done (by kernel_rfl) ?_ _
  refine hK2 _ _ ?_
  refine wct Hz ?_
  replace Hz := Hz.oz [1, 2]
  refine regS Hz (.assign rfl .nil) fun Az Hz => ?_
  refine rt1 Hz ?_
  exact ⟨false, rfl, iff_of_false (by simp) (fun h => by obtain ⟨h1, h2, h3, h4, h5, h6, h7, h8, ⟨h9, h10⟩, h11, h12⟩ := h; first | omega | (have h13 := h9 _ (getD_mem hk); omega)), m5.below⟩
 intro hb325 Hz; try simp only [QQ, Qax] at hb325
 refine goR hP5 [34, 35, 36, 37, 38, 39, 40] [35, 37] 7 17179869183 2199023255551 Hz (m5.to ⟨il, trivial⟩) (.fa 4 rfl U73 <| .lb hh 20 U3 rfl rfl rfl <| .fa 2 rfl U73 <| .lb hh 20 U3 rfl rfl rfl <| .gtr rfl rfl <| .pickF rfl rfl <| .move rfl .nil) fun Az Hz => ?_
 refine bc Hz 44 ?_ ?_
 ·
  intro hb362 Hz; try simp only [QQ, Qax] at hb362
  refine goA hP5 [41, 42, 43, 44, 45, 46, 47, 48, 49, 50, 51, 52, 53, 54, 55, 56, 57, 58, 59, 60] 20 2199023255551 2305843009213693951 Hz (m5.to ⟨il, trivial⟩) (.s <| .s <| .s <| .s <| .s <| .s <| .s <| .s <| .s <| .pickT rfl rfl <| .move rfl <| .s <| .s <| .s <| .pickT rfl rfl <| .move rfl <| .s <| .s <| .s <| .pickT rfl rfl .nil) fun Az Hz => ?_
  refine wpAnyE_done (by kernel_rfl) ?_ _
  refine hK2 _ _ ?_
  refine wct Hz ?_
  replace Hz := Hz.oz [1, 2]
  refine regS Hz (.assign rfl .nil) fun Az Hz => ?_
  refine rt1 Hz ?_
  exact ⟨false, rfl, iff_of_false (by simp) (fun h => by obtain ⟨h1, h2, h3, h4, h5, h6, h7, h8, ⟨h9, h10⟩, h11, h12⟩ := h; first | omega | (have h13 := h9 _ (getD_mem hk); omega)), m5.below⟩
 intro hb362 Hz; try simp only [QQ, Qax] at hb362
 refine goR hP5 [41, 42, 43, 44, 45, 46, 47] [42, 45, 47] 7 2199023255551 281474976710655 Hz (m5.to ⟨il, trivial⟩) (.fa 5 rfl U73 <| .lb hh 20 U24 rfl rfl rfl <| .len rfl U24 <| .fa 2 rfl U73 <| .lb hh 20 U3 rfl rfl rfl <| .fa 4 rfl U73 <| .lb hh 20 U3 rfl rfl rfl .nil) fun Az Hz => ?_
 refine stepE_only 48 rfl (by kernel_rfl) (wantedG Hz rfl rfl rfl rfl) (fun K hK => ?_)
 refine e_call Hz Try.func64 rfl rfl rfl rfl (chunks_any bl pe _ (by omega) (by omega)) ?_
 rintro e w392 ⟨rfl, hb392⟩
 have m393 := m5.later hb392
 refine ⟨_, rfl, ?_⟩; intro Az Hz
 refine hK _ _ (m393.to ⟨il, trivial⟩) ?_; clear hK K
 refine goA hP5 [49, 50, 51] 3 562949953421311 4503599627370495 Hz (m393.to ⟨il, trivial⟩) (.neq rfl rfl <| .pickF rfl rfl <| .move rfl .nil) fun Az Hz => ?_
 refine bc Hz 55 ?_ ?_
 ·
  intro hb398 Hz; try simp only [QQ, Qax] at hb398
  refine goA hP5 [52, 53, 54, 55, 56, 57, 58, 59, 60] 9 4503599627370495 2305843009213693951 Hz (m393.to ⟨il, trivial⟩) (.s <| .s <| .s <| .pickT rfl rfl <| .move rfl <| .s <| .s <| .s <| .pickT rfl rfl .nil) fun Az Hz => ?_
  refine wpAnyE_done (by kernel_rfl) ?_ _
  refine hK2 _ _ ?_
  refine wct Hz ?_
  replace Hz := Hz.oz [1, 2]
  refine regS Hz (.assign rfl .nil) fun Az Hz => ?_
  refine rt1 Hz ?_
  exact ⟨false, rfl, iff_of_false (by simp) (fun h => by obtain ⟨h1, h2, h3, h4, h5, h6, h7, h8, ⟨h9, h10⟩, h11, h12⟩ := h; first | omega | (have h13 := h9 _ (getD_mem hk); omega)), m393.below⟩
 intro hb398 Hz; try simp only [QQ, Qax] at hb398
 refine goR hP5 [52, 53, 54, 55, 56] [53] 5 4503599627370495 144115188075855871 Hz (m393.to ⟨il, trivial⟩) (.fa 6 rfl U73 <| .lb hh 20 U3 rfl rfl rfl <| .lss rfl rfl <| .pickF rfl rfl <| .move rfl .nil) fun Az Hz => ?_
 refine bc Hz 60 ?_ ?_
 ·
  intro hb415 Hz; try simp only [QQ, Qax] at hb415
  refine goA hP5 [57, 58, 59, 60] 4 144115188075855871 2305843009213693951 Hz (m393.to ⟨il, trivial⟩) (.s <| .s <| .s <| .pickT rfl rfl .nil) fun Az Hz => ?_
  refine wpAnyE_done (by kernel_rfl) ?_ _
  refine hK2 _ _ ?_
  refine wct Hz ?_
  replace Hz := Hz.oz [1, 2]
  refine regS Hz (.assign rfl .nil) fun Az Hz => ?_
  refine rt1 Hz ?_
  exact ⟨false, rfl, iff_of_false (by simp) (fun h => by obtain ⟨h1, h2, h3, h4, h5, h6, h7, h8, ⟨h9, h10⟩, h11, h12⟩ := h; first | omega | (have h13 := h9 _ (getD_mem hk); omega)), m393.below⟩
 intro hb415 Hz; try simp only [QQ, Qax] at hb415
 refine goR hP5 [57, 58, 59, 60] [58] 4 144115188075855871 2305843009213693951 Hz (m393.to ⟨il, trivial⟩) (.fa 6 rfl U73 <| .lb hh 20 U3 rfl rfl rfl <| .gtr rfl rfl <| .pickF rfl rfl .nil) fun Az Hz => ?_
 refine wpAnyE_done (by kernel_rfl) ?_ _
 refine hK2 _ _ ?_
 refine bc Hz 64 ?_ ?_
 ·
  intro hb426 Hz; try simp only [QQ, Qax] at hb426
  refine wct Hz ?_
  replace Hz := Hz.oz [1, 2]
  refine regS Hz (.assign rfl .nil) fun Az Hz => ?_
  refine rt1 Hz ?_
  exact ⟨false, rfl, iff_of_false (by simp) (fun h => by obtain ⟨h1, h2, h3, h4, h5, h6, h7, h8, ⟨h9, h10⟩, h11, h12⟩ := h; first | omega | (have h13 := h9 _ (getD_mem hk); omega)), m393.below⟩
 intro hb426 Hz; try simp only [QQ, Qax] at hb426
 refine wcf Hz ?_
 refine zss (hK1 _ _ ?_)
 refine wsk fun K3 hK3 => ?_
 replace Hz := Hz.oz [1, 2]
 refine regS Hz (.assign rfl .nil) fun Az Hz => ?_
 refine wp_block ?_
 refine wp_loop_ghost (fun g a w => ∃ (k B : Nat), k ≤ place.length ∧ g = place.length - k ∧ (∀ j, j < k → 1 ≤ place.getD j 0 ∧ place.getD j 0 ≤ 7) ∧ Has 86 [(1, .pointer (some ⟨B, 0, none⟩)), (3, .int .i64 k)] a ∧ MemOk (cn w0) w0 [(9, .box B 73 [.int .i64 kd, .int .i64 vo, .int .i64 bl, .int .i64 sz, .int .i64 pe, .slice pp place.length cp, .int .i64 to, .int .i64 at0, .int .i64 ix, .slice pi ni ci])] w) (place.length) ?_ ?_
 · exact ⟨0, _, Nat.zero_le _, rfl, (fun j hj => by omega), Hz.only [1, 3], m393.ren [(9, 20)] (by decide)⟩
 clear Hz m393
 rintro g Az w431 ⟨k, B, hkl, hg, hall, Hz, m431⟩
 refine wsk fun K4 hK4 => ?_
 refine regS Hz (.move rfl <| .fa 5 rfl U73 <| .lb m431 9 U24 rfl rfl rfl <| .len rfl U24 <| .lss rfl rfl .nil) fun Az Hz => ?_
 refine bc Hz 69 ?_ ?_
 ·
  intro hb437 Hz; try simp only [QQ, Qax] at hb437
  have hk : k < place.length := by omega
  refine wct Hz ?_
  refine zss (hK4 _ _ ?_)
  refine wsk fun K5 hK5 => ?_
  refine wp_block ?_
  refine zsr fun K6 hK6 => ?_
  refine goCh Hz (.fa 5 rfl U73 <| .lb m431 9 U24 rfl rfl rfl <| .move rfl .nil) fun Az Hz => ?_
  obtain ⟨gx445, ox445, hp445, hl445, hrg445⟩ := h0.extN (k) hk
  revert Hz
  cases hp445
  intro Hz
  refine goCh Hz (.c rfl (fun _ h => y_idx h rfl rfl U24 fct22 (k) rfl hk) <| .loadAt1 (hrg445 m431 rfl) (q := 0) rfl rfl rfl U3 rfl <| .lss rfl rfl <| .move rfl .nil) fun Az Hz => ?_
  refine bc Hz 78 ?_ ?_
  ·
   intro hb450 Hz; try simp only [QQ, Qax] at hb450
   refine gz hK6 Hz (.sk <| .sk <| .sk <| .sk <| .sk <| .sk <| .pickT rfl rfl <| .nil) fun Az Hz => ?_
   refine wct Hz ?_
   replace Hz := Hz.oz [1, 3]
   refine regS Hz (.assign rfl .nil) fun Az Hz => ?_
   refine rt1 Hz ?_
   exact ⟨false, rfl, iff_of_false (by simp) (fun h => by obtain ⟨h1, h2, h3, h4, h5, h6, h7, h8, ⟨h9, h10⟩, h11, h12⟩ := h; first | omega | (have h13 := h9 _ (getD_mem hk); omega)), m431.below⟩
  intro hb450 Hz; try simp only [QQ, Qax] at hb450
  refine goCh Hz (.faZ 5 rfl U73 <| .loadB1Z m431 (i := 9) rfl rfl rfl U24 rfl <| .moveZ rfl .nil) fun Az Hz => ?_
  obtain ⟨gx463, ox463, hp463, hl463, hrg463⟩ := h0.extN (k) hk
  revert Hz
  cases hp463
  intro Hz
  refine gz hK6 Hz (.g rfl rfl rfl rfl (fun _ h => y_idx h rfl rfl U24 fct22 (k) rfl hk) <| .loadAt1Z (hrg463 m431 rfl) (q := 0) rfl rfl rfl U3 rfl <| .geqZ rfl rfl <| .pickF rfl rfl <| .nil) fun Az Hz => ?_
  refine bc Hz 85 ?_ ?_
  ·
   intro hb468 Hz; try simp only [QQ, Qax] at hb468
   refine wct Hz ?_
   replace Hz := Hz.oz [1, 3]
   refine regS Hz (.assign rfl .nil) fun Az Hz => ?_
   refine rt1 Hz ?_
   exact ⟨false, rfl, iff_of_false (by simp) (fun h => by obtain ⟨h1, h2, h3, h4, h5, h6, h7, h8, ⟨h9, h10⟩, h11, h12⟩ := h; first | omega | (have h13 := h9 _ (getD_mem hk); omega)), m431.below⟩
  intro hb468 Hz; try simp only [QQ, Qax] at hb468
  refine wcf Hz ?_
  refine zss (hK5 _ _ ?_)
  replace Hz := Hz.oz [1, 3]
  refine wp_region_lit ?_
  refine goCh Hz (.move rfl <| .inc (k + 1) <| .assign rfl .nil) fun Az Hz => ?_
  refine wpList_nil ?_
  show ∃ n', n' < _ ∧ _
  exact ⟨place.length - (k + 1), by omega, k + 1, _, by omega, rfl, (all_snoc (P := fun x => 1 ≤ x ∧ x ≤ 7) hall (by omega)), Hz.only [1, 3], m431.only [9]⟩
 intro hb437 Hz; try simp only [QQ, Qax] at hb437
 revert Hz
 obtain rfl : k = place.length := by omega
 intro Hz
 refine wcf Hz ?_
 refine wp_exit ?_
 refine hK3 _ _ ?_
 refine regS Hz (.assign rfl .nil) fun Az Hz => ?_
 refine rt1 Hz ?_
 exact ⟨true, rfl, iff_of_true rfl ⟨by omega, by omega, by omega, by omega, by omega, by omega, by omega, by omega, ⟨fun g hg9 => all_mem (P := fun x => 1 ≤ x ∧ x ≤ 7) hall g hg9, by omega⟩, by omega, by omega⟩, m431.below⟩
theorem rnew_any (kd vo bl sz pe to at0 ix : Int) (place : List Int) (pp pi : Option Addr) (cp ni ci : Nat) (w0 : World) (h0 : Rd (fun _ => True) w0 (.slice pp place.length cp) (.ns .i64 place)) (hn : place.length ≤ 1000000) :
   Calls Try.prog 25 #[.agg #[.int .i64 kd, .int .i64 vo, .int .i64 bl, .int .i64 sz, .int .i64 pe, .slice pp place.length cp, .int .i64 to, .int .i64 at0, .int .i64 ix, .slice pi ni ci]] w0 fun e w' => (NewOk vo bl sz pe to place ∧ ∃ p c, e = .returned (.tuple #[.agg #[.int .i64 vo, .int .i64 bl, .int .i64 sz, .int .i64 pe, .slice p place.length c, .int .i64 to, .int .i64 0, .bool (decide (0 < to)), .int .i64 0, .slice none 0 0, .slice none 0 0], .int .i64 0]) ∧ Rd (New w0) w' (.slice p place.length c) (.ns .i64 place) ∧ Below w0.heap.size w0 w') ∨ (¬ NewOk vo bl sz pe to place ∧ e = .returned (.tuple #[.agg #[.int .i64 0, .int .i64 0, .int .i64 0, .int .i64 0, .slice none 0 0, .int .i64 0, .int .i64 0, .bool false, .int .i64 0, .slice none 0 0, .slice none 0 0], .int .i64 23]) ∧ Below w0.heap.size w0 w') := by
 refine ent1 Try.func25 rfl Try.ntmps25 fun Az Hz => ?_
 have m0 := MemOk.start (fun _ => False) w0
 refine zsr fun K0 hK0 => ?_
 refine plz (e_box Hz m0 20 (cs := [_, _, _, _, _, _, _, _, _, _]) rfl rfl rfl fun g1 Az w2 Hz m2 _ _ => ?_)
 refine plz (e_alloc Hz m2 21 fct20 rfl fun g3 Az w4 Hz m4 _ _ => ?_)
 refine gz hK0 Hz (.assign rfl .nil) fun Az Hz => ?_
 refine wsk fun K1 hK1 => ?_
 refine zsr fun K2 hK2 => ?_
 refine goCh Hz (.loadBR m4 (i := 20) rfl rfl U73 rfl fct18 (by simp) (by dsimp only [List.drop, List.take] <;> rfl) .nil) fun Az Hz => ?_
 refine plz (ecl Hz Try.func63 rfl (rshape_any _ _ _ _ _ _ _ _ place _ _ _ _ _ _ ((h0.now' m4 rfl).any) hn) ?_)
 rintro e w8 ⟨sb, rfl, hsb, hb8⟩
 have m9 := m4.later hb8
 refine ⟨_, rfl, ?_⟩; intro Az Hz
 refine gz hK2 Hz (.not rfl .nil) fun Az Hz => ?_
 refine bc Hz 6 ?_ ?_
 ·
  intro hb12 Hz; try simp only [QQ, Qax] at hb12
  refine wct Hz ?_
  refine zsr fun K3 hK3 => ?_
  refine goCh Hz (.build rfl fct20 fl28rn rfl (by dsimp only [setL, List.set] <;> rfl) .nil) fun Az Hz => ?_
  refine plz (stw Hz m9 21 fct17 fun w15 m15 _ => ?_)
  refine gz hK3 Hz (.assign rfl .nil) fun Az Hz => ?_
  refine rtd (retCT (fn := Try.f25) Hz m15 (i := 21) rfl rfl rfl rfl U28 rfl fct17 ?_)
  exact .inr ⟨fun h => by have h12 := hsb.2 h; simp_all, rfl, m15.below⟩
 intro hb12 Hz; try simp only [QQ, Qax] at hb12
 refine wcf Hz ?_
 refine zss (hK1 _ _ ?_)
 refine wsk fun K4 hK4 => ?_
 have m17 := m9.oz [20, 21]
 refine region_p 19 (B := [(20, _)]) (m17.to ⟨il, trivial⟩) m17 (by kernel_rfl) (fun w18 hP18 m18 => ?_); clear m17
 refine goR hP18 [0, 1, 2, 3, 4, 5, 6, 7, 8, 9, 11, 12, 13, 14, 15] [1, 3, 5, 7, 9, 12, 14] 15 0 64511 Hz (m18.to ⟨il, trivial⟩) (.fa 1 rfl U73 <| .lb hh 20 U3 rfl rfl rfl <| .fa 2 rfl U73 <| .lb hh 20 U3 rfl rfl rfl <| .fa 3 rfl U73 <| .lb hh 20 U3 rfl rfl rfl <| .fa 4 rfl U73 <| .lb hh 20 U3 rfl rfl rfl <| .fa 5 rfl U73 <| .lb hh 20 U24 rfl rfl rfl <| .fa 6 rfl U73 <| .lb hh 20 U3 rfl rfl rfl <| .fa 6 rfl U73 <| .lb hh 20 U3 rfl rfl rfl <| .gtr rfl rfl .nil) fun Az Hz => ?_
 refine so 10 ?_
 refine e_app0N Hz m18 22 rfl rfl (h0.now' m18 rfl).ns_out.nums U24 fct26 (by decide) (by omega) rfl fun p34 c34 Az w35 Hz m35 => ?_
 refine ⟨m35.to ⟨il, trivial⟩, ?_⟩
 refine goA hP18 [16] 1 65535 131071 Hz (m35.to ⟨il, trivial⟩) (.build rfl fct20 fl28rn rfl (by dsimp only [setL, List.set] <;> rfl) .nil) fun Az Hz => ?_
 refine so 17 ?_
 refine stw Hz m35 21 fct17 fun w37 m37 _ => ?_
 refine ⟨m37.to ⟨il, trivial⟩, ?_⟩
 refine goA hP18 [18] 1 262143 524287 Hz (m37.to ⟨il, trivial⟩) (.assign rfl .nil) fun Az Hz => ?_
 refine wpAnyE_done (by kernel_rfl) ?_ _
 refine hK4 _ _ ?_
 refine rtd (retCT (fn := Try.f25) Hz m37 (i := 21) rfl rfl rfl rfl U28 rfl fct17 ?_)
 have m39 := m37.freezeN 22 rfl
 exact .inl ⟨hsb.1 (by simp_all), _, _, rfl, m39.outF (i := 22) rfl, m39.below⟩
theorem rnew_yes (kd vo bl sz pe to at0 ix : Int) (place : List Int) (pp pi : Option Addr) (cp ni ci : Nat) (w0 : World) (h0 : Rd (fun _ => True) w0 (.slice pp place.length cp) (.ns .i64 place)) (hn : place.length ≤ 1000000) (hN : NewOk vo bl sz pe to place) :
   Calls Try.prog 25 #[.agg #[.int .i64 kd, .int .i64 vo, .int .i64 bl, .int .i64 sz, .int .i64 pe, .slice pp place.length cp, .int .i64 to, .int .i64 at0, .int .i64 ix, .slice pi ni ci]] w0 fun e w' => ∃ p c, e = .returned (.tuple #[.agg #[.int .i64 vo, .int .i64 bl, .int .i64 sz, .int .i64 pe, .slice p place.length c, .int .i64 to, .int .i64 0, .bool (decide (0 < to)), .int .i64 0, .slice none 0 0, .slice none 0 0], .int .i64 0]) ∧ Rd (New w0) w' (.slice p place.length c) (.ns .i64 place) ∧ Below w0.heap.size w0 w' :=
 (rnew_any kd vo bl sz pe to at0 ix place pp pi cp ni ci w0 h0 hn).mono (fun _ _ h => h.elim (fun h => h.2) (fun h => absurd hN h.1))
theorem data_any (n : Nat) (b : Int) (w0 : World) (hn : n ≤ 1000000) (hb : 0 ≤ b ∧ b ≤ 255) :
   Calls Try.prog 81 #[.int .i64 (n : Int), .int .u8 b] w0 fun e w' => ∃ (d : List Int) (p : Option Addr) (c : Nat), e = .returned (.slice p n c) ∧ d.length = n ∧ BytesL d ∧ Rd (New w0) w' (.slice p n c) (.ns .u8 d) ∧ Below w0.heap.size w0 w' := by
 refine ent2 Try.func81 rfl Try.ntmps81 fun Az Hz => ?_
 have m0 := MemOk.start (fun _ => False) w0
 refine regS Hz (.assign rfl .nil) fun Az Hz => ?_
 refine regS Hz (.assign rfl .nil) fun Az Hz => ?_
 refine wsk fun K0 hK0 => ?_
 refine regS Hz (.assign rfl .nil) fun Az Hz => ?_
 refine wp_block ?_
 refine wp_loop_ghost (fun g a w => ∃ (k : Nat) (d : List Int) (p : Option Addr) (c : Nat), k ≤ n ∧ g = n - k ∧ d.length = k ∧ BytesL d ∧ Has 21 [(0, .int .i64 (n : Int)), (1, .int .u8 b), (5, .slice p d.length c), (6, .int .i64 k)] a ∧ MemOk (cn w0) w0 [(9, .num (.slice p d.length c) 5 .u8 d)] w) (n) ?_ ?_
 · have mz := m0.nilN 9 5 .u8
   exact ⟨0, [], _, _, Nat.zero_le _, rfl, rfl, (fun _ h => by cases h), Hz.only [0, 1, 5, 6], mz.only [9]⟩
 clear Hz m0
 rintro g Az w4 ⟨k, d, p, c, hkl, hg, hdl, hdb, Hz, m4⟩
 refine wsk fun K1 hK1 => ?_
 refine regS Hz (.move rfl <| .move rfl <| .lss rfl rfl .nil) fun Az Hz => ?_
 refine bc Hz 9 ?_ ?_
 ·
  intro hb8 Hz; try simp only [QQ, Qax] at hb8
  have hk : k < n := by omega
  obtain ⟨z, hz, hzb⟩ : ∃ z, IntKind.u8.wrap (b + IntKind.u8.wrap (IntKind.u8.wrap (k : Int) * 7)) = z ∧ 0 ≤ z ∧ z ≤ 255 := ⟨_, rfl, wrap_u8 _⟩
  refine wct Hz ?_
  refine zss (hK1 _ _ ?_)
  refine wsk fun K2 hK2 => ?_
  refine wp_block ?_
  refine wp_region_lit ?_
  refine goCh Hz (.move rfl <| .move rfl <| .move rfl <| .conv rfl U3 U5 rfl <| .mul rfl rfl rfl <| .add rfl rfl (r := z) hz .nil) fun Az Hz => ?_
  refine plz (e_litN Hz m4 100 (k := .u8) rfl rfl U22 fct0 rfl rfl rfl rfl fun g15 Az w16 Hz m16 => ?_)
  refine plz (e_appN Hz m16 9 rfl rfl rfl (m16.numsO (i := 100) rfl) U22 fct0 (by decide) (by simp; omega) rfl fun p17 c17 Az w18 Hz m18 => ?_)
  refine gz hK2 Hz (.assign rfl .nil) fun Az Hz => ?_
  replace Hz := Hz.oz [0, 1, 5, 6]
  refine wp_region_lit ?_
  refine goCh Hz (.move rfl <| .inc (k + 1) <| .assign rfl .nil) fun Az Hz => ?_
  refine wpList_nil ?_
  show ∃ n', n' < _ ∧ _
  exact ⟨n - (k + 1), by omega, k + 1, d ++ [z], _, _, by omega, rfl, by simp [hdl], bytes_snoc hdb hzb, Hz.only [0, 1, 5, 6], m18.only [9]⟩
 intro hb8 Hz; try simp only [QQ, Qax] at hb8
 revert Hz
 obtain rfl : k = n := by omega
 intro Hz
 refine wcf Hz ?_
 refine wp_exit ?_
 refine hK0 _ _ ?_
 refine regS Hz (.move rfl <| .assign rfl .nil) fun Az Hz => ?_
 refine rt1 Hz ?_
 have m26 := m4.freezeN 9 rfl
 exact ⟨_, _, _, by rw [hdl], hdl, hdb, by rw [← hdl]; exact m26.outF (i := 9) rfl, m26.below⟩
theorem create_any (vx bx sx px to : Int) (w0 : World) (hv : 0 ≤ vx ∧ vx ≤ 255) (hb : 0 ≤ bx ∧ bx ≤ 255) (hs : 0 ≤ sx ∧ sx ≤ 255) (hp : 0 ≤ px ∧ px ≤ 255) :
   Calls Try.prog 26 #[.int .u8 vx, .int .u8 bx, .int .u8 sx, .int .u8 px, .int .i64 to] w0 fun e w' => ∃ (bl sz pe : Int) (pl : List Int) (p : Option Addr) (c : Nat), e = .returned (.agg #[.int .i64 1, .int .i64 (vx.tmod 3), .int .i64 bl, .int .i64 sz, .int .i64 pe, .slice p pl.length c, .int .i64 to, .int .i64 0, .int .i64 0, .slice none 0 0]) ∧ 1 ≤ bl ∧ bl ≤ 9 ∧ 1 ≤ sz ∧ sz ≤ 3 ∧ 1 ≤ pe ∧ pe ≤ bl ∧ PlaceOk bl pe pl ∧ pl.length ≤ 9 ∧ Rd (New w0) w' (.slice p pl.length c) (.ns .i64 pl) ∧ Below w0.heap.size w0 w' := by
 refine ent5 Try.func26 rfl Try.ntmps26 fun Az Hz => ?_
 have m0 := MemOk.start (fun _ => False) w0
 obtain ⟨vm, hvm, hvmb⟩ : ∃ x : Int, vx.tmod 3 = x ∧ 0 ≤ x ∧ x ≤ 2 := ⟨_, rfl, by rw [Int.tmod_eq_emod_of_nonneg (by omega)]; omega, by rw [Int.tmod_eq_emod_of_nonneg (by omega)]; omega⟩
 obtain ⟨b0, hb0, hb0b⟩ : ∃ x : Int, bx.tmod 9 = x ∧ 0 ≤ x ∧ x ≤ 8 := ⟨_, rfl, by rw [Int.tmod_eq_emod_of_nonneg (by omega)]; omega, by rw [Int.tmod_eq_emod_of_nonneg (by omega)]; omega⟩
 obtain ⟨s0, hs0, hs0b⟩ : ∃ x : Int, sx.tmod 3 = x ∧ 0 ≤ x ∧ x ≤ 2 := ⟨_, rfl, by rw [Int.tmod_eq_emod_of_nonneg (by omega)]; omega, by rw [Int.tmod_eq_emod_of_nonneg (by omega)]; omega⟩
 obtain ⟨bl, hbl⟩ : ∃ x : Int, b0 + 1 = x := ⟨_, rfl⟩
 obtain ⟨sz, hsz⟩ : ∃ x : Int, s0 + 1 = x := ⟨_, rfl⟩
 obtain ⟨pm, hpm, hpm1, hpm2⟩ : ∃ x : Int, px.tmod bl = x ∧ 0 ≤ x ∧ x < bl := ⟨_, rfl, by rw [Int.tmod_eq_emod_of_nonneg (by omega)]; exact Int.emod_nonneg _ (by omega), by rw [Int.tmod_eq_emod_of_nonneg (by omega)]; exact Int.emod_lt_of_pos _ (by omega)⟩
 obtain ⟨cc, hcc⟩ : ∃ x : Int, (bl + (pm + 1) - 1) / (pm + 1) = x := ⟨_, rfl⟩
 have hccb : 0 ≤ cc ∧ cc ≤ 9 := by
   rw [← hcc]
   have h1 := Int.ediv_nonneg (show 0 ≤ bl + (pm + 1) - 1 by omega) (show 0 ≤ pm + 1 by omega)
   refine ⟨h1, ?_⟩
   have h2 : (bl + (pm + 1) - 1) / (pm + 1) < 10 := Int.ediv_lt_of_lt_mul (by omega) (by have h10 : 10 * (pm + 1) = 10 * pm + 10 := (by omega); omega)
   omega
 refine zsr fun K0 hK0 => ?_
 refine plz (e_alloc Hz m0 20 fct23 rfl fun g1 Az w2 Hz m2 _ _ => ?_)
 refine znl (hK0 _ _ ?_)
 refine zsr fun K1 hK1 => ?_
 refine goCh Hz (.move rfl <| .rem rfl rfl (by decide) (r := vm) hvm <| .conv rfl U5 U3 (r := vm) (IntWalk.i64_in _ (by omega)) <| .move rfl <| .rem rfl rfl (by decide) (r := b0) hb0 <| .conv rfl U5 U3 (r := b0) (IntWalk.i64_in _ (by omega)) <| .add rfl rfl (r := bl) (by rw [hbl]; exact (IntWalk.i64_in _ (by omega))) <| .move rfl <| .rem rfl rfl (by decide) (r := s0) hs0 <| .conv rfl U5 U3 (r := s0) (IntWalk.i64_in _ (by omega)) <| .add rfl rfl (r := sz) (by rw [hsz]; exact (IntWalk.i64_in _ (by omega))) <| .move rfl <| .build rfl fct23 fl73cr rfl (by dsimp only [setL, List.set] <;> rfl) .nil) fun Az Hz => ?_
 refine plz (e_alloc Hz m2 21 fct23 rfl fun g29 Az w30 Hz m30 _ _ => ?_)
 refine plz (stw Hz m30 21 fct18 fun w31 m31 _ => ?_)
 refine znl (hK1 _ _ ?_)
 replace Hz := Hz.oz [3, 10, 11]
 refine zsr fun K2 hK2 => ?_
 refine goCh Hz (.move rfl <| .conv rfl U5 U3 (r := px) (IntWalk.i64_in _ (by omega)) <| .fa 2 rfl U73 <| .lb m31 21 U3 rfl rfl rfl <| .rem rfl rfl (by omega) (r := pm) hpm <| .add rfl rfl (r := pm + 1) (IntWalk.i64_in _ (by omega)) <| .fa 4 rfl U73 .nil) fun Az Hz => ?_
 refine plz (st1 Hz m31 21 fct22 fun w47 m47 _ => ?_)
 refine znl (hK2 _ _ ?_)
 refine wsk fun K3 hK3 => ?_
 replace Hz := Hz.oz [3, 10, 11]
 refine regS Hz (.assign rfl .nil) fun Az Hz => ?_
 refine wp_block ?_
 refine wp_loop_ghost (fun g a w => ∃ (i A D : Nat) (q : Option Addr) (c : Nat), (i : Int) ≤ cc ∧ g = cc.toNat - i ∧ Has 54 [(3, .int .u8 px), (10, .pointer (some ⟨A, 0, none⟩)), (11, .pointer (some ⟨D, 0, none⟩)), (12, .int .i64 (i : Int))] a ∧ MemOk (cn w0) w0 [(8, .box A 73 [.int .i64 0, .int .i64 0, .int .i64 0, .int .i64 0, .int .i64 0, .slice none 0 0, .int .i64 0, .int .i64 0, .int .i64 0, .slice none 0 0]), (9, .box D 73 [.int .i64 1, .int .i64 vm, .int .i64 bl, .int .i64 sz, .int .i64 (pm + 1), .slice q (crL px i).length c, .int .i64 to, .int .i64 0, .int .i64 0, .slice none 0 0]), (10, .num (.slice q (crL px i).length c) 3 .i64 (crL px i))] w) (cc.toNat) ?_ ?_
 · have mz := m47.nilN 10 3 .i64
   exact ⟨0, _, _, _, _, by omega, rfl, Hz.only [3, 10, 11, 12], mz.ren [(8, 20), (9, 21), (10, 10)] (by decide)⟩
 clear Hz m47
 rintro g Az w50 ⟨i, A, D, q, c, hic, hg, Hz, m50⟩
 refine wsk fun K4 hK4 => ?_
 refine zsr fun K5 hK5 => ?_
 refine goCh Hz (.move rfl <| .fa 2 rfl U73 <| .lb m50 9 U3 rfl rfl rfl <| .fa 4 rfl U73 <| .lb m50 9 U3 rfl rfl rfl .nil) fun Az Hz => ?_
 refine plz (ecb Hz Try.func64 rfl m50 (chunks_any bl (pm + 1) _ (by omega) (by omega)) fun Az w61 Hz m62 => ?_)
 refine gz hK5 Hz (.lss rfl rfl .nil) fun Az Hz => ?_
 refine bc Hz 39 ?_ ?_
 ·
  intro hb65 Hz; try simp only [QQ, Qax] at hb65
  rw [hcc] at hb65
  have hi9 : (i : Int) < cc := by omega
  refine wct Hz ?_
  refine zss (hK4 _ _ ?_)
  refine wsk fun K6 hK6 => ?_
  refine wp_block ?_
  replace Hz := Hz.oz [3, 10, 11, 12]
  refine wp_region_lit ?_
  refine goCh Hz (.fa 5 rfl U73 <| .lb m62 9 U24 rfl rfl rfl <| .move rfl <| .move rfl <| .conv rfl U5 U3 (r := px) (IntWalk.i64_in _ (by omega)) <| .add rfl rfl (r := (i : Int) + px) (IntWalk.i64_in _ (by omega)) <| .rem rfl rfl (by decide) (Int.tmod_eq_emod_of_nonneg (by omega)) <| .add rfl rfl (r := 1 + ((i : Int) + px) % 2) (IntWalk.i64_in _ (by omega)) .nil) fun Az Hz => ?_
  refine plz (e_litN Hz m62 100 (k := .i64) rfl rfl U24 fct26 rfl rfl rfl rfl fun g75 Az w76 Hz m76 => ?_)
  refine plz (e_appN Hz m76 10 rfl rfl rfl (m76.numsO (i := 100) rfl) U24 fct26 (by decide) (by simp [crL_len]; omega) rfl fun p77 c77 Az w78 Hz m78 => ?_)
  refine goCh Hz (.fieldAddr (off := 5) rfl U73 rfl (s := 0) (by kernel_rfl) rfl .nil) fun Az Hz => ?_
  refine plz (st1 Hz m78 9 fct37 fun w80 m80 _ => ?_)
  refine znl (hK6 _ _ ?_)
  replace Hz := Hz.oz [3, 10, 11, 12]
  refine wp_region_lit ?_
  refine goCh Hz (.move rfl <| .inc (i + 1) <| .assign rfl .nil) fun Az Hz => ?_
  refine wpList_nil ?_
  show ∃ n', n' < _ ∧ _
  have hE : crL px i ++ [1 + ((i : Int) + px) % 2] = crL px (i + 1) := (crL_snoc px i).symm
  rw [hE] at m80
  exact ⟨cc.toNat - (i + 1), by omega, i + 1, _, _, _, _, by omega, rfl, Hz.only [3, 10, 11, 12], m80.only [8, 9, 10]⟩
 intro hb65 Hz; try simp only [QQ, Qax] at hb65
 rw [hcc] at hb65
 have hi9 : (i : Int) = cc := by omega
 refine wcf Hz ?_
 refine wp_exit ?_
 refine hK3 _ _ ?_
 replace Hz := Hz.oz [3, 10, 11, 12]
 refine zsr fun K7 hK7 => ?_
 refine goCh Hz (.loadBR m62 (i := 9) rfl rfl U73 rfl fct18 (by simp) (by dsimp only [List.drop, List.take] <;> rfl) .nil) fun Az Hz => ?_
 refine plz (stw Hz m62 8 fct18 fun w88 m88 _ => ?_)
 refine znl (hK7 _ _ ?_)
 refine rtd (retC (fn := Try.f26) Hz m88 (i := 8) rfl rfl rfl U73 rfl fct18 ?_)
 have m89 := m88.freezeN 10 rfl
 exact ⟨bl, sz, pm + 1, crL px i, _, _, by rw [hvm], by omega, by omega, by omega, by omega, by omega, by omega, ⟨crL_ok px i, by rw [crL_len, hcc]; exact hi9⟩, by rw [crL_len]; omega, m89.outF (i := 10) rfl, m89.below⟩
theorem sitem_any (bl : Int) (z : Nat) (l : List Int) (pl : Option Addr) (cl : Nat) (w0 : World) (h0 : Rd (fun _ => True) w0 (.slice pl l.length cl) (.ns .u8 l)) (hl : l.length ≤ 1000000) (hlb : ∀ j, j < l.length → 0 ≤ l.getD j 0 ∧ l.getD j 0 ≤ 255) (hz : z ≤ 1000) :
   Calls Try.prog 60 #[.int .i64 bl, .int .i64 (z : Int), .slice pl l.length cl] w0 fun e w' => ∃ (it : List (Int × List Int)) (p : Option Addr) (c : Nat), e = .returned (.slice p it.length c) ∧ it.length ≤ 8 ∧ ItPre (max bl 1) z it it.length ∧ ItsB it ∧ (l ≠ [] → 1 ≤ it.length) ∧ Rd (New w0) w' (.slice p it.length c) (.l 2 (it.map itD)) ∧ Below w0.heap.size w0 w' := by
 refine ent3 Try.func60 rfl Try.ntmps60 fun Az Hz => ?_
 have m0 := MemOk.start (fun _ => False) w0
 obtain ⟨bb, hbb⟩ : ∃ x : Int, max bl 1 = x := ⟨_, rfl⟩
 refine regS Hz (.assign rfl .nil) fun Az Hz => ?_
 refine regS Hz (.assign rfl .nil) fun Az Hz => ?_
 refine wsk fun K0 hK0 => ?_
 refine regS Hz (.assign rfl .nil) fun Az Hz => ?_
 refine wp_block ?_
 refine wp_loop_ghost (fun g a w => ∃ (k : Nat) (it : List (Int × List Int)) (p : Option Addr) (c : Nat), k ≤ l.length ∧ g = l.length - k ∧ it.length ≤ 8 ∧ ItPre bb z it it.length ∧ ItsB it ∧ (0 < k → 1 ≤ it.length) ∧ Has 61 [(0, .int .i64 bl), (1, .int .i64 (z : Int)), (2, .slice pl l.length cl), (7, .slice p (it.map itD).length c), (8, .int .i64 k)] a ∧ MemOk (cn w0) w0 [(9, .seg (.slice p (it.map itD).length c) 50 2 (it.map itD))] w) (l.length) ?_ ?_
 · have mz := (m0.nilR 9 50 2).rowS 9 rfl
   exact ⟨0, [], _, _, Nat.zero_le _, rfl, by simp, (fun j hj => by simp at hj), (fun _ h => by cases h), (fun h => by omega), Hz.only [0, 1, 2, 7, 8], mz.only [9]⟩
 clear Hz m0
 rintro g Az w4 ⟨k, it, p, c, hkl, hg, hit8, hpre, hitb, hne, Hz, m4⟩
 refine wsk fun K1 hK1 => ?_
 refine zsr fun K2 hK2 => ?_
 refine goCh Hz (.move rfl <| .move rfl <| .len rfl U22 <| .lss rfl rfl <| .move rfl .nil) fun Az Hz => ?_
 refine bc Hz 16 ?_ ?_
 ·
  intro hb15 Hz; try simp only [QQ, Qax] at hb15
  have hk : k < l.length := by omega
  have hx := hlb k hk
  obtain ⟨b9, hb9e, hb9⟩ : ∃ x : Int, (l.getD k 0).tmod bb = x ∧ (0 ≤ x ∧ x < bb) := ⟨_, rfl, by rw [Int.tmod_eq_emod_of_nonneg (by omega)]; exact Int.emod_nonneg _ (by omega), by rw [Int.tmod_eq_emod_of_nonneg (by omega)]; exact Int.emod_lt_of_pos _ (by omega)⟩
  refine gz hK2 Hz (.moveZ rfl <| .lenZ rfl U51 <| .lssZ rfl rfl <| .pickT rfl rfl <| .nil) fun Az Hz => ?_
  refine bc Hz 20 ?_ ?_
  ·
   intro hb20 Hz; try simp only [QQ, Qax] at hb20
   rw [List.length_map] at hb20
   refine wct Hz ?_
   refine zss (hK1 _ _ ?_)
   refine wsk fun K3 hK3 => ?_
   refine wp_block ?_
   replace Hz := Hz.oz [0, 1, 2, 7, 8]
   refine zsr fun K4 hK4 => ?_
   refine goCh Hz (.move rfl <| .move rfl .nil) fun Az Hz => ?_
   obtain ⟨gx27, ox27, hp27, hl27, hrg27⟩ := h0.extN (k) hk
   revert Hz
   cases hp27
   intro Hz
   refine gz hK4 Hz (.c rfl (fun _ h => y_idx h rfl rfl U22 fct15 (k) rfl hk) <| .loadAt1 (hrg27 m4 rfl) (q := 0) rfl rfl rfl U5 rfl <| .conv rfl U5 U3 (r := l.getD k 0) (IntWalk.i64_in _ (by omega)) <| .move rfl <| .c rfl (fun _ h => y_max h rfl rfl (r := bb) hbb) <| .rem rfl rfl (by omega) (r := b9) hb9e <| .assign rfl <| .nil) fun Az Hz => ?_
   replace Hz := Hz.oz [0, 1, 2, 7, 8, 9]
   refine regS Hz (.assign rfl .nil) fun Az Hz => ?_
   refine wsk fun K5 hK5 => ?_
   refine regS Hz (.assign rfl .nil) fun Az Hz => ?_
   refine wp_block ?_
   refine wp_loop_ghost (fun g a w => ∃ (j : Nat) (tb : Bool) (p : Option Addr) (c : Nat), j ≤ it.length ∧ g = it.length - j ∧ (tb = true ↔ ∃ e ∈ it.take j, e.1 = b9) ∧ Has 61 [(0, .int .i64 bl), (1, .int .i64 (z : Int)), (2, .slice (some ⟨gx27, ox27, none⟩) l.length cl), (7, .slice p (it.map itD).length c), (8, .int .i64 k), (9, .int .i64 b9), (10, .bool tb), (11, .int .i64 j)] a ∧ MemOk (cn w0) w0 [(9, .seg (.slice p (it.map itD).length c) 50 2 (it.map itD))] w) (it.length) ?_ ?_
   · exact ⟨0, false, _, _, Nat.zero_le _, rfl, by simp, Hz.only [0, 1, 2, 7, 8, 9, 10, 11], m4.only [9]⟩
   clear Hz m4
   rintro g Az w38 ⟨j, tb, p, c, hjl, hg2, htb, Hz, m38⟩
   refine wsk fun K6 hK6 => ?_
   refine regS Hz (.move rfl <| .move rfl <| .len rfl U51 <| .lss rfl rfl .nil) fun Az Hz => ?_
   refine bc Hz 34 ?_ ?_
   ·
    intro hb43 Hz; try simp only [QQ, Qax] at hb43
    rw [List.length_map] at hb43
    have hj : j < it.length := by omega
    obtain ⟨⟨yb, yd⟩, hit⟩ : ∃ e, it[j]? = some e := ⟨_, List.getElem?_eq_getElem hj⟩
    refine wct Hz ?_
    refine zss (hK6 _ _ ?_)
    refine wsk fun K7 hK7 => ?_
    refine wp_block ?_
    refine wp_region_lit ?_
    refine goCh Hz (.move rfl <| .move rfl .nil) fun Az Hz => ?_
    refine bc Hz 38 ?_ ?_
    ·
     intro hb46 Hz; try simp only [QQ, Qax] at hb46
     refine gz hK7 Hz (.sk <| .sk <| .sk <| .sk <| .sk <| .sk <| .sk <| .pickT rfl rfl <| .assign rfl <| .nil) fun Az Hz => ?_
     replace Hz := Hz.oz [0, 1, 2, 7, 8, 9, 10, 11, 38]
     refine wp_region_lit ?_
     refine goCh Hz (.move rfl <| .inc (j + 1) <| .assign rfl .nil) fun Az Hz => ?_
     refine wpList_nil ?_
     show ∃ n', n' < _ ∧ _
     exact ⟨it.length - (j + 1), by omega, j + 1, _, _, _, by omega, rfl, there_snoc (tb := true) (hb46 ▸ htb) hit, Hz.only [0, 1, 2, 7, 8, 9, 10, 11], m38.only [9]⟩
    intro hb46 Hz; try simp only [QQ, Qax] at hb46
    refine goCh Hz (.moveZ rfl <| .moveZ rfl .nil) fun Az Hz => ?_
    obtain ⟨gs62, os62, vs62, hp62, hl62, hR62, hrg62⟩ := m38.openS (i := 9) rfl (j) (r := [.v (.int .i64 yb), .ns .u8 yd]) (itD_get hit)
    revert Hz
    cases hp62; clear hl62 hR62 hrg62 vs62
    intro Hz
    refine gz hK7 Hz (.g rfl rfl rfl rfl (fun _ h => y_idx h rfl rfl U51 fct31 (j) rfl (by rw [List.length_map]; exact hj)) <| .fieldAddrQZ 0 rfl U50 rfl (s := 0) (by kernel_rfl) rfl <| .loadSVZ m38 (i := 9) rfl (j) (r := [.v (.int .i64 yb), .ns .u8 yd]) (itD_get hit) (q := 0) rfl rfl rfl U3 rfl <| .moveZ rfl <| .eqlZ rfl rfl <| .pickF rfl rfl <| .assign rfl <| .nil) fun Az Hz => ?_
    replace Hz := Hz.oz [0, 1, 2, 7, 8, 9, 10, 11, 38]
    refine wp_region_lit ?_
    refine goCh Hz (.move rfl <| .inc (j + 1) <| .assign rfl .nil) fun Az Hz => ?_
    refine wpList_nil ?_
    show ∃ n', n' < _ ∧ _
    exact ⟨it.length - (j + 1), by omega, j + 1, _, _, _, by omega, rfl, there_snoc (tb := false) (hb46 ▸ htb) hit, Hz.only [0, 1, 2, 7, 8, 9, 10, 11], m38.only [9]⟩
   intro hb43 Hz; try simp only [QQ, Qax] at hb43
   rw [List.length_map] at hb43
   revert Hz
   obtain rfl : j = it.length := by omega
   intro Hz
   rw [List.take_length] at htb
   refine wcf Hz ?_
   refine wp_exit ?_
   refine hK5 _ _ ?_
   refine regS Hz (.move rfl <| .not rfl .nil) fun Az Hz => ?_
   refine bc Hz 48 ?_ ?_
   ·
    intro hb76 Hz; try simp only [QQ, Qax] at hb76
    have hno : ¬ ∃ e ∈ it, e.1 = b9 := fun h => by have h9 := htb.2 h; simp_all
    refine wct Hz ?_
    refine wp_region_lit ?_
    refine goCh Hz (.move rfl <| .move rfl <| .move rfl <| .move rfl <| .move rfl .nil) fun Az Hz => ?_
    obtain ⟨gx82, ox82, hp82, hl82, hrg82⟩ := h0.extN (k) hk
    revert Hz
    cases hp82
    intro Hz
    refine goCh Hz (.c rfl (fun _ h => y_idx h rfl rfl U22 fct15 (k) rfl hk) <| .loadAt1 (hrg82 m38 rfl) (q := 0) rfl rfl rfl U5 rfl .nil) fun Az Hz => ?_
    refine plz (ecl Hz Try.func81 rfl (data_any z (l.getD k 0) _ (by omega) (by omega)) ?_)
    rintro e w85 ⟨d9, p85, c85, rfl, hd9l, hd9b, hd85, hb85⟩
    have m86 := m38.callF 200 rfl hb85 hd85
    refine ⟨_, rfl, ?_⟩; intro Az Hz
    refine goCh Hz (.build rfl fct7 fl50is2 rfl (by dsimp only [setL, List.set] <;> rfl) .nil) fun Az Hz => ?_
    refine plz (e_litR Hz m86 201 (mm := 2) rfl (.cons rfl rfl (.cons (.v _) (.cons (m86.rd (i := 200) rfl) .nil)) .nil) U51 fct1 rfl rfl rfl rfl rfl fun g89 Az w90 Hz m90 => ?_)
    have m92 := m90.freezeR 201 rfl
    refine plz (e_appSA Hz m92 9 rfl rfl rfl (m92.rd (i := 201) rfl).cells U51 fct1 rfl rfl (by decide) (by simp; omega) rfl fun p91 c91 Az w93 Hz m93 => ?_)
    refine gz hK3 Hz (.assign rfl .nil) fun Az Hz => ?_
    replace Hz := Hz.oz [0, 1, 2, 7, 8, 9, 10, 11, 48]
    refine wp_region_lit ?_
    refine goCh Hz (.move rfl <| .inc (k + 1) <| .assign rfl .nil) fun Az Hz => ?_
    refine wpList_nil ?_
    show ∃ n', n' < _ ∧ _
    have hE : it.map itD ++ [[D.v (.int .i64 b9), .ns .u8 d9]] = (it ++ [(b9, d9)]).map itD := by rw [List.map_append]; rfl
    rw [hE] at m93 Hz
    skip
    exact ⟨l.length - (k + 1), by omega, k + 1, it ++ [(b9, d9)], _, _, by omega, rfl, by simp; omega, by rw [List.length_append]; exact itpre_app hpre hb9 (by omega) hno, itsB_snoc hitb (by omega) hd9b, fun _ => by simp, Hz.only [0, 1, 2, 7, 8], m93.only [9]⟩
   intro hb76 Hz; try simp only [QQ, Qax] at hb76
   have hsome : 1 ≤ it.length := by
     obtain ⟨e9, h9, -⟩ := htb.1 (by simp_all)
     exact List.length_pos_of_mem h9
   refine wcf Hz ?_
   refine zss (hK3 _ _ ?_)
   refine wp_region_lit ?_
   refine goCh Hz (.move rfl <| .inc (k + 1) <| .assign rfl .nil) fun Az Hz => ?_
   refine wpList_nil ?_
   show ∃ n', n' < _ ∧ _
   exact ⟨l.length - (k + 1), by omega, k + 1, it, _, _, by omega, rfl, by omega, hpre, hitb, fun _ => hsome, Hz.only [0, 1, 2, 7, 8], m38.only [9]⟩
  intro hb20 Hz; try simp only [QQ, Qax] at hb20
  rw [List.length_map] at hb20
  refine wcf Hz ?_
  refine wp_exit ?_
  refine hK0 _ _ ?_
  replace Hz := Hz.oz [0, 1, 2, 7, 8]
  refine regS Hz (.move rfl <| .assign rfl .nil) fun Az Hz => ?_
  refine rt1 Hz ?_
  have mf := m4.freezeS 9 rfl (by simp [cx])
  exact ⟨it, _, _, by rw [List.length_map], hit8, (by rw [hbb]; exact hpre), hitb, (fun h => by first | omega | (have h9 := List.length_pos_iff.2 h; exact hne (by omega))), by simpa using mf.outF (i := 9) rfl, m4.below⟩
 intro hb15 Hz; try simp only [QQ, Qax] at hb15
 revert Hz
 obtain rfl : k = l.length := by omega
 intro Hz
 refine gz hK2 Hz (.sk <| .sk <| .sk <| .pickF rfl rfl <| .nil) fun Az Hz => ?_
 refine wcf Hz ?_
 refine wp_exit ?_
 refine hK0 _ _ ?_
 replace Hz := Hz.oz [0, 1, 2, 7, 8]
 refine regS Hz (.move rfl <| .assign rfl .nil) fun Az Hz => ?_
 refine rt1 Hz ?_
 have mf := m4.freezeS 9 rfl (by simp [cx])
 exact ⟨it, _, _, by rw [List.length_map], hit8, (by rw [hbb]; exact hpre), hitb, (fun h => by first | omega | (have h9 := List.length_pos_iff.2 h; exact hne (by omega))), by simpa using mf.outF (i := 9) rfl, m4.below⟩
end Go.Proofs.Yteglmahnkfgelaa.K
end
