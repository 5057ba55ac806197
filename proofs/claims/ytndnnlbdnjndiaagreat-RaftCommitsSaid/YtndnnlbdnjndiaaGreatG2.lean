/- General laws of walks. -/
import Derived.Test.YtndnnlbdnjndiaaGreatG1
import Derived.Laws.MakeOwn
import Derived.Sort.OwnSortedInts
import Derived.Lib.AppendZerosOnto
import Derived.Test.YtndnnlbdnjndiaaGreatShelf
import Derived.Lib.SlicesCompact
namespace Go.Proofs.YtndnnlbdnjndiaaGreat.K
open Go.ChangeShapes Go.WideShapes Go.ChangeAt Go.RowKit
set_option linter.unusedVariables false
set_option linter.unusedSimpArgs false
section
abbrev cn (w : World) : Cx := cx (fun _ => False) w
abbrev New (w : World) (b : Nat) : Prop := w.heap.size ≤ b
section
variable {w w0 : World} {X : Cx} {M : Mm}
theorem cn_new {b : Nat} (h : Free (cn w0) M b) : New w0 b := by
 by_cases hb : b < w0.heap.size
 · exact (h.1 hb).elim
 · show w0.heap.size ≤ b; omega
theorem MemOk.outF (m : MemOk (cn w0) w0 M w) {i : Nat} {v : Value} {d : D} (h : lk M i = some (.dat v d)) : Rd (New w0) w v d := (m.ok i _ h : Rd _ _ _ _).cast (fun _ => cn_new)
theorem MemOk.callF (m : MemOk X w0 M w) (i : Nat) (hi : lk M i = none) {w' : World} (hb : Below w.heap.size w w') {u : Value} {d : D} (h : Rd (New w) w' u d) : MemOk X w0 ((i, .dat u d) :: M) w' :=
 (m.later hb).dat i hi (h.cast (fun b hb => m.free_out (.inr hb)))
theorem keepNow (m : MemOk X w0 M w) (hX : X.bad = []) {b : Nat} (hb : b < w0.heap.size) : w.heap[b]? = w0.heap[b]? := m.keep.2.2.2.2 b hb (by rw [hX]; exact List.not_mem_nil)
theorem Blk.now {g : Nat} {e : TypeId} {cs : List Value} (h : Blk w0 g e cs) (m : MemOk X w0 M w) (hX : X.bad = []) : Blk w g e cs := (keepNow m hX h.lt).trans h
theorem Rd.now' {S2 : Nat → Prop} {v : Value} {d : D} (h : Rd S2 w0 v d) (m : MemOk X w0 M w) (hX : X.bad = []) : Rd S2 w v d := h.now m (fun b _ => by rw [hX]; exact List.not_mem_nil)
theorem Rd.extA {S2 : Nat → Prop} {p : Option Addr} {l c mm : Nat} {rows : List (List D)} (h : Rd S2 w0 (.slice p l c) (.l mm rows)) (j : Nat) {r : List D} (hr : rows[j]? = some r) : ∃ g off vs, p = some ⟨g, off, none⟩ ∧ l = rows.length ∧ RdL S2 w0 vs r ∧ ∀ {X : Cx} {M : Mm} {w : World}, MemOk X w0 M w → X.bad = [] → w.rangeAt g (off + j * mm) vs := by
 have hj : j < rows.length := (List.getElem?_eq_some_iff.1 hr).1
 rcases Rd.l_out h with rfl | ⟨b, off, c', f, e, hS, hb, hmm, hcell, hrd⟩
 · simp at hj
 · injection e with e1 e2 e3
   have hrm : r.length = mm := hmm r (List.mem_of_getElem? hr)
   refine ⟨b, off, (List.range mm).map (f j), e1, e2, RdL.of (by simp [hrm]) (fun q v d h1 h2 => ?_), fun m hX q v hv => ?_⟩
   · have h1' : q < mm := by have := (List.getElem?_eq_some_iff.1 h2).1; omega
     have : v = f j q := by simpa [h1'] using h1.symm
     subst this
     exact hrd j q r _ hr h2
   · have hq' := (List.getElem?_eq_some_iff.1 hv).1
     have hq2 : q < mm := by simpa using hq'
     have : v = f j q := by simpa [hq2] using hv.symm
     subst this
     rw [World.cell?_of_block (w := w0) (keepNow m hX hb)]
     exact (hcell j q hj hq2).1
theorem Rd.extN {S2 : Nat → Prop} {p : Option Addr} {l c : Nat} {k : IntKind} {zs : List Int} (h : Rd S2 w0 (.slice p l c) (.ns k zs)) (j : Nat) (hj : j < zs.length) : ∃ g off, p = some ⟨g, off, none⟩ ∧ l = zs.length ∧ ∀ {X : Cx} {M : Mm} {w : World}, MemOk X w0 M w → X.bad = [] → w.rangeAt g (off + j * 1) [.int k (zs.getD j 0)] := by
 obtain ⟨a, c', e, hc, h0 | ⟨b, off, rfl, hS, hb, hcell⟩⟩ := h.ns_out
 · omega
 · injection e with e1 e2 e3
   refine ⟨b, off, e1, e2, fun m hX q v hv => ?_⟩
   obtain rfl : q = 0 := by have := (List.getElem?_eq_some_iff.1 hv).1; simpa using this
   simp at hv; subst hv
   rw [World.cell?_of_block (w := w0) (keepNow m hX hb), Nat.add_zero, Nat.mul_one]
   exact hcell j hj
theorem Rd.takeL {S : Nat → Prop} {p : Option Addr} {l c mm : Nat} {rows : List (List D)} (h : Rd S w (.slice p l c) (.l mm rows)) (j : Nat) (hj : j ≤ rows.length) : Rd S w (.slice p j c) (.l mm (rows.take j)) := by
 by_cases h0 : j = 0
 · subst h0; rw [List.take_zero]; exact .l0 _ _ _
 · rcases Rd.l_out h with rfl | ⟨b, off, c', f, e, hS, hb, hmm, hcell, hrd⟩
   · simp at hj; omega
   · obtain ⟨p', c'', e', hle⟩ := h.l_shape
     injection e with e1 e2 e3
     injection e' with e4 e5 e6
     subst e1; subst e6
     have hl : (rows.take j).length = j := by rw [List.length_take]; omega
     have := Rd.l (S := S) (w := w) mm b off c (rows.take j) f hS hb (by omega) (fun r hr => hmm r (List.mem_of_mem_take hr)) (fun i q hi hq => hcell i q (by omega) hq) (fun i q r d hi hq => by
       have hlt : i < j := by have := (List.getElem?_eq_some_iff.1 hi).1; omega
       rw [List.getElem?_take_of_lt hlt] at hi
       exact hrd i q r d hi hq)
     rw [hl] at this; exact this
theorem Rd.dropL {S : Nat → Prop} {p : Option Addr} {l c mm : Nat} {rows : List (List D)} (h : Rd S w (.slice p l c) (.l mm rows)) (j : Nat) (hj : j ≤ rows.length) : Rd S w (.slice (if c = j then p else p.map (·.add (j * mm))) (l - j) (c - j)) (.l mm (rows.drop j)) := by
 obtain ⟨p', c'', e', hle⟩ := h.l_shape
 injection e' with e4 e5 e6
 subst e5
 by_cases h0 : j = rows.length
 · subst h0; rw [List.drop_length, Nat.sub_self]; exact .l0 _ _ _
 · rcases Rd.l_out h with rfl | ⟨b, off, c', f, e, hS, hb, hmm, hcell, hrd⟩
   · simp only [List.length_nil] at hj h0; omega
   · injection e with e1 e2 e3
     subst e1; subst e6
     rw [if_neg (by omega)]
     have hl : (rows.drop j).length = rows.length - j := List.length_drop
     have := Rd.l (S := S) (w := w) mm b (off + j * mm) (c - j) (rows.drop j) (fun i q => f (j + i) q) hS hb (by omega) (fun r hr => hmm r (List.mem_of_mem_drop hr)) (fun i q hi hq => by
       have := hcell (j + i) q (by omega) hq
       rw [show off + j * mm + i * mm + q = off + (j + i) * mm + q by rw [Nat.add_mul]; omega]
       exact this) (fun i q r d hi hq => by
       rw [List.getElem?_drop] at hi
       exact hrd (j + i) q r d hi hq)
     rw [hl] at this
     simpa [Addr.add_mid] using this
theorem MemOk.takeR (m : MemOk X w0 M w) {i : Nat} {p : Option Addr} {l c mm : Nat} {rows : List (List D)} (hm : lk M i = some (.dat (.slice p l c) (.l mm rows))) (j : Nat) (hj : j ≤ rows.length) (i2 : Nat) (hi2 : lk M i2 = none) : MemOk X w0 ((i2, .dat (.slice p j c) (.l mm (rows.take j))) :: M) w := m.dat i2 hi2 ((m.rd hm).takeL j hj)
end
section
variable {P : Program} {n : Nat} {T : List (Nat × Value)} {a : Act} {w w0 : World} {X : Cx} {M : Mm} {tt : TypeId} {pos : String} {af : Array Edge} {gd : Option (Nat × Bool)} {Q : Exit → Act → World → Prop} {K : Act → World → Prop} {d : Option Tmp}
theorem Blk.sub {g : Nat} {e : TypeId} {cs : List Value} (h : Blk w g e cs) (o k : Nat) : w.rangeAt g o ((cs.drop o).take k) := fun j v hj => by
 have hj' : j < k := by have := (List.getElem?_eq_some_iff.1 hj).1; rw [List.length_take] at this; omega
 rw [List.getElem?_take_of_lt hj', List.getElem?_drop] at hj
 rw [h.cell]; exact hj
theorem y_loadX1 (ha : Has n T a) {t : TypeId} {td : TypeDesc} {x : Operand} {g o : Nat} {e : TypeId} {cs : List Value} {v : Value} (hB : Blk w g e cs) (hx : evT T x = some (.pointer (some ⟨g, o, none⟩))) (hc : nthL cs o = some v) (hu : P.underlying t = some td) (hd : td.isRow = false) : Yl P a w ⟨d, .load t x, tt, pos, af, gd⟩ v := by
 show (execOp _ _).run P w = _
 have hc' : w.cell? ⟨g, o, none⟩ = some v := by rw [hB.cell, nthL_eq]; exact hc
 simp [execOp, ha.ev hx, Instr.loadAt, Instr.sureAddr, run_load1 hu hd hc']
theorem y_loadXR (ha : Has n T a) {t : TypeId} {td : TypeDesc} {x : Operand} {g o k : Nat} {e : TypeId} {cs vs : List Value} (hB : Blk w g e cs) (hx : evT T x = some (.pointer (some ⟨g, o, none⟩))) (hu : P.underlying t = some td) (hd : td.isRow = true) (hs : (P.info? t).map (·.size) = some k) (hk : vs.length = k) (hv : (cs.drop o).take k = vs) : Yl P a w ⟨d, .load t x, tt, pos, af, gd⟩ (.agg vs.toArray) :=
 y_loadAt ha (vs := vs) (by rw [← hv]; exact hB.sub o k) hx hu hd (by rw [hk]; exact hs)
theorem y_loadAt1 (ha : Has n T a) {t : TypeId} {td : TypeDesc} {x : Operand} {b o q q' : Nat} {vs : List Value} {v : Value} (hr : w.rangeAt b o vs) (hx : evT T x = some (.pointer (some ⟨b, q', none⟩))) (hq : q' = o + q) (hv : nthL vs q = some v) (hu : P.underlying t = some td) (hd : td.isRow = false) : Yl P a w ⟨d, .load t x, tt, pos, af, gd⟩ v := by
 show (execOp _ _).run P w = _
 subst hq
 have hc' : w.cell? ⟨b, o + q, none⟩ = some v := hr q v (by rw [nthL_eq]; exact hv)
 simp [execOp, ha.ev hx, Instr.loadAt, Instr.sureAddr, run_load1 hu hd hc']
theorem y_min (ha : Has n T a) {t t2 : TypeId} {x y : Operand} {k k2 : IntKind} {p q r : Int} (hx : evT T x = some (.int k p)) (hy : evT T y = some (.int k2 q)) (hr : min p q = r) : Yl P a w ⟨d, .call { callee := .builtin .min, args := #[x, y], argTypes := #[t, t2] }, tt, pos, af, gd⟩ (.int k r) := by
 show (execOp _ _).run P w = _
 have e : (if q < p then q else p) = r := by rw [← hr]; split <;> omega
 simp [execOp, resolve, invoke, builtin, ha.ev hx, ha.ev hy, Builtin.min_, Builtin.min2, e]
theorem y_max (ha : Has n T a) {t t2 : TypeId} {x y : Operand} {k k2 : IntKind} {p q r : Int} (hx : evT T x = some (.int k p)) (hy : evT T y = some (.int k2 q)) (hr : max p q = r) : Yl P a w ⟨d, .call { callee := .builtin .max, args := #[x, y], argTypes := #[t, t2] }, tt, pos, af, gd⟩ (.int k r) := by
 show (execOp _ _).run P w = _
 have e : (if p < q then q else p) = r := by rw [← hr]; split <;> omega
 simp [execOp, resolve, invoke, builtin, ha.ev hx, ha.ev hy, Builtin.max_, Builtin.max2, e]
theorem y_cap (h : Has n T a) {t e : TypeId} {x : Operand} {p : Option Addr} {l c : Nat} (hx : evT T x = some (.slice p l c)) (hu : P.underlying t = some (.slice e)) : Yl P a w ⟨d, .call { callee := .builtin .cap, args := #[x], argTypes := #[t] }, tt, pos, af, gd⟩ (.int .i64 c) := by
 show (execOp _ _).run P w = _; simp [execOp, resolve, invoke, builtin, h.ev hx, Builtin.cap_, run_underlying hu, goInt]
theorem e_callV (ha : Has n T a) {d : Tmp} {f : FuncId} {x : Operand} {args : Array Operand} {ats : Array TypeId} {fn : Func} {vs : List Value} (hxf : evT T x = some (.func (.func f) #[] #[])) (hf : P.funcs[f]? = some fn) (hn : (fn.name == "runtime.NumGoroutine") = false) (hb : fn.body.isNone = false) (hargs : evA T args.toList = some vs) (ht : Nat.blt d n = true) {R : Ending → World → Prop} (hc : Calls P f vs.toArray w R) (h : ∀ e w', R e w' → ∃ v, e = .returned v ∧ ∀ a', Has n ((d, v) :: T) a' → K a' w') : Oper.wp P ⟨some d, .call { callee := .value x, args := args, argTypes := ats }, tt, pos, af, gd⟩ a w K Q := by
 have hv : args.map a.eval = vs.toArray := by
   apply Array.ext'; rw [Array.toList_map, ha.evA hargs]
 have hr : (execOp a.eval ⟨some d, .call { callee := .value x, args := args, argTypes := ats }, tt, pos, af, gd⟩).run P w = .ok (.enter f vs.toArray) w := by
   have hn' : ¬ fn.name = "runtime.NumGoroutine" := by simpa using hn
   have hb' : ¬ fn.body = none := by cases h9 : fn.body with | none => rw [h9] at hb; cases hb | some c => simp
   simp [execOp, resolve, ha.ev hxf, Deferred.ofValue, invoke, callFunc, hf, hn', hb', hv]
 show Oper.upon P _ a K Q _
 rw [hr]
 show Calls P f vs.toArray w _
 refine hc.mono (fun e w' hR => ?_)
 obtain ⟨v, rfl, hh⟩ := h e w' hR
 exact hh _ (ha.put ht v)
end
end
section
theorem fold_set (off : Nat) : ∀ (l : List Value) (k : Nat) (A : List Value), off + k + l.length ≤ A.length → ((l.zipIdx k).foldl (fun (cs : Array Value) (p : Value × Nat) => cs.setIfInBounds (off + p.2) p.1) A.toArray).toList = A.take (off + k) ++ l ++ A.drop (off + k + l.length)
 | [], k, A, _ => by simp
 | c :: l, k, A, h => by
   simp only [List.length_cons] at h
   rw [List.zipIdx_cons, List.foldl_cons]
   have e : A.toArray.setIfInBounds (off + k) c = (A.set (off + k) c).toArray := by simp
   rw [e, fold_set off l (k + 1) (A.set (off + k) c) (by rw [List.length_set]; omega)]
   have hk : off + k < A.length := by omega
   have e1 : (A.set (off + k) c).take (off + (k + 1)) = A.take (off + k) ++ [c] := by
     rw [show off + (k + 1) = off + k + 1 from by omega, List.take_succ_eq_append_getElem (by rw [List.length_set]; exact hk), List.getElem_set_self, List.take_set_of_le (Nat.le_refl _)]
   have e2 : (A.set (off + k) c).drop (off + (k + 1) + l.length) = A.drop (off + k + (l.length + 1)) := by
     rw [List.drop_set_of_lt (by omega)]; congr 1; omega
   rw [e1, e2, List.length_cons]
   simp
def putL : List Value → List (Nat × Nat) → List (Nat × Value) → Option (List Value)
 | z, _, [] => some z
 | z, ps, (i, v) :: r => match nthL ps i with
   | some (off, sz) => bif Nat.beq v.cells.toList.length sz && Nat.ble (off + sz) z.length then putL (z.take off ++ v.cells.toList ++ z.drop (off + sz)) ps r else none
   | none => none
theorem putL_fill (ps : List (Nat × Nat)) : ∀ (pl : List (Nat × Value)) (z cs : List Value), putL z ps pl = some cs → Instr.fill (fun i => ps[i]?) z.toArray pl = some cs.toArray
 | [], z, cs, h => by unfold putL at h; cases h; rfl
 | (i, v) :: r, z, cs, h => by
   unfold putL at h
   cases hp : nthL ps i with
   | none => rw [hp] at h; cases h
   | some q =>
     obtain ⟨off, sz⟩ := q
     rw [hp] at h
     dsimp only at h
     cases hb : (Nat.beq v.cells.toList.length sz && Nat.ble (off + sz) z.length) with
     | false => rw [hb] at h; cases h
     | true =>
       rw [hb] at h
       dsimp only [cond] at h
       rw [Bool.and_eq_true] at hb
       have h1 := Nat.eq_of_beq_eq_true hb.1
       have h2 := Nat.le_of_ble_eq_true hb.2
       have hsz : v.cells.size = sz := by simpa using h1
       rw [Instr.fill]
       rw [nthL_eq, hp]
       dsimp only
       have hc : ¬ ((v.cells.size ≠ sz || off + v.cells.size > z.toArray.size) = true) := by
         simp [hsz]; omega
       have e : (v.cells.zipIdx.foldl (fun cs (x : Value × Nat) => cs.setIfInBounds (off + x.2) x.1) z.toArray) = (z.take off ++ v.cells.toList ++ z.drop (off + sz)).toArray := by
         apply Array.ext'
         have := fold_set off v.cells.toList 0 z (by rw [Nat.add_zero, h1]; exact h2)
         rw [Nat.add_zero, h1] at this
         rw [← this, ← Array.foldl_toList, Array.toList_zipIdx]
       rw [if_neg (by simpa using hc)]
       have := putL_fill ps r _ _ h
       rw [← this, ← e]
def placesS (P : Program) (t : TypeId) : Option (List (Nat × Nat)) :=
 match P.underlying t with
 | some (.struct fs) => fs.toList.mapM (fun f => (P.info? f.type).map fun i => (f.offset, i.size))
 | _ => none
section
variable {P : Program} {n : Nat} {T : List (Nat × Value)} {a : Act} {w w0 : World} {X : Cx} {M : Mm} {tt : TypeId} {pos : String} {af : Array Edge} {gd : Option (Nat × Bool)} {Q : Exit → Act → World → Prop} {d : Option Tmp}
theorem built_put {t : TypeId} {z cs : List Value} {ps : List (Nat × Nat)} (hz : ((P.info? t).bind (·.zero)).map (·.cells.toList) = some z) (hps : placesS P t = some ps) (pl : List (Nat × Value)) (hp : putL z ps pl = some cs) : P.built t pl = some cs.toArray := by
 unfold placesS at hps
 unfold Program.built
 cases hi : P.info? t with
 | none => simp [hi] at hz
 | some it =>
   cases hu : P.underlying t with
   | none => simp [hu] at hps
   | some td =>
     cases td <;> try (simp [hu] at hps; done)
     case struct fs =>
       cases hzz : it.zero with
       | none => simp [hi, hzz] at hz
       | some zz =>
         have hzl : zz.cells.toList = z := by simpa [hi, hzz] using hz
         have hzc : zz.cells = z.toArray := by rw [← hzl]
         simp only [hu] at hps
         simp only [hzz, hps, hzc]
         have := putL_fill ps pl z cs hp
         simpa using this
theorem y_buildG (h : Has n T a) {t : TypeId} {parts : Array (Nat × Operand)} {z cs : List Value} {pl : List (Nat × Value)} {ps : List (Nat × Nat)} (hp : K.evP T parts.toList = some pl) (hz : ((P.info? t).bind (·.zero)).map (·.cells.toList) = some z) (hps : placesS P t = some ps) (hc : putL z ps pl = some cs) : Yl P a w ⟨d, .build t parts, tt, pos, af, gd⟩ (.agg cs.toArray) := by
 have hb := built_put hz hps pl hc
 have hpl := h.evP hp
 show (execOp _ _).run P w = _
 have hr := run_build (P := P) w t (parts.map fun (i, x) => (i, a.eval x)) cs.toArray (by rw [Array.toList_map]; rw [← hpl] at hb; exact hb)
 simp only [execOp, Sem.run_bind, hr, Result.andThen_ok, Sem.run_pure]
end
section
variable {P : Program} {n : Nat} {T : List (Nat × Value)} {a : Act} {w : World} {tt : TypeId} {pos : String} {af : Array Edge} {ops : Array Oper} {rest : List Oper} {Q : Exit → Act → World → Prop}
theorem Has.unyielded (ha : Has n T a) {j t : Nat} (hj : (ops[j]?).bind (·.dst) = some t) (hb : lk T t = some undef) (ht : Nat.blt t n = true) : Go.yielded ops a.tmps j = none := by
 have hlt : t < a.tmps.size := by rw [ha.sz]; simpa [Nat.blt_eq] using ht
 have := ha.h t _ hb
 unfold Go.yielded
 rw [hj]
 show (match a.tmps[t]? with | some (.bool b) => some b | _ => none) = none
 rw [Array.getElem?_eq_getElem hlt]
 have e : a.tmps[t] = undef := by simpa [Array.getD, hlt] using this
 rw [e]; rfl
variable {md : Region.Mode} {S : World → Prop} {e : Nat} {listed : Array Bool} {fuel : Nat}
end
section
variable {P : Program} {n : Nat} {T : List (Nat × Value)} {a : Act} {w w0 : World} {X : Cx} {M : Mm} {tt : TypeId} {pos : String} {af : Array Edge} {gd : Option (Nat × Bool)} {d : Option Tmp}
theorem y_loadSV (ha : Has n T a) (m : MemOk X w0 M w) {t : TypeId} {td : TypeDesc} {x : Operand} {i g o l c mm : Nat} {e : TypeId} {rows : List (List D)} (hm : lk M i = some (.seg (.slice (some ⟨g, o, none⟩) l c) e mm rows)) (J : Nat) {r : List D} (hr : rows[J]? = some r) {q q' : Nat} {v : Value} (hq : nthL r q = some (.v v)) (hx : evT T x = some (.pointer (some ⟨g, q', none⟩))) (hq' : q' = o + J * mm + q) (hu : P.underlying t = some td) (hd : td.isRow = false) : Yl P a w ⟨d, .load t x, tt, pos, af, gd⟩ v := by
 obtain ⟨⟨cs, h1, h2, h3, h4, h5⟩, -⟩ := m.ok i _ hm
 subst hq'
 have hJ : J < rows.length := (List.getElem?_eq_some_iff.1 hr).1
 have hJc : cs[J]? = some cs[J] := List.getElem?_eq_getElem (by omega)
 have hc := (h3 cs[J] (List.getElem_mem (by omega))).1
 rw [← nthL_eq] at hq
 have hqr := (List.getElem?_eq_some_iff.1 hq).1
 have hrm := h4 r (List.mem_of_getElem? hr)
 have hxq : cs[J][q]? = some (cs[J][q]'(by omega)) := List.getElem?_eq_getElem (by omega)
 have hv := (h5 J q cs[J] r _ _ hJc hr hxq hq).v_out
 have hl : l = rows.length := by
   rcases h1.2 with ⟨e1, _⟩ | ⟨_, _, _, _, e1, _⟩
   · cases e1
   · injection e1
 subst hl
 have hf := flatten_at cs J q cs[J] (fun c hc => (h3 c hc).1) hJc (by omega)
 have hcell := h1.cellAt rfl (J * mm + q) (by calc J * mm + q < J * mm + mm := by omega
     _ = (J + 1) * mm := by rw [Nat.add_mul]; omega
     _ ≤ rows.length * mm := Nat.mul_le_mul_right _ (by omega))
 have hc' : w.cell? ⟨g, o + J * mm + q, none⟩ = some v := by rw [Nat.add_assoc, hcell, hf, hxq, hv]
 show (execOp _ _).run P w = _
 simp [execOp, ha.ev hx, Instr.loadAt, Instr.sureAddr, run_load1 hu hd hc']
end
section
variable {P : Program} {n : Nat} {T : List (Nat × Value)} {a : Act} {w : World} {tt : TypeId} {pos : String} {af : Array Edge} {gd : Option (Nat × Bool)} {Q : Exit → Act → World → Prop} {K : Act → World → Prop}
end
end
section
theorem RowOk.cast {N : Nat} {S S' : Nat → Prop} {w : World} {v : Value} {e : TypeId} {m : Nat} {rows : List (List D)} (h : RowOk N S w v e m rows) (hs : ∀ b, S b → S' b) : RowOk N S' w v e m rows := by
 obtain ⟨cs, h1, h2, h3, h4, h5⟩ := h
 exact ⟨cs, h1, h2, h3, h4, fun j q c r x d a1 a2 a3 a4 => (h5 j q c r x d a1 a2 a3 a4).cast hs⟩
section
variable {P : Program} {n : Nat} {T : List (Nat × Value)} {a : Act} {w w0 : World} {X : Cx} {M : Mm} {tt : TypeId} {pos : String} {af : Array Edge} {gd : Option (Nat × Bool)} {Q : Exit → Act → World → Prop} {K : Act → World → Prop}
end
end
section
section
variable {P : Program} {n : Nat} {T : List (Nat × Value)} {a : Act} {w : World} {d : Option Tmp} {tt : TypeId} {pos : String} {af : Array Edge} {gd : Option (Nat × Bool)}
theorem y_makeFunc (h : Has n T a) {f : FuncId} {caps : Array Operand} {vs : List Value} (hargs : evA T caps.toList = some vs) : Yl P a w ⟨d, .makeFunc (.func f) #[] caps, tt, pos, af, gd⟩ (.func (.func f) #[] vs.toArray) := by
 have hv : caps.map a.eval = vs.toArray := by
   apply Array.ext'; rw [Array.toList_map, h.evA hargs]
 show (execOp _ _).run P w = _
 simp [execOp, Instr.makeFunc, hv]
end
section
variable {P : Program} {n : Nat} {T : List (Nat × Value)} {a : Act} {w : World} {Q : Exit → Act → World → Prop} {K : Act → World → Prop} {tt : TypeId} {pos : String} {af : Array Edge} {gd : Option (Nat × Bool)}
theorem e_callC (ha : Has n T a) {d : Tmp} {f : FuncId} {x : Operand} {args : Array Operand} {ats : Array TypeId} {fn : Func} {vs cs : List Value} (hxf : evT T x = some (.func (.func f) #[] cs.toArray)) (hf : P.funcs[f]? = some fn) (hn : (fn.name == "runtime.NumGoroutine") = false) (hb : fn.body.isNone = false) (hargs : evA T args.toList = some vs) (ht : Nat.blt d n = true) {R : Ending → World → Prop} (hc : Calls P f (vs ++ cs).toArray w R) (h : ∀ e w', R e w' → ∃ v, e = .returned v ∧ ∀ a', Has n ((d, v) :: T) a' → K a' w') : Oper.wp P ⟨some d, .call { callee := .value x, args := args, argTypes := ats }, tt, pos, af, gd⟩ a w K Q := by
 have hv : args.map a.eval = vs.toArray := by
   apply Array.ext'; rw [Array.toList_map, ha.evA hargs]
 have hr : (execOp a.eval ⟨some d, .call { callee := .value x, args := args, argTypes := ats }, tt, pos, af, gd⟩).run P w = .ok (.enter f (vs ++ cs).toArray) w := by
   have hn' : ¬ fn.name = "runtime.NumGoroutine" := by simpa using hn
   have hb' : ¬ fn.body = none := by cases h9 : fn.body with | none => rw [h9] at hb; cases hb | some c => simp
   simp [execOp, resolve, ha.ev hxf, Deferred.ofValue, invoke, callFunc, hf, hn', hb', hv]
 show Oper.upon P _ a K Q _
 rw [hr]
 show Calls P f (vs ++ cs).toArray w _
 refine hc.mono (fun e w' hR => ?_)
 obtain ⟨v, rfl, hh⟩ := h e w' hR
 exact hh _ (ha.put ht v)
end
section
variable {P : Program} {n : Nat} {T : List (Nat × Value)} {a : Act} {w w0 : World} {X : Cx} {M : Mm}
end
end
section
section
variable {P : Program} {n : Nat} {T : List (Nat × Value)} {a : Act} {w w0 : World} {X : Cx} {M : Mm} {tt : TypeId} {pos : String} {af : Array Edge} {gd : Option (Nat × Bool)} {Q : Exit → Act → World → Prop} {K : Act → World → Prop}
end
end
section
variable {P : Program} {n : Nat} {T : List (Nat × Value)} {a : Act} {w : World} {d : Option Tmp} {tt : TypeId} {pos : String} {af : Array Edge} {gd : Option (Nat × Bool)}
theorem run_idxA {t e : TypeId} {b o L s : Nat} {k : IntKind} {q : Int} (hu : P.underlying t = some (.array L e)) (hs : (P.info? e).map (·.size) = some s) (j : Nat) (hq : q = j) (hj : j < L) : (Instr.indexAt t (.pointer (some ⟨b, o, none⟩)) (.int k q)).run P w = .ok (.pointer (some ⟨b, o + j * s, none⟩)) w := by
 subst hq
 cases hi : P.info? e with
 | none => simp [hi] at hs
 | some i =>
   have hj' : i.size = s := by simpa [hi] using hs
   have h2 : ((j : Int) < (L : Int)) := by omega
   have h3 : ¬ L ≤ j := by omega
   simp [Instr.indexAt, asIntOf, run_underlying hu, h2, h3, sizeOf, typeInfo, hi, hj', Instr.sureAddr, Addr.add_mid]
theorem y_idxA (ha : Has n T a) {t e : TypeId} {x y : Operand} {b o L s : Nat} {k : IntKind} {q : Int} (hx : evT T x = some (.pointer (some ⟨b, o, none⟩))) (hy : evT T y = some (.int k q)) (hu : P.underlying t = some (.array L e)) (hs : (P.info? e).map (·.size) = some s) (j : Nat) (hq : q = j) (hj : j < L) {off : Nat} (hoff : o + j * s = off) : Yl P a w ⟨d, .indexAddr t x y, tt, pos, af, gd⟩ (.pointer (some ⟨b, off, none⟩)) := by
 subst hoff
 show (execOp _ _).run P w = _
 simp [execOp, ha.ev hx, ha.ev hy, run_idxA hu hs j hq hj]
end
section
set_option linter.unusedVariables false
end
end Go.Proofs.YtndnnlbdnjndiaaGreat.K
section
namespace Go.Proofs.YtndnnlbdnjndiaaGreat.K
open Go.ChangeShapes Go.WideShapes Go.ChangeAt Go.RowKit Go.Sort
set_option linter.unusedVariables false
set_option linter.unusedSimpArgs false
variable {P : Program} {X : Cx} {M : Mm} {w w0 : World}
def nD (z : Int) : List D := [.v (.int .i64 z)]
end Go.Proofs.YtndnnlbdnjndiaaGreat.K
end
namespace Go.Proofs.YtndnnlbdnjndiaaGreat.K
open Go.ChangeShapes Go.WideShapes Go.ChangeAt Go.RowKit
set_option linter.unusedVariables false
set_option linter.unusedSimpArgs false
section
section
variable {P : Program} {n : Nat} {T : List (Nat × Value)} {a : Act} {w w0 : World} {X : Cx} {M : Mm} {tt : TypeId} {pos : String} {af : Array Edge} {gd : Option (Nat × Bool)} {Q : Exit → Act → World → Prop} {K : Act → World → Prop}
end
end
section
section
variable {P : Program} {ops : Array Oper} {Q : Exit → Act → World → Prop} {md : Region.Mode} {listed : Array Bool} {fuel e : Nat} {S : World → Prop} {a : Act} {w : World}
end
section
variable {P : Program} {n : Nat} {T : List (Nat × Value)} {a : Act} {w w0 : World} {X : Cx} {M : Mm} {tt : TypeId} {pos : String} {af : Array Edge} {gd : Option (Nat × Bool)} {Q : Exit → Act → World → Prop} {K : Act → World → Prop}
end
section
variable {w w0 : World} {X : Cx} {M : Mm}
end
end
section
theorem Q1x {p : Prop} [Decidable p] : (decide p = true) = p := decide_eq_true_eq
theorem Q2x {p : Prop} [Decidable p] : decide p = false ↔ ¬ p := decide_eq_false_iff_not
theorem Q3x (b : Bool) : (¬ (b = true)) = (b = false) := Bool.not_eq_true b
theorem Q4x (b : Bool) : (¬ (b = false)) = (b = true) := Bool.not_eq_false b
theorem Q5x {a b : Bool} : (!a) = b ↔ a = !b := Bool.not_eq_eq_eq_not
theorem Q6x : (!true) = false := rfl
theorem Q7x : (!false) = true := rfl
theorem Q8x (b : Bool) : (!!b) = b := Bool.not_not b
theorem Q9x {a b : Int} : ¬ a < b ↔ b ≤ a := Int.not_lt
theorem Q0x {a b : Int} : ¬ a ≤ b ↔ b < a := Int.not_le
theorem Qax {α : Sort _} (a b : α) : (a ≠ b) = ¬ (a = b) := ne_eq a b
theorem Qbx {p : Prop} [Decidable p] : ¬ ¬ p ↔ p := Decidable.not_not
theorem il {α : Type} {a : α} {p : Prop} : a = a ∨ p := .inl rfl
variable {P : Program} {n : Nat} {T : List (Nat × Value)} {a : Act} {w w0 : World} {X : Cx} {M : Mm} {tt : TypeId} {pos : String} {af : Array Edge} {ops : Array Oper} {Q : Exit → Act → World → Prop} {md : Region.Mode} {e fuel : Nat} {S : World → Prop} {listed : Array Bool}
end
section
inductive Ch (P : Program) (n : Nat) (ops : Array Oper) (w : World) : List Oper → List (Nat × Value) → List Oper → List (Nat × Value) → Prop
 | nil {L : List Oper} {T : List (Nat × Value)} : Ch P n ops w L T L T
 | c {d : Tmp} {op : Op} {v : Value} {L L' : List Oper} {T T' : List (Nat × Value)} {tt : TypeId} {pos : String} {af : Array Edge} (ht : Nat.blt d n = true) (hy : ∀ a, Has n T a → Yl P a w ⟨some d, op, tt, pos, af, none⟩ v) (t : Ch P n ops w L ((d, v) :: T) L' T') : Ch P n ops w (⟨some d, op, tt, pos, af, none⟩ :: L) T L' T'
 | g {d : Tmp} {op : Op} {v : Value} {L L' : List Oper} {T T' : List (Nat × Value)} {tt : TypeId} {pos : String} {af : Array Edge} {j t : Nat} {b : Bool} (hj : (ops[j]?).bind (·.dst) = some t) (hb : lk T t = some (.bool b)) (ht2 : Nat.blt t n = true) (ht : Nat.blt d n = true) (hy : ∀ a, Has n T a → Yl P a w ⟨some d, op, tt, pos, af, some (j, b)⟩ v) (tl : Ch P n ops w L ((d, v) :: T) L' T') : Ch P n ops w (⟨some d, op, tt, pos, af, some (j, b)⟩ :: L) T L' T'
 | s {d : Tmp} {op : Op} {L L' : List Oper} {T T' : List (Nat × Value)} {tt : TypeId} {pos : String} {af : Array Edge} {j t : Nat} {b : Bool} (hj : (ops[j]?).bind (·.dst) = some t) (hb : lk T t = some (.bool !b)) (ht2 : Nat.blt t n = true) (ht : Nat.blt d n = true) (tl : Ch P n ops w L ((d, undef) :: T) L' T') : Ch P n ops w (⟨some d, op, tt, pos, af, some (j, b)⟩ :: L) T L' T'
theorem goCh {P : Program} {n : Nat} {ops : Array Oper} {w : World} {Q : Exit → Act → World → Prop} {L L' : List Oper} {T T' : List (Nat × Value)} {a : Act} (ha : Has n T a) (hc : Ch P n ops w L T L' T') (h : ∀ a', Has n T' a' → wpList P ops Q L' a' w) : wpList P ops Q L a w := by
 induction hc generalizing a with
 | nil => exact h a ha
 | c ht hy t ih => exact st_y ha ht (hy a ha) (fun a' ha' => ih ha' h)
 | g hj hb ht2 ht hy t ih => exact st_g ha hj hb ht2 ht (hy a ha) (fun a' ha' => ih ha' h)
 | s hj hb ht2 ht t ih => exact st_skip ha hj hb ht2 ht (fun a' ha' => ih ha' h)
theorem regS {P : Program} {n id : Nat} {l : List Oper} {y : Code} {w : World} {Q : Exit → Act → World → Prop} {T T' : List (Nat × Value)} {a : Act} (ha : Has n T a) (hc : Ch P n l.toArray w l T [] T') (h : ∀ a', Has n T' a' → y.wp P Q a' w) : ((Code.region id l.toArray false).seq y).wp P Q a w :=
 wp_seq_k (fun K hK => wp_region_lit (goCh ha hc (fun a' ha' => wpList_nil (hK _ _ (h a' ha')))))
/-! short -/
section
variable {P : Program} {n : Nat} {ops : Array Oper} {L L' : List Oper} {T T' : List (Nat × Value)} {w w0 : World} {X : Cx} {M : Mm} {dd : Tmp} {tt : TypeId} {pos : String} {af : Array Edge} {x y z : Operand} {k : IntKind} {p q r : Int} {t t2 : TypeId}
theorem Ch.move {x : Operand} {v : Value} (hx : evT T x = some v) (tl : Ch P n ops w L ((dd, v) :: T) L' T') (ht : Nat.blt dd n = true := by rfl) : Ch P n ops w (⟨some dd, .move x, tt, pos, af, none⟩ :: L) T L' T' := .c ht (fun _ h => y_move h hx) tl
theorem Ch.moveZ {x : Operand} {v : Value} (hx : evT T x = some v) {j tg : Nat} {bb : Bool} (tl : Ch P n ops w L ((dd, v) :: T) L' T') (hj : (ops[j]?).bind (·.dst) = some tg := by rfl) (hb : lk T tg = some (.bool bb) := by rfl) (ht2 : Nat.blt tg n = true := by rfl) (ht : Nat.blt dd n = true := by rfl) : Ch P n ops w (⟨some dd, .move x, tt, pos, af, some (j, bb)⟩ :: L) T L' T' := .g hj hb ht2 ht (fun _ h => y_move h hx) tl
theorem Ch.assign {x : Operand} {v : Value} (hx : evT T x = some v) (tl : Ch P n ops w L ((dd, v) :: T) L' T') (ht : Nat.blt dd n = true := by rfl) : Ch P n ops w (⟨some dd, .assign x, tt, pos, af, none⟩ :: L) T L' T' := .c ht (fun _ h => y_assign h hx) tl
theorem Ch.pickT {c x y : Operand} {v : Value} (hc : evT T c = some (.bool true)) (hx : evT T x = some v) (tl : Ch P n ops w L ((dd, v) :: T) L' T') (ht : Nat.blt dd n = true := by rfl) : Ch P n ops w (⟨some dd, .pick c x y, tt, pos, af, none⟩ :: L) T L' T' := .c ht (fun _ h => y_pickT h hc hx) tl
theorem Ch.pickF {c x y : Operand} {v : Value} (hc : evT T c = some (.bool false)) (hx : evT T y = some v) (tl : Ch P n ops w L ((dd, v) :: T) L' T') (ht : Nat.blt dd n = true := by rfl) : Ch P n ops w (⟨some dd, .pick c x y, tt, pos, af, none⟩ :: L) T L' T' := .c ht (fun _ h => y_pickF h hc hx) tl
theorem Ch.pickFZ {c x y : Operand} {v : Value} (hc : evT T c = some (.bool false)) (hx : evT T y = some v) {j tg : Nat} {bb : Bool} (tl : Ch P n ops w L ((dd, v) :: T) L' T') (hj : (ops[j]?).bind (·.dst) = some tg := by rfl) (hb : lk T tg = some (.bool bb) := by rfl) (ht2 : Nat.blt tg n = true := by rfl) (ht : Nat.blt dd n = true := by rfl) : Ch P n ops w (⟨some dd, .pick c x y, tt, pos, af, some (j, bb)⟩ :: L) T L' T' := .g hj hb ht2 ht (fun _ h => y_pickF h hc hx) tl
theorem Ch.not {t : TypeId} {x : Operand} {b : Bool} (hx : evT T x = some (.bool b)) (tl : Ch P n ops w L ((dd, (.bool !b)) :: T) L' T') (ht : Nat.blt dd n = true := by rfl) : Ch P n ops w (⟨some dd, .unOp .not t x, tt, pos, af, none⟩ :: L) T L' T' := .c ht (fun _ h => y_not h hx) tl
theorem Ch.notZ {t : TypeId} {x : Operand} {b : Bool} (hx : evT T x = some (.bool b)) {j tg : Nat} {bb : Bool} (tl : Ch P n ops w L ((dd, (.bool !b)) :: T) L' T') (hj : (ops[j]?).bind (·.dst) = some tg := by rfl) (hb : lk T tg = some (.bool bb) := by rfl) (ht2 : Nat.blt tg n = true := by rfl) (ht : Nat.blt dd n = true := by rfl) : Ch P n ops w (⟨some dd, .unOp .not t x, tt, pos, af, some (j, bb)⟩ :: L) T L' T' := .g hj hb ht2 ht (fun _ h => y_not h hx) tl
theorem Ch.len {t e : TypeId} {x : Operand} {p : Option Addr} {l c : Nat} (hx : evT T x = some (.slice p l c)) (hu : P.underlying t = some (.slice e)) (tl : Ch P n ops w L ((dd, (.int .i64 l)) :: T) L' T') (ht : Nat.blt dd n = true := by rfl) : Ch P n ops w (⟨some dd, .call { callee := .builtin .len, args := #[x], argTypes := #[t] }, tt, pos, af, none⟩ :: L) T L' T' := .c ht (fun _ h => y_len h hx hu) tl
theorem Ch.lenZ {t e : TypeId} {x : Operand} {p : Option Addr} {l c : Nat} (hx : evT T x = some (.slice p l c)) (hu : P.underlying t = some (.slice e)) {j tg : Nat} {bb : Bool} (tl : Ch P n ops w L ((dd, (.int .i64 l)) :: T) L' T') (hj : (ops[j]?).bind (·.dst) = some tg := by rfl) (hb : lk T tg = some (.bool bb) := by rfl) (ht2 : Nat.blt tg n = true := by rfl) (ht : Nat.blt dd n = true := by rfl) : Ch P n ops w (⟨some dd, .call { callee := .builtin .len, args := #[x], argTypes := #[t] }, tt, pos, af, some (j, bb)⟩ :: L) T L' T' := .g hj hb ht2 ht (fun _ h => y_len h hx hu) tl
theorem Ch.add (hx : evT T x = some (.int k p)) (hy : evT T y = some (.int k q)) (hr : k.wrap (p + q) = r) (tl : Ch P n ops w L ((dd, (.int k r)) :: T) L' T') (ht : Nat.blt dd n = true := by rfl) : Ch P n ops w (⟨some dd, .binOp .add t x y t2, tt, pos, af, none⟩ :: L) T L' T' := .c ht (fun _ h => y_add h hx hy hr) tl
theorem Ch.sub (hx : evT T x = some (.int k p)) (hy : evT T y = some (.int k q)) (hr : k.wrap (p - q) = r) (tl : Ch P n ops w L ((dd, (.int k r)) :: T) L' T') (ht : Nat.blt dd n = true := by rfl) : Ch P n ops w (⟨some dd, .binOp .sub t x y t2, tt, pos, af, none⟩ :: L) T L' T' := .c ht (fun _ h => y_sub h hx hy hr) tl
theorem Ch.mul (hx : evT T x = some (.int k p)) (hy : evT T y = some (.int k q)) (hr : k.wrap (p * q) = r) (tl : Ch P n ops w L ((dd, (.int k r)) :: T) L' T') (ht : Nat.blt dd n = true := by rfl) : Ch P n ops w (⟨some dd, .binOp .mul t x y t2, tt, pos, af, none⟩ :: L) T L' T' := .c ht (fun _ h => y_mul h hx hy hr) tl
theorem Ch.quo (hx : evT T x = some (.int k p)) (hy : evT T y = some (.int k q)) (h0 : q ≠ 0) (hr : k.wrap (p.tdiv q) = r) (tl : Ch P n ops w L ((dd, (.int k r)) :: T) L' T') (ht : Nat.blt dd n = true := by rfl) : Ch P n ops w (⟨some dd, .binOp .quo t x y t2, tt, pos, af, none⟩ :: L) T L' T' := .c ht (fun _ h => y_quo h hx hy h0 hr) tl
theorem Ch.rem (hx : evT T x = some (.int k p)) (hy : evT T y = some (.int k q)) (h0 : q ≠ 0) (hr : p.tmod q = r) (tl : Ch P n ops w L ((dd, (.int k r)) :: T) L' T') (ht : Nat.blt dd n = true := by rfl) : Ch P n ops w (⟨some dd, .binOp .rem t x y t2, tt, pos, af, none⟩ :: L) T L' T' := .c ht (fun _ h => y_rem h hx hy h0 hr) tl
theorem Ch.and (hx : evT T x = some (.int k p)) (hy : evT T y = some (.int k q)) (hr : k.wrap (BitVec.ofInt k.bits p &&& BitVec.ofInt k.bits q).toNat = r) (tl : Ch P n ops w L ((dd, (.int k r)) :: T) L' T') (ht : Nat.blt dd n = true := by rfl) : Ch P n ops w (⟨some dd, .binOp .and t x y t2, tt, pos, af, none⟩ :: L) T L' T' := .c ht (fun _ h => y_and h hx hy hr) tl
theorem Ch.or (hx : evT T x = some (.int k p)) (hy : evT T y = some (.int k q)) (hr : k.wrap (BitVec.ofInt k.bits p ||| BitVec.ofInt k.bits q).toNat = r) (tl : Ch P n ops w L ((dd, (.int k r)) :: T) L' T') (ht : Nat.blt dd n = true := by rfl) : Ch P n ops w (⟨some dd, .binOp .or t x y t2, tt, pos, af, none⟩ :: L) T L' T' := .c ht (fun _ h => y_or h hx hy hr) tl
theorem Ch.lss (hx : evT T x = some (.int k p)) (hy : evT T y = some (.int k q)) (tl : Ch P n ops w L ((dd, (.bool (decide (p < q)))) :: T) L' T') (ht : Nat.blt dd n = true := by rfl) : Ch P n ops w (⟨some dd, .binOp .lss t x y t2, tt, pos, af, none⟩ :: L) T L' T' := .c ht (fun _ h => y_lss h hx hy) tl
theorem Ch.leq (hx : evT T x = some (.int k p)) (hy : evT T y = some (.int k q)) (tl : Ch P n ops w L ((dd, (.bool (decide (p ≤ q)))) :: T) L' T') (ht : Nat.blt dd n = true := by rfl) : Ch P n ops w (⟨some dd, .binOp .leq t x y t2, tt, pos, af, none⟩ :: L) T L' T' := .c ht (fun _ h => y_leq h hx hy) tl
theorem Ch.gtr (hx : evT T x = some (.int k p)) (hy : evT T y = some (.int k q)) (tl : Ch P n ops w L ((dd, (.bool (decide (q < p)))) :: T) L' T') (ht : Nat.blt dd n = true := by rfl) : Ch P n ops w (⟨some dd, .binOp .gtr t x y t2, tt, pos, af, none⟩ :: L) T L' T' := .c ht (fun _ h => y_gtr h hx hy) tl
theorem Ch.gtrZ (hx : evT T x = some (.int k p)) (hy : evT T y = some (.int k q)) {j tg : Nat} {bb : Bool} (tl : Ch P n ops w L ((dd, (.bool (decide (q < p)))) :: T) L' T') (hj : (ops[j]?).bind (·.dst) = some tg := by rfl) (hb : lk T tg = some (.bool bb) := by rfl) (ht2 : Nat.blt tg n = true := by rfl) (ht : Nat.blt dd n = true := by rfl) : Ch P n ops w (⟨some dd, .binOp .gtr t x y t2, tt, pos, af, some (j, bb)⟩ :: L) T L' T' := .g hj hb ht2 ht (fun _ h => y_gtr h hx hy) tl
theorem Ch.geq (hx : evT T x = some (.int k p)) (hy : evT T y = some (.int k q)) (tl : Ch P n ops w L ((dd, (.bool (decide (q ≤ p)))) :: T) L' T') (ht : Nat.blt dd n = true := by rfl) : Ch P n ops w (⟨some dd, .binOp .geq t x y t2, tt, pos, af, none⟩ :: L) T L' T' := .c ht (fun _ h => y_geq h hx hy) tl
theorem Ch.eql (hx : evT T x = some (.int k p)) (hy : evT T y = some (.int k q)) (tl : Ch P n ops w L ((dd, (.bool (decide (p = q)))) :: T) L' T') (ht : Nat.blt dd n = true := by rfl) : Ch P n ops w (⟨some dd, .binOp .eql t x y t2, tt, pos, af, none⟩ :: L) T L' T' := .c ht (fun _ h => y_eql h hx hy) tl
theorem Ch.eqlZ (hx : evT T x = some (.int k p)) (hy : evT T y = some (.int k q)) {j tg : Nat} {bb : Bool} (tl : Ch P n ops w L ((dd, (.bool (decide (p = q)))) :: T) L' T') (hj : (ops[j]?).bind (·.dst) = some tg := by rfl) (hb : lk T tg = some (.bool bb) := by rfl) (ht2 : Nat.blt tg n = true := by rfl) (ht : Nat.blt dd n = true := by rfl) : Ch P n ops w (⟨some dd, .binOp .eql t x y t2, tt, pos, af, some (j, bb)⟩ :: L) T L' T' := .g hj hb ht2 ht (fun _ h => y_eql h hx hy) tl
theorem Ch.neq (hx : evT T x = some (.int k p)) (hy : evT T y = some (.int k q)) (tl : Ch P n ops w L ((dd, (.bool (decide (p ≠ q)))) :: T) L' T') (ht : Nat.blt dd n = true := by rfl) : Ch P n ops w (⟨some dd, .binOp .neq t x y t2, tt, pos, af, none⟩ :: L) T L' T' := .c ht (fun _ h => y_neq h hx hy) tl
theorem Ch.neqZ (hx : evT T x = some (.int k p)) (hy : evT T y = some (.int k q)) {j tg : Nat} {bb : Bool} (tl : Ch P n ops w L ((dd, (.bool (decide (p ≠ q)))) :: T) L' T') (hj : (ops[j]?).bind (·.dst) = some tg := by rfl) (hb : lk T tg = some (.bool bb) := by rfl) (ht2 : Nat.blt tg n = true := by rfl) (ht : Nat.blt dd n = true := by rfl) : Ch P n ops w (⟨some dd, .binOp .neq t x y t2, tt, pos, af, some (j, bb)⟩ :: L) T L' T' := .g hj hb ht2 ht (fun _ h => y_neq h hx hy) tl
theorem Ch.eqlP {e : TypeId} {b : Option Addr} (hx : evT T x = some (.pointer b)) (hy : evT T y = some (.pointer none)) (hu : P.underlying t = some (.pointer e)) (tl : Ch P n ops w L ((dd, (.bool b.isNone)) :: T) L' T') (ht : Nat.blt dd n = true := by rfl) : Ch P n ops w (⟨some dd, .binOp .eql t x y t2, tt, pos, af, none⟩ :: L) T L' T' := .c ht (fun _ h => y_eqlP h hx hy hu) tl
theorem Ch.conv {s e : TypeId} {k' : IntKind} {ds : TypeDesc} (hx : evT T x = some (.int k p)) (hs : P.underlying s = some ds) (hd : P.underlying e = some (.int k')) (hr : k'.wrap p = r) (tl : Ch P n ops w L ((dd, (.int k' r)) :: T) L' T') (ht : Nat.blt dd n = true := by rfl) : Ch P n ops w (⟨some dd, .convert s e x, tt, pos, af, none⟩ :: L) T L' T' := .c ht (fun _ h => y_conv h hx hs hd hr) tl
theorem Ch.extract {x : Operand} {vs : Array Value} {i : Nat} {v : Value} (hx : evT T x = some (.tuple vs)) (hv : nthL vs.toList i = some v) (tl : Ch P n ops w L ((dd, v) :: T) L' T') (ht : Nat.blt dd n = true := by rfl) : Ch P n ops w (⟨some dd, .extract x i, tt, pos, af, none⟩ :: L) T L' T' := .c ht (fun _ h => y_extract h hx hv) tl
theorem Ch.nilCheck {x : Operand} {p : Addr} (hx : evT T x = some (.pointer (some p))) (tl : Ch P n ops w L ((dd, (.pointer (some p))) :: T) L' T') (ht : Nat.blt dd n = true := by rfl) : Ch P n ops w (⟨some dd, .nilCheck x, tt, pos, af, none⟩ :: L) T L' T' := .c ht (fun _ h => y_nilCheck h hx) tl
theorem Ch.nilCheckZ {x : Operand} {p : Addr} (hx : evT T x = some (.pointer (some p))) {j tg : Nat} {bb : Bool} (tl : Ch P n ops w L ((dd, (.pointer (some p))) :: T) L' T') (hj : (ops[j]?).bind (·.dst) = some tg := by rfl) (hb : lk T tg = some (.bool bb) := by rfl) (ht2 : Nat.blt tg n = true := by rfl) (ht : Nat.blt dd n = true := by rfl) : Ch P n ops w (⟨some dd, .nilCheck x, tt, pos, af, some (j, bb)⟩ :: L) T L' T' := .g hj hb ht2 ht (fun _ h => y_nilCheck h hx) tl
theorem Ch.fieldAddr {t : TypeId} {x : Operand} {i g o : Nat} {fs : Array Field} {f : Field} {s off : Nat} (hx : evT T x = some (.pointer (some ⟨g, o, none⟩))) (hu : P.underlying t = some (.struct fs)) (hf : fs[i]? = some f) (hs : (P.info? f.type).map (·.size) = some (s + 1)) (ho : o + f.offset = off) (tl : Ch P n ops w L ((dd, (.pointer (some ⟨g, off, none⟩))) :: T) L' T') (ht : Nat.blt dd n = true := by rfl) : Ch P n ops w (⟨some dd, .fieldAddr t x i, tt, pos, af, none⟩ :: L) T L' T' := .c ht (fun _ h => y_fieldAddr h hx hu hf hs ho) tl
theorem Ch.fieldAddrZ {t : TypeId} {x : Operand} {i g o : Nat} {fs : Array Field} {f : Field} {s off : Nat} (hx : evT T x = some (.pointer (some ⟨g, o, none⟩))) (hu : P.underlying t = some (.struct fs)) (hf : fs[i]? = some f) (hs : (P.info? f.type).map (·.size) = some (s + 1)) (ho : o + f.offset = off) {j tg : Nat} {bb : Bool} (tl : Ch P n ops w L ((dd, (.pointer (some ⟨g, off, none⟩))) :: T) L' T') (hj : (ops[j]?).bind (·.dst) = some tg := by rfl) (hb : lk T tg = some (.bool bb) := by rfl) (ht2 : Nat.blt tg n = true := by rfl) (ht : Nat.blt dd n = true := by rfl) : Ch P n ops w (⟨some dd, .fieldAddr t x i, tt, pos, af, some (j, bb)⟩ :: L) T L' T' := .g hj hb ht2 ht (fun _ h => y_fieldAddr h hx hu hf hs ho) tl
theorem Ch.fieldAddrQ {t : TypeId} {x : Operand} {i g o : Nat} {fs : Array Field} {f : Field} {s : Nat} (q : Nat) (hx : evT T x = some (.pointer (some ⟨g, o, none⟩))) (hu : P.underlying t = some (.struct fs)) (hf : fs[i]? = some f) (hs : (P.info? f.type).map (·.size) = some (s + 1)) (hq : f.offset = q) (tl : Ch P n ops w L ((dd, (.pointer (some ⟨g, o + q, none⟩))) :: T) L' T') (ht : Nat.blt dd n = true := by rfl) : Ch P n ops w (⟨some dd, .fieldAddr t x i, tt, pos, af, none⟩ :: L) T L' T' := .c ht (fun _ h => y_fieldAddrQ h q hx hu hf hs hq) tl
theorem Ch.field1Z {t : TypeId} {x : Operand} {i : Nat} {cs : Array Value} {fs : Array Field} {f : Field} {td : TypeDesc} {v : Value} (hx : evT T x = some (.agg cs)) (hu : P.underlying t = some (.struct fs)) (hf : fs[i]? = some f) (hd : P.underlying f.type = some td) (hr : td.isRow = false) (hv : cs[f.offset]? = some v) {j tg : Nat} {bb : Bool} (tl : Ch P n ops w L ((dd, v) :: T) L' T') (hj : (ops[j]?).bind (·.dst) = some tg := by rfl) (hb : lk T tg = some (.bool bb) := by rfl) (ht2 : Nat.blt tg n = true := by rfl) (ht : Nat.blt dd n = true := by rfl) : Ch P n ops w (⟨some dd, .field t x i, tt, pos, af, some (j, bb)⟩ :: L) T L' T' := .g hj hb ht2 ht (fun _ h => y_field1 h hx hu hf hd hr hv) tl
theorem Ch.build {t : TypeId} {parts : Array (Nat × Operand)} {z cs : List Value} {pl : List (Nat × Value)} (hp : K.evP T parts.toList = some pl) (hz : ((P.info? t).bind (·.zero)).map (·.cells.toList) = some z) (hf : flatS P t z = true) (h1 : pl.all (fun p => decide (p.1 < z.length) && p.2.oneCell') = true) (hc : setL z pl = cs) (tl : Ch P n ops w L ((dd, (.agg cs.toArray)) :: T) L' T') (ht : Nat.blt dd n = true := by rfl) : Ch P n ops w (⟨some dd, .build t parts, tt, pos, af, none⟩ :: L) T L' T' := .c ht (fun _ h => y_build h hp hz hf h1 hc) tl
theorem Ch.loadB1 (m : MemOk X w0 M w) {t : TypeId} {td : TypeDesc} {x : Operand} {i g o : Nat} {e : TypeId} {cs : List Value} {v : Value} (hm : lk M i = some (.box g e cs)) (hx : evT T x = some (.pointer (some ⟨g, o, none⟩))) (hv : cs[o]? = some v) (hu : P.underlying t = some td) (hr : td.isRow = false) (tl : Ch P n ops w L ((dd, v) :: T) L' T') (ht : Nat.blt dd n = true := by rfl) : Ch P n ops w (⟨some dd, .load t x, tt, pos, af, none⟩ :: L) T L' T' := .c ht (fun _ h => y_loadB1 h m hm hx hv hu hr) tl
theorem Ch.loadB1Z (m : MemOk X w0 M w) {t : TypeId} {td : TypeDesc} {x : Operand} {i g o : Nat} {e : TypeId} {cs : List Value} {v : Value} (hm : lk M i = some (.box g e cs)) (hx : evT T x = some (.pointer (some ⟨g, o, none⟩))) (hv : cs[o]? = some v) (hu : P.underlying t = some td) (hr : td.isRow = false) {j tg : Nat} {bb : Bool} (tl : Ch P n ops w L ((dd, v) :: T) L' T') (hj : (ops[j]?).bind (·.dst) = some tg := by rfl) (hb : lk T tg = some (.bool bb) := by rfl) (ht2 : Nat.blt tg n = true := by rfl) (ht : Nat.blt dd n = true := by rfl) : Ch P n ops w (⟨some dd, .load t x, tt, pos, af, some (j, bb)⟩ :: L) T L' T' := .g hj hb ht2 ht (fun _ h => y_loadB1 h m hm hx hv hu hr) tl
theorem Ch.loadBR (m : MemOk X w0 M w) {t : TypeId} {td : TypeDesc} {x : Operand} {i g o k : Nat} {e : TypeId} {cs vs : List Value} (hm : lk M i = some (.box g e cs)) (hx : evT T x = some (.pointer (some ⟨g, o, none⟩))) (hu : P.underlying t = some td) (hr : td.isRow = true) (hs : (P.info? t).map (·.size) = some k) (hk : o + k ≤ cs.length) (hv : (cs.drop o).take k = vs) (tl : Ch P n ops w L ((dd, (.agg vs.toArray)) :: T) L' T') (ht : Nat.blt dd n = true := by rfl) : Ch P n ops w (⟨some dd, .load t x, tt, pos, af, none⟩ :: L) T L' T' := .c ht (fun _ h => y_loadBR h m hm hx hu hr hs hk hv) tl
theorem Ch.loadBRZ (m : MemOk X w0 M w) {t : TypeId} {td : TypeDesc} {x : Operand} {i g o k : Nat} {e : TypeId} {cs vs : List Value} (hm : lk M i = some (.box g e cs)) (hx : evT T x = some (.pointer (some ⟨g, o, none⟩))) (hu : P.underlying t = some td) (hr : td.isRow = true) (hs : (P.info? t).map (·.size) = some k) (hk : o + k ≤ cs.length) (hv : (cs.drop o).take k = vs) {j tg : Nat} {bb : Bool} (tl : Ch P n ops w L ((dd, (.agg vs.toArray)) :: T) L' T') (hj : (ops[j]?).bind (·.dst) = some tg := by rfl) (hb : lk T tg = some (.bool bb) := by rfl) (ht2 : Nat.blt tg n = true := by rfl) (ht : Nat.blt dd n = true := by rfl) : Ch P n ops w (⟨some dd, .load t x, tt, pos, af, some (j, bb)⟩ :: L) T L' T' := .g hj hb ht2 ht (fun _ h => y_loadBR h m hm hx hu hr hs hk hv) tl
theorem Ch.loadC0 (m : MemOk X w0 M w) {t : TypeId} {td : TypeDesc} {x : Operand} {i b o : Nat} {vs : List Value} {v : Value} (hm : lk M i = some (.cel b o (v :: vs))) (hx : evT T x = some (.pointer (some ⟨b, o, none⟩))) (hu : P.underlying t = some td) (hr : td.isRow = false) (tl : Ch P n ops w L ((dd, v) :: T) L' T') (ht : Nat.blt dd n = true := by rfl) : Ch P n ops w (⟨some dd, .load t x, tt, pos, af, none⟩ :: L) T L' T' := .c ht (fun _ h => y_loadC0 h m hm hx hu hr) tl
theorem Ch.str {s t e : TypeId} {x : Operand} {v : Value} {bs : List Int} (hx : evT T x = some v) (hv : IsNums .u8 w v bs) (hs : P.underlying s = some (.slice e)) (he : P.underlying e = some (.int .u8)) (hd : P.underlying t = some .string) (tl : Ch P n ops w L ((dd, (.string (strOfNums bs))) :: T) L' T') (ht : Nat.blt dd n = true := by rfl) : Ch P n ops w (⟨some dd, .convert s t x, tt, pos, af, none⟩ :: L) T L' T' := .c ht (fun _ h => y_str h hx hv hs he hd) tl
theorem Ch.loadAt {t : TypeId} {td : TypeDesc} {x : Operand} {b o : Nat} {vs : List Value} (hr : w.rangeAt b o vs) (hx : evT T x = some (.pointer (some ⟨b, o, none⟩))) (hu : P.underlying t = some td) (hd : td.isRow = true) (hs : (P.info? t).map (·.size) = some vs.length) (tl : Ch P n ops w L ((dd, (.agg vs.toArray)) :: T) L' T') (ht : Nat.blt dd n = true := by rfl) : Ch P n ops w (⟨some dd, .load t x, tt, pos, af, none⟩ :: L) T L' T' := .c ht (fun _ h => y_loadAt h hr hx hu hd hs) tl
theorem Ch.loadX1 {t : TypeId} {td : TypeDesc} {x : Operand} {g o : Nat} {e : TypeId} {cs : List Value} {v : Value} (hB : Blk w g e cs) (hx : evT T x = some (.pointer (some ⟨g, o, none⟩))) (hc : nthL cs o = some v) (hu : P.underlying t = some td) (hd : td.isRow = false) (tl : Ch P n ops w L ((dd, v) :: T) L' T') (ht : Nat.blt dd n = true := by rfl) : Ch P n ops w (⟨some dd, .load t x, tt, pos, af, none⟩ :: L) T L' T' := .c ht (fun _ h => y_loadX1 h hB hx hc hu hd) tl
theorem Ch.loadXR {t : TypeId} {td : TypeDesc} {x : Operand} {g o k : Nat} {e : TypeId} {cs vs : List Value} (hB : Blk w g e cs) (hx : evT T x = some (.pointer (some ⟨g, o, none⟩))) (hu : P.underlying t = some td) (hd : td.isRow = true) (hs : (P.info? t).map (·.size) = some k) (hk : vs.length = k) (hv : (cs.drop o).take k = vs) (tl : Ch P n ops w L ((dd, (.agg vs.toArray)) :: T) L' T') (ht : Nat.blt dd n = true := by rfl) : Ch P n ops w (⟨some dd, .load t x, tt, pos, af, none⟩ :: L) T L' T' := .c ht (fun _ h => y_loadXR h hB hx hu hd hs hk hv) tl
theorem Ch.loadAt1 {t : TypeId} {td : TypeDesc} {x : Operand} {b o q q' : Nat} {vs : List Value} {v : Value} (hr : w.rangeAt b o vs) (hx : evT T x = some (.pointer (some ⟨b, q', none⟩))) (hq : q' = o + q) (hv : nthL vs q = some v) (hu : P.underlying t = some td) (hd : td.isRow = false) (tl : Ch P n ops w L ((dd, v) :: T) L' T') (ht : Nat.blt dd n = true := by rfl) : Ch P n ops w (⟨some dd, .load t x, tt, pos, af, none⟩ :: L) T L' T' := .c ht (fun _ h => y_loadAt1 h hr hx hq hv hu hd) tl
theorem Ch.cap {t e : TypeId} {x : Operand} {p : Option Addr} {l c : Nat} (hx : evT T x = some (.slice p l c)) (hu : P.underlying t = some (.slice e)) (tl : Ch P n ops w L ((dd, (.int .i64 c)) :: T) L' T') (ht : Nat.blt dd n = true := by rfl) : Ch P n ops w (⟨some dd, .call { callee := .builtin .cap, args := #[x], argTypes := #[t] }, tt, pos, af, none⟩ :: L) T L' T' := .c ht (fun _ h => y_cap h hx hu) tl
theorem Ch.buildG {t : TypeId} {parts : Array (Nat × Operand)} {z cs : List Value} {pl : List (Nat × Value)} {ps : List (Nat × Nat)} (hp : K.evP T parts.toList = some pl) (hz : ((P.info? t).bind (·.zero)).map (·.cells.toList) = some z) (hps : placesS P t = some ps) (hc : putL z ps pl = some cs) (tl : Ch P n ops w L ((dd, (.agg cs.toArray)) :: T) L' T') (ht : Nat.blt dd n = true := by rfl) : Ch P n ops w (⟨some dd, .build t parts, tt, pos, af, none⟩ :: L) T L' T' := .c ht (fun _ h => y_buildG h hp hz hps hc) tl
theorem Ch.loadSV (m : MemOk X w0 M w) {t : TypeId} {td : TypeDesc} {x : Operand} {i g o l c mm : Nat} {e : TypeId} {rows : List (List D)} (hm : lk M i = some (.seg (.slice (some ⟨g, o, none⟩) l c) e mm rows)) (J : Nat) {r : List D} (hr : rows[J]? = some r) {q q' : Nat} {v : Value} (hq : nthL r q = some (.v v)) (hx : evT T x = some (.pointer (some ⟨g, q', none⟩))) (hq' : q' = o + J * mm + q) (hu : P.underlying t = some td) (hd : td.isRow = false) (tl : Ch P n ops w L ((dd, v) :: T) L' T') (ht : Nat.blt dd n = true := by rfl) : Ch P n ops w (⟨some dd, .load t x, tt, pos, af, none⟩ :: L) T L' T' := .c ht (fun _ h => y_loadSV h m hm J hr hq hx hq' hu hd) tl
theorem Ch.makeFunc {f : FuncId} {caps : Array Operand} {vs : List Value} (hargs : evA T caps.toList = some vs) (tl : Ch P n ops w L ((dd, (.func (.func f) #[] vs.toArray)) :: T) L' T') (ht : Nat.blt dd n = true := by rfl) : Ch P n ops w (⟨some dd, .makeFunc (.func f) #[] caps, tt, pos, af, none⟩ :: L) T L' T' := .c ht (fun _ h => y_makeFunc h hargs) tl
theorem Ch.sk {op : Op} {j tg : Nat} {bb : Bool} (tl : Ch P n ops w L ((dd, undef) :: T) L' T') (hj : (ops[j]?).bind (·.dst) = some tg := by rfl) (hb : lk T tg = some (.bool !bb) := by rfl) (ht2 : Nat.blt tg n = true := by rfl) (ht : Nat.blt dd n = true := by rfl) : Ch P n ops w (⟨some dd, op, tt, pos, af, some (j, bb)⟩ :: L) T L' T' := .s hj hb ht2 ht tl
end
end
section
def gdB (ops : Array Oper) (n : Nat) (T : List (Nat × Value)) : Option (Nat × Bool) → Bool
 | none => true
 | some (j, b) => match (ops[j]?).bind (·.dst) with
   | some t => Nat.blt t n && match lk T t with
     | some (.bool x) => x == b
     | _ => false
   | none => false
theorem gd_wanted {ops : Array Oper} {n : Nat} {T : List (Nat × Value)} {a : Act} (ha : Has n T a) {o : Oper} (h : gdB ops n T o.guard = true) : Region.wanted o (Go.yielded ops a.tmps) = true := by
 unfold gdB at h
 split at h
 · next e => simp [Region.wanted, e]
 · next j b e =>
   split at h
   · next t hj =>
     rw [Bool.and_eq_true] at h
     split at h
     · next x hb =>
       obtain rfl : x = b := by simpa using h.2
       simp [Region.wanted, e, ha.yielded hj hb h.1]
     · cases h.2
   · cases h
inductive Cd (P : Program) (n : Nat) (ops : Array Oper) (S : World → Prop) : List (Oper × Bool) → List (Nat × Value) → List (Nat × Value) → Prop
 | nil {T : List (Nat × Value)} : Cd P n ops S [] T T
 | c {d : Tmp} {op : Op} {v : Value} {L : List (Oper × Bool)} {T T' : List (Nat × Value)} {tt : TypeId} {pos : String} {af : Array Edge} {gd : Option (Nat × Bool)} (hy : ∀ W, S W → ∀ a, Has n T a → Yl P a W ⟨some d, op, tt, pos, af, gd⟩ v) (tl : Cd P n ops S L ((d, v) :: T) T') (hg : gdB ops n T gd = true := by rfl) (ht : Nat.blt d n = true := by rfl) : Cd P n ops S ((⟨some d, op, tt, pos, af, gd⟩, true) :: L) T T'
 | p {d : Tmp} {op : Op} {v : Value} {L : List (Oper × Bool)} {T T' : List (Nat × Value)} {tt : TypeId} {pos : String} {af : Array Edge} {gd : Option (Nat × Bool)} (hy : ∀ W, ∀ a, Has n T a → Yl P a W ⟨some d, op, tt, pos, af, gd⟩ v) (tl : Cd P n ops S L ((d, v) :: T) T') (hg : gdB ops n T gd = true := by rfl) (ht : Nat.blt d n = true := by rfl) : Cd P n ops S ((⟨some d, op, tt, pos, af, gd⟩, false) :: L) T T'
 | s {d : Tmp} {op : Op} {L : List (Oper × Bool)} {T T' : List (Nat × Value)} {tt : TypeId} {pos : String} {af : Array Edge} {j t : Nat} {b : Bool} (tl : Cd P n ops S L ((d, undef) :: T) T') (hj : (ops[j]?).bind (·.dst) = some t := by rfl) (hb : lk T t = some (.bool !b) := by rfl) (ht2 : Nat.blt t n = true := by rfl) (ht : Nat.blt d n = true := by rfl) : Cd P n ops S ((⟨some d, op, tt, pos, af, some (j, b)⟩, false) :: L) T T'
 | u {d : Tmp} {op : Op} {L : List (Oper × Bool)} {T T' : List (Nat × Value)} {tt : TypeId} {pos : String} {af : Array Edge} {j t : Nat} {b : Bool} (tl : Cd P n ops S L ((d, undef) :: T) T') (hj : (ops[j]?).bind (·.dst) = some t := by rfl) (hb : lk T t = some undef := by rfl) (ht2 : Nat.blt t n = true := by rfl) (ht : Nat.blt d n = true := by rfl) : Cd P n ops S ((⟨some d, op, tt, pos, af, some (j, b)⟩, false) :: L) T T'
def opsAt (ops : Array Oper) (rs : List Nat) : List Nat → List (Oper × Bool)
 | [] => []
 | i :: is => match ops[i]? with
   | some o => (o, rs.contains i) :: opsAt ops rs is
   | none => opsAt ops rs is
def lst (s m : Nat) : Array Bool := ((List.range s).map fun i => m.testBit i).toArray
theorem lst_size (s m : Nat) : (lst s m).size = s := by simp [lst]
theorem lst_getD (s m i : Nat) (d : Bool) : (lst s m).getD i d = if i < s then m.testBit i else d := by
 unfold Array.getD
 by_cases h : i < s
 · rw [dif_pos (show i < (lst s m).size by rw [lst_size]; exact h), if_pos h]; simp [lst]
 · rw [dif_neg (show ¬ i < (lst s m).size by rw [lst_size]; exact h), if_neg h]
theorem lst_set (s m i : Nat) : (lst s m).setIfInBounds i true = lst s (m ||| (1 <<< i)) := by
 apply Array.ext
 · simp [lst_size]
 · intro k h1 h2
   rw [Array.getElem_setIfInBounds (by rw [lst_size]; simpa [lst_size] using h1)]
   have hk : k < s := by rw [lst_size] at h2; exact h2
   by_cases hik : i = k
   · subst hik; simp [lst, Nat.testBit_or, Nat.one_shiftLeft, Nat.testBit_two_pow_self]
   · rw [if_neg hik]; simp [lst, Nat.testBit_or, Nat.one_shiftLeft, Nat.testBit_two_pow_of_ne hik]
def pairB (md : Region.Mode) (ops : Array Oper) : Bool := (List.range ops.size).all fun i => match ops[i]? with
 | none => true
 | some oi => (List.range ops.size).all fun j => j == i || match ops[j]? with
   | none => true
   | some oj => oj.after.any (fun e => Region.binds md e && e.on == i) || oi.after.any (fun e => Region.binds md e && e.on == j) || oi.apart ops oj
def rdM (md : Region.Mode) (ops : Array Oper) (e : Nat) (rs : List Nat) : Nat → List Nat → Bool
 | _, [] => true
 | m, i :: is => (match ops[i]? with
   | none => false
   | some o => !(m.testBit i) && o.after.all fun ed => !Region.binds md ed || (m.testBit ed.on && Nat.blt ed.on ops.size)) && Nat.blt i ops.size && decide (i ≠ e) && (!(rs.contains i) || (decide (ops.size ≤ e) || waits md ops e i)) && rdM md ops e rs (m ||| (1 <<< i)) is
def bitsM : Nat → List Nat → Nat
 | m, [] => m
 | m, i :: is => bitsM (m ||| (1 <<< i)) is
theorem rd_ready {md : Region.Mode} {ops : Array Oper} {m i : Nat} {o : Oper} (ho : ops[i]? = some o) (hn : m.testBit i = false) (ha : ∀ ed ∈ o.after, Region.binds md ed = true → m.testBit ed.on = true ∧ ed.on < ops.size) : i ∈ Region.ready md ops (lst ops.size m) := by
 have hi' : i < ops.size := (Array.getElem?_eq_some_iff.1 ho).1
 refine mem_ready.2 ⟨by rw [lst_getD, if_pos hi', hn], o, ho, fun ed hed hb => ?_⟩
 rw [lst_getD, if_pos (ha ed hed hb).2, (ha ed hed hb).1]
theorem pair_free {md : Region.Mode} {ops : Array Oper} {m i : Nat} {o : Oper} (hp : pairB md ops = true) (ho : ops[i]? = some o) (ha : ∀ ed ∈ o.after, Region.binds md ed = true → m.testBit ed.on = true ∧ ed.on < ops.size) : Region.free md ops (lst ops.size m) i = true := by
 simp only [pairB, List.all_eq_true, List.mem_range] at hp
 have hi := hp i (Array.getElem?_eq_some_iff.1 ho).1
 simp only [ho, List.all_eq_true, List.mem_range] at hi
 simp only [Region.free, ho, List.all_eq_true, List.mem_range]
 intro j hj
 have hij := hi j hj
 rw [lst_getD, if_pos hj]
 rw [Bool.or_eq_true] at hij
 rcases hij with h1 | h1
 · rw [h1]; simp
 · cases hoj : ops[j]? with
   | none => simp
   | some oj =>
     simp only [hoj, Bool.or_eq_true] at h1
     rcases h1 with (h3 | h3) | h3
     · simp [h3]
     · obtain ⟨ed, hed, h4⟩ := Array.any_eq_true'.1 h3
       rw [Bool.and_eq_true, beq_iff_eq] at h4
       have h5 := ha ed hed h4.1
       rw [h4.2] at h5
       simp [h5.1]
     · simp [h3]
theorem rd_after {md : Region.Mode} {ops : Array Oper} {m : Nat} {o : Oper} (h : (o.after.all fun ed => !Region.binds md ed || (m.testBit ed.on && Nat.blt ed.on ops.size)) = true) : ∀ ed ∈ o.after, Region.binds md ed = true → m.testBit ed.on = true ∧ ed.on < ops.size := fun ed hed hb => by
 have h5 := Array.all_eq_true_iff_forall_mem.1 h ed hed
 rw [hb] at h5
 simpa [Nat.blt_eq] using h5
section
variable {P : Program} {n : Nat} {ops : Array Oper} {Q : Exit → Act → World → Prop} {md : Region.Mode} {e fuel : Nat} {S S' : World → Prop}
theorem closedB_of {L : Array Bool} (h : Closed md ops L) : closedB md ops L = true := by
 unfold closedB
 rw [Bool.and_eq_true, decide_eq_true_eq, List.all_eq_true]
 refine ⟨h.1, fun j _ => ?_⟩
 cases hl : L.getD j false with
 | false => rfl
 | true =>
   cases ho : ops[j]? with
   | none => rfl
   | some oj =>
     simp only [Bool.not_true, Bool.false_or]
     rw [Array.all_eq_true_iff_forall_mem]
     intro ed hed
     cases hb : Region.binds md ed with
     | false => rfl
     | true => simpa using h.2 j oj ho hl ed hed hb
theorem hh : ∀ W, S W → S W := fun _ h => h
theorem stepsR (rs : List Nat) (hp : pairB md ops = true) (hs : Region.noSelect ops = true) (hQ : ∀ c a d v w, Q (.panic c) (a.put (some d) v) w → Q (.panic c) a w) : ∀ (is : List Nat) {k m : Nat} {T T' : List (Nat × Value)} {a : Act} {w : World}, is.length = k → Has n T a → (S w ∨ (Nat.testBit m e = true ∧ e < ops.size ∧ rs = [])) → (rs = [] ∨ closedB md ops (lst ops.size m) = true) → Cd P n ops S (opsAt ops rs is) T T' → rdM md ops e rs m is = true → (∀ a', Has n T' a' → wpAnyE P md ops Q e S fuel (lst ops.size (bitsM m is)) a' w) → wpAnyE P md ops Q e S (fuel + k) (lst ops.size m) a w
 | [], k, m, T, T', a, w, hk, ha, hS, hcl, hc, _, h => by
   subst hk
   cases hc
   exact h a ha
 | i :: is, k, m, T, T', a, w, hk, ha, hS, hcl, hc, hr, h => by
   subst hk
   simp only [rdM, Bool.and_eq_true] at hr
   obtain ⟨⟨⟨⟨h1, h2⟩, h4⟩, h6⟩, h7⟩ := hr
   cases ho : ops[i]? with
   | none => rw [ho] at h1; cases h1
   | some o =>
     rw [ho] at h1
     simp only [Bool.and_eq_true, Bool.not_eq_true'] at h1
     have haf := rd_after h1.2
     have hop : opsAt ops rs (i :: is) = (o, rs.contains i) :: opsAt ops rs is := by simp only [opsAt, ho]
     rw [hop] at hc
     have h4' : i ≠ e := of_decide_eq_true h4
     have hrd := rd_ready ho h1.1 haf
     have hrb : (Region.ready md ops (lst ops.size m)).contains i = true := List.contains_iff_mem.2 hrd
     have hf := pair_free hp ho haf
     have hS1 : (lst ops.size m).getD e false = false → S w := fun h => hS.elim (fun h => h) (fun h9 => by rw [lst_getD, if_pos h9.2.1, h9.1] at h; cases h)
     have hS2 : S w ∨ (Nat.testBit (m ||| (1 <<< i)) e = true ∧ e < ops.size ∧ rs = []) := hS.imp (fun h => h) (fun h9 => ⟨by rw [Nat.testBit_or, h9.1]; rfl, h9.2⟩)
     have hcl2 : rs = [] ∨ closedB md ops (lst ops.size (m ||| (1 <<< i))) = true := hcl.imp (fun h => h) (fun h => by
       have := (closedB_spec h).set hrd
       rw [lst_set] at this
       exact closedB_of this)
     have go {d : Tmp} {v : Value} (ha' : Has n ((d, v) :: T) (a.put (some d) v)) (tl : Cd P n ops S (opsAt ops rs is) ((d, v) :: T) T') : wpAnyE P md ops Q e S (fuel + is.length) ((lst ops.size m).setIfInBounds i true) (a.put (some d) v) w := by
       rw [lst_set]
       exact stepsR rs hp hs hQ is rfl ha' hS2 hcl2 tl h7 h
     generalize hb : rs.contains i = b at hc
     cases hc with
     | c hy tl hg ht =>
       rw [hb] at h6
       simp only [Bool.not_true, Bool.false_or, Bool.or_eq_true] at h6
       have hne : rs ≠ [] := fun h => by rw [h] at hb; cases hb
       have hS0 : S w := hS.elim (fun h => h) (fun h9 => absurd h9.2.2 hne)
       have hc0 := hcl.resolve_left hne
       rcases h6 with h9 | h9
       · exact stepE_held i (some _) hS0 ho rfl hs hf hrb hc0 (by rw [h9, h4]; rfl) (fun c a w => hQ c a _ _ w) (gd_wanted ha hg) (fun W hW => hy W hW a ha) (go (ha.put ht _) tl)
       · exact stepE_readW i (some _) hS0 ho rfl hs hf hrb hc0 (by rw [h9, h4]; rfl) (fun c a w => hQ c a _ _ w) (gd_wanted ha hg) (fun W hW => hy W hW a ha) (go (ha.put ht _) tl)
     | p hy tl hg ht => exact stepE_any i (some _) hS1 ho rfl hs hf hrb h4 (fun c a w => hQ c a _ _ w) (gd_wanted ha hg) (fun W => hy W a ha) (go (ha.put ht _) tl)
     | s tl hj hb ht2 ht => exact stepE_skip i (some _) hS1 ho rfl hs hf hrb h4 (fun c a w => hQ c a _ _ w) (by simp [Region.wanted, ha.yielded hj hb ht2]) (go (ha.put ht _) tl)
     | u tl hj hb ht2 ht => exact stepE_skip i (some _) hS1 ho rfl hs hf hrb h4 (fun c a w => hQ c a _ _ w) (by simp [Region.wanted, ha.unyielded hj hb ht2]) (go (ha.put ht _) tl)
theorem region_p {P : Program} {a : Act} {w w0 : World} {X : Cx} {M B : Mm} {ops : Array Oper} {Q : Exit → Act → World → Prop} (e : Nat) (mB : MemOk X w0 B w) (m : MemOk X w0 M w) {id : Nat} (hm : P.follows .mixedOrders = true)
   (h : ∀ w', pairB .any ops = true → MemOk X w0 M w' → wpAnyE P .any ops Q e (MemOk X w0 B) ops.size (Array.replicate ops.size false) a w') (hp : pairB .any ops = true := by kernel_rfl) : (Code.region id ops true).wp P Q a w := region_m e mB m hm (fun w' _ m' => h w' hp m')
theorem goR (hp : pairB md ops = true) (is rs : List Nat) (k m m' : Nat) {T T' : List (Nat × Value)} {a : Act} {w : World} {listed : Array Bool} (ha : Has n T a) (hS : S w) (hc : Cd P n ops S (opsAt ops rs is) T T') (h : ∀ a', Has n T' a' → wpAnyE P md ops Q e S fuel (lst ops.size m') a' w) (hl : listed = lst ops.size m := by kernel_rfl) (hm : m' = bitsM m is := by kernel_rfl) (hk : is.length = k := by rfl) (hcl : closedB md ops (lst ops.size m) = true := by kernel_rfl) (hs : Region.noSelect ops = true := by kernel_rfl) (hr : rdM md ops e rs m is = true := by kernel_rfl) (hQ : ∀ c a d v w, Q (.panic c) (a.put (some d) v) w → Q (.panic c) a w := by exact fun _ _ _ _ _ h => h) : wpAnyE P md ops Q e S (fuel + k) listed a w := by
 subst hl; subst hm
 exact stepsR rs hp hs hQ is hk ha (.inl hS) (.inr hcl) hc hr h
theorem goA (hp : pairB md ops = true) (is : List Nat) (k m m' : Nat) {T T' : List (Nat × Value)} {a : Act} {w : World} {listed : Array Bool} (ha : Has n T a) (hS : S w) (hc : Cd P n ops S (opsAt ops [] is) T T') (h : ∀ a', Has n T' a' → wpAnyE P md ops Q e S fuel (lst ops.size m') a' w) (hl : listed = lst ops.size m := by kernel_rfl) (hm : m' = bitsM m is := by kernel_rfl) (hk : is.length = k := by rfl) (hs : Region.noSelect ops = true := by kernel_rfl) (hr : rdM md ops e [] m is = true := by kernel_rfl) (hQ : ∀ c a d v w, Q (.panic c) (a.put (some d) v) w → Q (.panic c) a w := by exact fun _ _ _ _ _ h => h) : wpAnyE P md ops Q e S (fuel + k) listed a w := by
 subst hl; subst hm
 exact stepsR [] hp hs hQ is hk ha (.inl hS) (.inl rfl) hc hr h
theorem goB (hp : pairB md ops = true) (is : List Nat) (k m m' : Nat) {T T' : List (Nat × Value)} {a : Act} {w : World} {listed : Array Bool} (ha : Has n T a) (hc : Cd P n ops S (opsAt ops [] is) T T') (h : ∀ a', Has n T' a' → wpAnyE P md ops Q e S fuel (lst ops.size m') a' w) (hl : listed = lst ops.size m := by kernel_rfl) (hm : m' = bitsM m is := by kernel_rfl) (hk : is.length = k := by rfl) (hb : (Nat.testBit m e && Nat.blt e ops.size) = true := by kernel_rfl) (hs : Region.noSelect ops = true := by kernel_rfl) (hr : rdM md ops e [] m is = true := by kernel_rfl) (hQ : ∀ c a d v w, Q (.panic c) (a.put (some d) v) w → Q (.panic c) a w := by exact fun _ _ _ _ _ h => h) : wpAnyE P md ops Q e S (fuel + k) listed a w := by
 subst hl; subst hm
 rw [Bool.and_eq_true] at hb
 exact stepsR [] hp hs hQ is hk ha (.inr ⟨hb.1, by simpa [Nat.blt_eq] using hb.2, rfl⟩) (.inl rfl) hc hr h
end
/-! short -/
section
variable {P : Program} {n : Nat} {ops : Array Oper} {S : World → Prop} {L : List (Oper × Bool)} {T T' : List (Nat × Value)} {w0 : World} {X : Cx} {M : Mm} {dd : Tmp} {tt : TypeId} {pos : String} {af : Array Edge} {gd : Option (Nat × Bool)} {x y z : Operand} {k : IntKind} {p q r : Int} {t t2 : TypeId}
theorem Cd.move {x : Operand} {v : Value} (hx : evT T x = some v) (tl : Cd P n ops S L ((dd, v) :: T) T') (hg : gdB ops n T gd = true := by rfl) (ht : Nat.blt dd n = true := by rfl) : Cd P n ops S ((⟨some dd, .move x, tt, pos, af, gd⟩, false) :: L) T T' := .p (fun W _ h => y_move h hx) tl hg ht
theorem Cd.assign {x : Operand} {v : Value} (hx : evT T x = some v) (tl : Cd P n ops S L ((dd, v) :: T) T') (hg : gdB ops n T gd = true := by rfl) (ht : Nat.blt dd n = true := by rfl) : Cd P n ops S ((⟨some dd, .assign x, tt, pos, af, gd⟩, false) :: L) T T' := .p (fun W _ h => y_assign h hx) tl hg ht
theorem Cd.pickT {c x y : Operand} {v : Value} (hc : evT T c = some (.bool true)) (hx : evT T x = some v) (tl : Cd P n ops S L ((dd, v) :: T) T') (hg : gdB ops n T gd = true := by rfl) (ht : Nat.blt dd n = true := by rfl) : Cd P n ops S ((⟨some dd, .pick c x y, tt, pos, af, gd⟩, false) :: L) T T' := .p (fun W _ h => y_pickT h hc hx) tl hg ht
theorem Cd.pickF {c x y : Operand} {v : Value} (hc : evT T c = some (.bool false)) (hx : evT T y = some v) (tl : Cd P n ops S L ((dd, v) :: T) T') (hg : gdB ops n T gd = true := by rfl) (ht : Nat.blt dd n = true := by rfl) : Cd P n ops S ((⟨some dd, .pick c x y, tt, pos, af, gd⟩, false) :: L) T T' := .p (fun W _ h => y_pickF h hc hx) tl hg ht
theorem Cd.not {t : TypeId} {x : Operand} {b : Bool} (hx : evT T x = some (.bool b)) (tl : Cd P n ops S L ((dd, (.bool !b)) :: T) T') (hg : gdB ops n T gd = true := by rfl) (ht : Nat.blt dd n = true := by rfl) : Cd P n ops S ((⟨some dd, .unOp .not t x, tt, pos, af, gd⟩, false) :: L) T T' := .p (fun W _ h => y_not h hx) tl hg ht
theorem Cd.len {t e : TypeId} {x : Operand} {p : Option Addr} {l c : Nat} (hx : evT T x = some (.slice p l c)) (hu : P.underlying t = some (.slice e)) (tl : Cd P n ops S L ((dd, (.int .i64 l)) :: T) T') (hg : gdB ops n T gd = true := by rfl) (ht : Nat.blt dd n = true := by rfl) : Cd P n ops S ((⟨some dd, .call { callee := .builtin .len, args := #[x], argTypes := #[t] }, tt, pos, af, gd⟩, false) :: L) T T' := .p (fun W _ h => y_len h hx hu) tl hg ht
theorem Cd.add (hx : evT T x = some (.int k p)) (hy : evT T y = some (.int k q)) (hr : k.wrap (p + q) = r) (tl : Cd P n ops S L ((dd, (.int k r)) :: T) T') (hg : gdB ops n T gd = true := by rfl) (ht : Nat.blt dd n = true := by rfl) : Cd P n ops S ((⟨some dd, .binOp .add t x y t2, tt, pos, af, gd⟩, false) :: L) T T' := .p (fun W _ h => y_add h hx hy hr) tl hg ht
theorem Cd.sub (hx : evT T x = some (.int k p)) (hy : evT T y = some (.int k q)) (hr : k.wrap (p - q) = r) (tl : Cd P n ops S L ((dd, (.int k r)) :: T) T') (hg : gdB ops n T gd = true := by rfl) (ht : Nat.blt dd n = true := by rfl) : Cd P n ops S ((⟨some dd, .binOp .sub t x y t2, tt, pos, af, gd⟩, false) :: L) T T' := .p (fun W _ h => y_sub h hx hy hr) tl hg ht
theorem Cd.mul (hx : evT T x = some (.int k p)) (hy : evT T y = some (.int k q)) (hr : k.wrap (p * q) = r) (tl : Cd P n ops S L ((dd, (.int k r)) :: T) T') (hg : gdB ops n T gd = true := by rfl) (ht : Nat.blt dd n = true := by rfl) : Cd P n ops S ((⟨some dd, .binOp .mul t x y t2, tt, pos, af, gd⟩, false) :: L) T T' := .p (fun W _ h => y_mul h hx hy hr) tl hg ht
theorem Cd.quo (hx : evT T x = some (.int k p)) (hy : evT T y = some (.int k q)) (h0 : q ≠ 0) (hr : k.wrap (p.tdiv q) = r) (tl : Cd P n ops S L ((dd, (.int k r)) :: T) T') (hg : gdB ops n T gd = true := by rfl) (ht : Nat.blt dd n = true := by rfl) : Cd P n ops S ((⟨some dd, .binOp .quo t x y t2, tt, pos, af, gd⟩, false) :: L) T T' := .p (fun W _ h => y_quo h hx hy h0 hr) tl hg ht
theorem Cd.rem (hx : evT T x = some (.int k p)) (hy : evT T y = some (.int k q)) (h0 : q ≠ 0) (hr : p.tmod q = r) (tl : Cd P n ops S L ((dd, (.int k r)) :: T) T') (hg : gdB ops n T gd = true := by rfl) (ht : Nat.blt dd n = true := by rfl) : Cd P n ops S ((⟨some dd, .binOp .rem t x y t2, tt, pos, af, gd⟩, false) :: L) T T' := .p (fun W _ h => y_rem h hx hy h0 hr) tl hg ht
theorem Cd.and (hx : evT T x = some (.int k p)) (hy : evT T y = some (.int k q)) (hr : k.wrap (BitVec.ofInt k.bits p &&& BitVec.ofInt k.bits q).toNat = r) (tl : Cd P n ops S L ((dd, (.int k r)) :: T) T') (hg : gdB ops n T gd = true := by rfl) (ht : Nat.blt dd n = true := by rfl) : Cd P n ops S ((⟨some dd, .binOp .and t x y t2, tt, pos, af, gd⟩, false) :: L) T T' := .p (fun W _ h => y_and h hx hy hr) tl hg ht
theorem Cd.or (hx : evT T x = some (.int k p)) (hy : evT T y = some (.int k q)) (hr : k.wrap (BitVec.ofInt k.bits p ||| BitVec.ofInt k.bits q).toNat = r) (tl : Cd P n ops S L ((dd, (.int k r)) :: T) T') (hg : gdB ops n T gd = true := by rfl) (ht : Nat.blt dd n = true := by rfl) : Cd P n ops S ((⟨some dd, .binOp .or t x y t2, tt, pos, af, gd⟩, false) :: L) T T' := .p (fun W _ h => y_or h hx hy hr) tl hg ht
theorem Cd.lss (hx : evT T x = some (.int k p)) (hy : evT T y = some (.int k q)) (tl : Cd P n ops S L ((dd, (.bool (decide (p < q)))) :: T) T') (hg : gdB ops n T gd = true := by rfl) (ht : Nat.blt dd n = true := by rfl) : Cd P n ops S ((⟨some dd, .binOp .lss t x y t2, tt, pos, af, gd⟩, false) :: L) T T' := .p (fun W _ h => y_lss h hx hy) tl hg ht
theorem Cd.leq (hx : evT T x = some (.int k p)) (hy : evT T y = some (.int k q)) (tl : Cd P n ops S L ((dd, (.bool (decide (p ≤ q)))) :: T) T') (hg : gdB ops n T gd = true := by rfl) (ht : Nat.blt dd n = true := by rfl) : Cd P n ops S ((⟨some dd, .binOp .leq t x y t2, tt, pos, af, gd⟩, false) :: L) T T' := .p (fun W _ h => y_leq h hx hy) tl hg ht
theorem Cd.gtr (hx : evT T x = some (.int k p)) (hy : evT T y = some (.int k q)) (tl : Cd P n ops S L ((dd, (.bool (decide (q < p)))) :: T) T') (hg : gdB ops n T gd = true := by rfl) (ht : Nat.blt dd n = true := by rfl) : Cd P n ops S ((⟨some dd, .binOp .gtr t x y t2, tt, pos, af, gd⟩, false) :: L) T T' := .p (fun W _ h => y_gtr h hx hy) tl hg ht
theorem Cd.geq (hx : evT T x = some (.int k p)) (hy : evT T y = some (.int k q)) (tl : Cd P n ops S L ((dd, (.bool (decide (q ≤ p)))) :: T) T') (hg : gdB ops n T gd = true := by rfl) (ht : Nat.blt dd n = true := by rfl) : Cd P n ops S ((⟨some dd, .binOp .geq t x y t2, tt, pos, af, gd⟩, false) :: L) T T' := .p (fun W _ h => y_geq h hx hy) tl hg ht
theorem Cd.eql (hx : evT T x = some (.int k p)) (hy : evT T y = some (.int k q)) (tl : Cd P n ops S L ((dd, (.bool (decide (p = q)))) :: T) T') (hg : gdB ops n T gd = true := by rfl) (ht : Nat.blt dd n = true := by rfl) : Cd P n ops S ((⟨some dd, .binOp .eql t x y t2, tt, pos, af, gd⟩, false) :: L) T T' := .p (fun W _ h => y_eql h hx hy) tl hg ht
theorem Cd.neq (hx : evT T x = some (.int k p)) (hy : evT T y = some (.int k q)) (tl : Cd P n ops S L ((dd, (.bool (decide (p ≠ q)))) :: T) T') (hg : gdB ops n T gd = true := by rfl) (ht : Nat.blt dd n = true := by rfl) : Cd P n ops S ((⟨some dd, .binOp .neq t x y t2, tt, pos, af, gd⟩, false) :: L) T T' := .p (fun W _ h => y_neq h hx hy) tl hg ht
theorem Cd.eqlP {e : TypeId} {b : Option Addr} (hx : evT T x = some (.pointer b)) (hy : evT T y = some (.pointer none)) (hu : P.underlying t = some (.pointer e)) (tl : Cd P n ops S L ((dd, (.bool b.isNone)) :: T) T') (hg : gdB ops n T gd = true := by rfl) (ht : Nat.blt dd n = true := by rfl) : Cd P n ops S ((⟨some dd, .binOp .eql t x y t2, tt, pos, af, gd⟩, false) :: L) T T' := .p (fun W _ h => y_eqlP h hx hy hu) tl hg ht
theorem Cd.conv {s e : TypeId} {k' : IntKind} {ds : TypeDesc} (hx : evT T x = some (.int k p)) (hs : P.underlying s = some ds) (hd : P.underlying e = some (.int k')) (hr : k'.wrap p = r) (tl : Cd P n ops S L ((dd, (.int k' r)) :: T) T') (hg : gdB ops n T gd = true := by rfl) (ht : Nat.blt dd n = true := by rfl) : Cd P n ops S ((⟨some dd, .convert s e x, tt, pos, af, gd⟩, false) :: L) T T' := .p (fun W _ h => y_conv h hx hs hd hr) tl hg ht
theorem Cd.extract {x : Operand} {vs : Array Value} {i : Nat} {v : Value} (hx : evT T x = some (.tuple vs)) (hv : nthL vs.toList i = some v) (tl : Cd P n ops S L ((dd, v) :: T) T') (hg : gdB ops n T gd = true := by rfl) (ht : Nat.blt dd n = true := by rfl) : Cd P n ops S ((⟨some dd, .extract x i, tt, pos, af, gd⟩, false) :: L) T T' := .p (fun W _ h => y_extract h hx hv) tl hg ht
theorem Cd.nilCheck {x : Operand} {p : Addr} (hx : evT T x = some (.pointer (some p))) (tl : Cd P n ops S L ((dd, (.pointer (some p))) :: T) T') (hg : gdB ops n T gd = true := by rfl) (ht : Nat.blt dd n = true := by rfl) : Cd P n ops S ((⟨some dd, .nilCheck x, tt, pos, af, gd⟩, false) :: L) T T' := .p (fun W _ h => y_nilCheck h hx) tl hg ht
theorem Cd.fieldAddr {t : TypeId} {x : Operand} {i g o : Nat} {fs : Array Field} {f : Field} {s off : Nat} (hx : evT T x = some (.pointer (some ⟨g, o, none⟩))) (hu : P.underlying t = some (.struct fs)) (hf : fs[i]? = some f) (hs : (P.info? f.type).map (·.size) = some (s + 1)) (ho : o + f.offset = off) (tl : Cd P n ops S L ((dd, (.pointer (some ⟨g, off, none⟩))) :: T) T') (hg : gdB ops n T gd = true := by rfl) (ht : Nat.blt dd n = true := by rfl) : Cd P n ops S ((⟨some dd, .fieldAddr t x i, tt, pos, af, gd⟩, false) :: L) T T' := .p (fun W _ h => y_fieldAddr h hx hu hf hs ho) tl hg ht
theorem Cd.fieldAddrQ {t : TypeId} {x : Operand} {i g o : Nat} {fs : Array Field} {f : Field} {s : Nat} (q : Nat) (hx : evT T x = some (.pointer (some ⟨g, o, none⟩))) (hu : P.underlying t = some (.struct fs)) (hf : fs[i]? = some f) (hs : (P.info? f.type).map (·.size) = some (s + 1)) (hq : f.offset = q) (tl : Cd P n ops S L ((dd, (.pointer (some ⟨g, o + q, none⟩))) :: T) T') (hg : gdB ops n T gd = true := by rfl) (ht : Nat.blt dd n = true := by rfl) : Cd P n ops S ((⟨some dd, .fieldAddr t x i, tt, pos, af, gd⟩, false) :: L) T T' := .p (fun W _ h => y_fieldAddrQ h q hx hu hf hs hq) tl hg ht
theorem Cd.build {t : TypeId} {parts : Array (Nat × Operand)} {z cs : List Value} {pl : List (Nat × Value)} (hp : K.evP T parts.toList = some pl) (hz : ((P.info? t).bind (·.zero)).map (·.cells.toList) = some z) (hf : flatS P t z = true) (h1 : pl.all (fun p => decide (p.1 < z.length) && p.2.oneCell') = true) (hc : setL z pl = cs) (tl : Cd P n ops S L ((dd, (.agg cs.toArray)) :: T) T') (hg : gdB ops n T gd = true := by rfl) (ht : Nat.blt dd n = true := by rfl) : Cd P n ops S ((⟨some dd, .build t parts, tt, pos, af, gd⟩, false) :: L) T T' := .p (fun W _ h => y_build h hp hz hf h1 hc) tl hg ht
theorem Cd.loadB1 (m : ∀ W, S W → MemOk X w0 M W) {t : TypeId} {td : TypeDesc} {x : Operand} {i g o : Nat} {e : TypeId} {cs : List Value} {v : Value} (hm : lk M i = some (.box g e cs)) (hx : evT T x = some (.pointer (some ⟨g, o, none⟩))) (hv : cs[o]? = some v) (hu : P.underlying t = some td) (hr : td.isRow = false) (tl : Cd P n ops S L ((dd, v) :: T) T') (hg : gdB ops n T gd = true := by rfl) (ht : Nat.blt dd n = true := by rfl) : Cd P n ops S ((⟨some dd, .load t x, tt, pos, af, gd⟩, true) :: L) T T' := .c (fun W hW _ h => y_loadB1 h (m W hW) hm hx hv hu hr) tl hg ht
theorem Cd.loadBR (m : ∀ W, S W → MemOk X w0 M W) {t : TypeId} {td : TypeDesc} {x : Operand} {i g o k : Nat} {e : TypeId} {cs vs : List Value} (hm : lk M i = some (.box g e cs)) (hx : evT T x = some (.pointer (some ⟨g, o, none⟩))) (hu : P.underlying t = some td) (hr : td.isRow = true) (hs : (P.info? t).map (·.size) = some k) (hk : o + k ≤ cs.length) (hv : (cs.drop o).take k = vs) (tl : Cd P n ops S L ((dd, (.agg vs.toArray)) :: T) T') (hg : gdB ops n T gd = true := by rfl) (ht : Nat.blt dd n = true := by rfl) : Cd P n ops S ((⟨some dd, .load t x, tt, pos, af, gd⟩, true) :: L) T T' := .c (fun W hW _ h => y_loadBR h (m W hW) hm hx hu hr hs hk hv) tl hg ht
theorem Cd.loadC0 (m : ∀ W, S W → MemOk X w0 M W) {t : TypeId} {td : TypeDesc} {x : Operand} {i b o : Nat} {vs : List Value} {v : Value} (hm : lk M i = some (.cel b o (v :: vs))) (hx : evT T x = some (.pointer (some ⟨b, o, none⟩))) (hu : P.underlying t = some td) (hr : td.isRow = false) (tl : Cd P n ops S L ((dd, v) :: T) T') (hg : gdB ops n T gd = true := by rfl) (ht : Nat.blt dd n = true := by rfl) : Cd P n ops S ((⟨some dd, .load t x, tt, pos, af, gd⟩, true) :: L) T T' := .c (fun W hW _ h => y_loadC0 h (m W hW) hm hx hu hr) tl hg ht
theorem Cd.str {s t e : TypeId} {x : Operand} {v : Value} {bs : List Int} (hx : evT T x = some v) (hv : ∀ W, S W → IsNums .u8 W v bs) (hs : P.underlying s = some (.slice e)) (he : P.underlying e = some (.int .u8)) (hd : P.underlying t = some .string) (tl : Cd P n ops S L ((dd, (.string (strOfNums bs))) :: T) T') (hg : gdB ops n T gd = true := by rfl) (ht : Nat.blt dd n = true := by rfl) : Cd P n ops S ((⟨some dd, .convert s t x, tt, pos, af, gd⟩, true) :: L) T T' := .c (fun W hW _ h => y_str h hx (hv W hW) hs he hd) tl hg ht
theorem Cd.loadAt {t : TypeId} {td : TypeDesc} {x : Operand} {b o : Nat} {vs : List Value} (hr : ∀ W, S W → W.rangeAt b o vs) (hx : evT T x = some (.pointer (some ⟨b, o, none⟩))) (hu : P.underlying t = some td) (hd : td.isRow = true) (hs : (P.info? t).map (·.size) = some vs.length) (tl : Cd P n ops S L ((dd, (.agg vs.toArray)) :: T) T') (hg : gdB ops n T gd = true := by rfl) (ht : Nat.blt dd n = true := by rfl) : Cd P n ops S ((⟨some dd, .load t x, tt, pos, af, gd⟩, true) :: L) T T' := .c (fun W hW _ h => y_loadAt h (hr W hW) hx hu hd hs) tl hg ht
theorem Cd.loadX1 {t : TypeId} {td : TypeDesc} {x : Operand} {g o : Nat} {e : TypeId} {cs : List Value} {v : Value} (hB : ∀ W, S W → Blk W g e cs) (hx : evT T x = some (.pointer (some ⟨g, o, none⟩))) (hc : nthL cs o = some v) (hu : P.underlying t = some td) (hd : td.isRow = false) (tl : Cd P n ops S L ((dd, v) :: T) T') (hg : gdB ops n T gd = true := by rfl) (ht : Nat.blt dd n = true := by rfl) : Cd P n ops S ((⟨some dd, .load t x, tt, pos, af, gd⟩, true) :: L) T T' := .c (fun W hW _ h => y_loadX1 h (hB W hW) hx hc hu hd) tl hg ht
theorem Cd.loadXR {t : TypeId} {td : TypeDesc} {x : Operand} {g o k : Nat} {e : TypeId} {cs vs : List Value} (hB : ∀ W, S W → Blk W g e cs) (hx : evT T x = some (.pointer (some ⟨g, o, none⟩))) (hu : P.underlying t = some td) (hd : td.isRow = true) (hs : (P.info? t).map (·.size) = some k) (hk : vs.length = k) (hv : (cs.drop o).take k = vs) (tl : Cd P n ops S L ((dd, (.agg vs.toArray)) :: T) T') (hg : gdB ops n T gd = true := by rfl) (ht : Nat.blt dd n = true := by rfl) : Cd P n ops S ((⟨some dd, .load t x, tt, pos, af, gd⟩, true) :: L) T T' := .c (fun W hW _ h => y_loadXR h (hB W hW) hx hu hd hs hk hv) tl hg ht
theorem Cd.loadAt1 {t : TypeId} {td : TypeDesc} {x : Operand} {b o q q' : Nat} {vs : List Value} {v : Value} (hr : ∀ W, S W → W.rangeAt b o vs) (hx : evT T x = some (.pointer (some ⟨b, q', none⟩))) (hq : q' = o + q) (hv : nthL vs q = some v) (hu : P.underlying t = some td) (hd : td.isRow = false) (tl : Cd P n ops S L ((dd, v) :: T) T') (hg : gdB ops n T gd = true := by rfl) (ht : Nat.blt dd n = true := by rfl) : Cd P n ops S ((⟨some dd, .load t x, tt, pos, af, gd⟩, true) :: L) T T' := .c (fun W hW _ h => y_loadAt1 h (hr W hW) hx hq hv hu hd) tl hg ht
theorem Cd.cap {t e : TypeId} {x : Operand} {p : Option Addr} {l c : Nat} (hx : evT T x = some (.slice p l c)) (hu : P.underlying t = some (.slice e)) (tl : Cd P n ops S L ((dd, (.int .i64 c)) :: T) T') (hg : gdB ops n T gd = true := by rfl) (ht : Nat.blt dd n = true := by rfl) : Cd P n ops S ((⟨some dd, .call { callee := .builtin .cap, args := #[x], argTypes := #[t] }, tt, pos, af, gd⟩, false) :: L) T T' := .p (fun W _ h => y_cap h hx hu) tl hg ht
theorem Cd.loadSV (m : ∀ W, S W → MemOk X w0 M W) {t : TypeId} {td : TypeDesc} {x : Operand} {i g o l c mm : Nat} {e : TypeId} {rows : List (List D)} (hm : lk M i = some (.seg (.slice (some ⟨g, o, none⟩) l c) e mm rows)) (J : Nat) {r : List D} (hr : rows[J]? = some r) {q q' : Nat} {v : Value} (hq : nthL r q = some (.v v)) (hx : evT T x = some (.pointer (some ⟨g, q', none⟩))) (hq' : q' = o + J * mm + q) (hu : P.underlying t = some td) (hd : td.isRow = false) (tl : Cd P n ops S L ((dd, v) :: T) T') (hg : gdB ops n T gd = true := by rfl) (ht : Nat.blt dd n = true := by rfl) : Cd P n ops S ((⟨some dd, .load t x, tt, pos, af, gd⟩, true) :: L) T T' := .c (fun W hW _ h => y_loadSV h (m W hW) hm J hr hq hx hq' hu hd) tl hg ht
end
end
section
section
variable {P : Program} {ops : Array Oper} {Q : Exit → Act → World → Prop} {md : Region.Mode} {listed : Array Bool} {fuel e : Nat} {S : World → Prop} {a : Act} {w : World}
end
end
section
theorem inf5pb : (Tryz.prog.info? 5).map (fun i => (i.zero, i.size, i.bytes)) = some (some (.int .u8 0), 1, 1) := by kernel_rfl
theorem inf3pi : (Tryz.prog.info? 3).map (fun i => (i.zero, i.size, i.bytes)) = some (some (.int .i64 0), 1, 8) := by kernel_rfl
theorem inf62pe : (Tryz.prog.info? 62).map (fun i => (i.zero, i.size, i.bytes)) = some (some (.agg #[.int .i64 0, .int .i64 0, .int .i64 0, .slice none 0 0]), 4, 48) := by kernel_rfl
theorem sz27en : (Tryz.prog.info? 27).map (·.size) = some 1 := by kernel_rfl
theorem sz62en : (Tryz.prog.info? 62).map (·.size) = some 4 := by kernel_rfl
theorem zc62en : ((Tryz.prog.info? 62).bind (·.zero)).map (·.cells.toList) = some [.int .i64 0, .int .i64 0, .int .i64 0, .slice none 0 0] := by kernel_rfl
theorem sz26ba : (Tryz.prog.info? 26).map (·.size) = some 1 := by kernel_rfl
theorem sz27ba : (Tryz.prog.info? 27).map (·.size) = some 1 := by kernel_rfl
theorem sz29ba : (Tryz.prog.info? 29).map (·.size) = some 4 := by kernel_rfl
theorem zc29ba : ((Tryz.prog.info? 29).bind (·.zero)).map (·.cells.toList) = some [.int .i64 0, .int .i64 0, .slice none 0 0, .slice none 0 0] := by kernel_rfl
theorem inf62li : (Tryz.prog.info? 62).map (fun i => (i.zero, i.size, i.bytes)) = some (some (.agg #[.int .i64 0, .int .i64 0, .int .i64 0, .slice none 0 0]), 4, 48) := by kernel_rfl
theorem sz62li : (Tryz.prog.info? 62).map (·.size) = some 4 := by kernel_rfl
theorem zc62li : ((Tryz.prog.info? 62).bind (·.zero)).map (·.cells.toList) = some [.int .i64 0, .int .i64 0, .int .i64 0, .slice none 0 0] := by kernel_rfl
theorem sz62ru : (Tryz.prog.info? 62).map (·.size) = some 4 := by kernel_rfl
theorem zc62ru : ((Tryz.prog.info? 62).bind (·.zero)).map (·.cells.toList) = some [.int .i64 0, .int .i64 0, .int .i64 0, .slice none 0 0] := by kernel_rfl

def entD (e : Int × Int × Int × List Int) : List D := [.v (.int .i64 e.1), .v (.int .i64 e.2.1), .v (.int .i64 e.2.2.1), .ns .u8 e.2.2.2]
abbrev e0 : Int × Int × Int × List Int := (0, 0, 0, [])
theorem ent_get {A : List (Int × Int × Int × List Int)} {k : Nat} {i t q : Int} {d : List Int} (h : A[k]? = some (i, t, q, d)) : (A.map entD)[k]? = some [.v (.int .i64 i), .v (.int .i64 t), .v (.int .i64 q), .ns .u8 d] := by simp [h, entD]
def EntsOk (es : List (Int × Int × Int × List Int)) : Prop := ∀ e ∈ es, e.2.2.2.length ≤ 140737488351232
theorem take_snoc {α : Type} {l : List α} {k : Nat} {x : α} (h : l[k]? = some x) : l.take (k + 1) = l.take k ++ [x] := by
 obtain ⟨hk, e⟩ := List.getElem?_eq_some_iff.1 h
 rw [List.take_succ_eq_append_getElem hk, e]
theorem run_snoc {es : List (Int × Int × Int × List Int)} {pv : Int} {k : Nat} {ei et ek : Int} {ed : List Int} (h : ∀ j, j < k → (es.getD j e0).1 = pv + 1 + j) (hes : es[k]? = some (ei, et, ek, ed)) (he : ei = pv + 1 + k) : ∀ j, j < k + 1 → (es.getD j e0).1 = pv + 1 + j := by
 intro j hj
 rcases Nat.lt_or_ge j k with h1 | h1
 · exact h j h1
 · obtain rfl : j = k := by omega
   rw [List.getD, hes]; exact he
theorem run_stop {es : List (Int × Int × Int × List Int)} {pv : Int} {k : Nat} {ei et ek : Int} {ed : List Int} (hes : es[k]? = some (ei, et, ek, ed)) (he : ¬ ei = pv + 1 + k) : ¬ (es.getD k e0).1 = pv + 1 + k := by rw [List.getD, hes]; exact he
theorem rowNil {N : Nat} {S : Nat → Prop} {w : World} {v : Value} {e : TypeId} {k : Nat} (h : w.ownsRow N e k v 0 []) : RowOk N S w v e k [] := ⟨[], by simpa using h, rfl, by simp, by simp, by simp⟩
set_option maxRecDepth 100000
set_option maxHeartbeats 4000000
theorem infoE : (Tryz.prog.info? 62).map (fun i => (i.zero, i.size, i.bytes)) = some (some (.agg #[.int .i64 0, .int .i64 0, .int .i64 0, .slice none 0 0]), 4, 48) := by kernel_rfl
theorem growE_any (n : Nat) (w : World) (hn : n ≤ 100000000) :
   Calls Tryz.prog 148 #[.slice none 0 0, .int .i64 n] w fun e w' => ∃ p c, e = .returned (.slice p 0 c) ∧ w'.ownsRow w.heap.size 62 4 (.slice p 0 c) 0 [] ∧ Below w.heap.size w w' := by
 by_cases h0 : n = 0
 · subst h0
   go_enter Tryz.func148, Tryz.ntmps148
   go_wp2
   go_ret
   exact ⟨_, _, rfl, World.ownsRow_nil _ _ _ _, Below.refl _ _⟩
 · obtain ⟨i0, hi, hz0, hz1, hz2⟩ := info_parts infoE
   have hbn : n * i0.bytes ≤ 140737488355328 := by rw [hz2]; omega
   obtain ⟨z, hz⟩ : ∃ z : Value, (.agg #[.int .i64 0, .int .i64 0, .int .i64 0, .slice none 0 0]) = z := ⟨_, rfl⟩
   have hzc : z.cells.size = 4 := by rw [← hz]; rfl
   rw [hz] at hz0
   have hrz : ∀ ty, (Builtin.append_ #[30, 3] ty #[.slice none 0 0, .int .i64 (n : Int)]).run Tryz.prog w =
       .ok (.slice (some ⟨w.heap.size, 0, none⟩) n (grownCap w n 0 62)) (w.drew.alloc (.cells (#[] ++ Builtin.zeroCells z.cells n ++ Builtin.zeroCells z.cells (grownCap w n 0 62 - n)) 62)) := fun ty => by
     have h := Lib.run_append_grow_zeros w 30 3 ty 62 i0 z .i64 .i64 Tryz.underlying30 Tryz.underlying3 hi hz0 none 0 0 [] (run_firstCells_none w.drew i0.size 0 0 0) n (by omega) (by omega) (by omega) (by omega) (by omega)
       (by rw [Nat.zero_add]; exact growslice_fits (by omega) hbn)
     rw [Nat.zero_add] at h
     exact h
   have hG := grownCap_ge w n 0 62
   have hM := grownCap_le_maxLen w n 0 62 (by unfold maxLen; omega)
   generalize grownCap w n 0 62 = G at hrz hG hM
   have hown : (w.drew.alloc (.cells (#[] ++ Builtin.zeroCells z.cells n ++ Builtin.zeroCells z.cells (G - n)) 62)).ownsRow w.heap.size 62 4 (.slice (some ⟨w.heap.size, 0, none⟩) 0 G) 0 [] := by
     refine World.ownsRow_made w.drew _ G (Nat.le_refl _) hM ?_
     simp [size_zeroCells, hzc]
     omega
   have hbel : Below w.heap.size w (w.drew.alloc (.cells (#[] ++ Builtin.zeroCells z.cells n ++ Builtin.zeroCells z.cells (G - n)) 62)) := ((Below.refl _ w).drew).alloc (Nat.le_refl _) _
   generalize (w.drew.alloc (.cells (#[] ++ Builtin.zeroCells z.cells n ++ Builtin.zeroCells z.cells (G - n)) 62)) = W' at hrz hown hbel
   have HO := Lib.hid hown
   have HB := Lib.hid hbel
   clear hown hbel hi hz0 hz1 hz2 hz hzc
   unfold maxLen at hM
   go_enter Tryz.func148, Tryz.ntmps148
   go_wp2_with (at_builtin; refine Lib.wpList_append_run _ rfl _ _ _ _ rfl _ _ rfl rfl _ _ (hrz _) ?_)
   all_goals (go_ret; exact ⟨_, _, rfl, HO.out, HB.out⟩)
theorem plainB_any (d : List Int) (p0 : Option Addr) (c0 : Nat) (w0 : World) (h0 : Rd (fun _ => True) w0 (.slice p0 d.length c0) (.ns .u8 d)) (hd : d.length ≤ 140737488351232) :
   Calls Tryz.prog 120 #[.slice p0 d.length c0] w0 fun e w' => ∃ p c, e = .returned (.slice p d.length c) ∧ Rd (New w0) w' (.slice p d.length c) (.ns .u8 d) ∧ Below w0.heap.size w0 w' := by
 refine enter (fn := Tryz.f120) Tryz.func120 rfl Tryz.ntmps120 rfl (fun Az Hz => ?_)
 simp only [List.zipIdx_cons, List.zipIdx_nil, List.map_cons, List.map_nil, Nat.reduceAdd, Nat.zero_add] at Hz
 have m0 := MemOk.start (fun _ => False) w0
 refine regS Hz (.assign rfl <| .nil) ?_
 clear Hz Az; intro Az Hz
 refine wp_seq_k (fun K0 hK0 => ?_)
 refine wp_region_lit ?_
 refine goCh Hz (.move rfl .nil) ?_
 clear Hz Az; intro Az Hz
 refine wpList_plain rfl (fun K hK => ?_)
 refine e_app0M Hz m0 2 rfl rfl (h0.now' m0 rfl).ns_out.nums Tryz.underlying27 inf5pb (by decide) (by omega) rfl ?_
 clear Hz Az m0; intro p4 c4 Az w5 Hz m5
 refine hK _ _ ?_; clear hK K
 refine goCh Hz (.assign rfl .nil) ?_
 clear Hz Az; intro Az Hz
 refine wpList_nil ?_
 refine hK0 _ _ ?_; clear hK0; try clear K0
 refine wp_ret ?_
 try dsimp only [Exit.then, Exit.inBlock]
 refine (ret1 (fn := Tryz.f120) Hz rfl rfl ?_)
 have m7 := m5.freezeN 2 rfl; clear m5
 exact ⟨_, _, rfl, m7.outF (i := 2) rfl, m7.below⟩
theorem plainI_any (d : List Int) (p0 : Option Addr) (c0 : Nat) (w0 : World) (h0 : Rd (fun _ => True) w0 (.slice p0 d.length c0) (.ns .i64 d)) (hd : d.length ≤ 1000000) :
   Calls Tryz.prog 41 #[.slice p0 d.length c0] w0 fun e w' => ∃ p c, e = .returned (.slice p d.length c) ∧ Rd (New w0) w' (.slice p d.length c) (.ns .i64 d) ∧ Below w0.heap.size w0 w' := by
 refine enter (fn := Tryz.f41) Tryz.func41 rfl Tryz.ntmps41 rfl (fun Az Hz => ?_)
 simp only [List.zipIdx_cons, List.zipIdx_nil, List.map_cons, List.map_nil, Nat.reduceAdd, Nat.zero_add] at Hz
 have m0 := MemOk.start (fun _ => False) w0
 refine regS Hz (.assign rfl <| .nil) ?_
 clear Hz Az; intro Az Hz
 refine wp_seq_k (fun K0 hK0 => ?_)
 refine wp_region_lit ?_
 refine goCh Hz (.move rfl .nil) ?_
 clear Hz Az; intro Az Hz
 refine wpList_plain rfl (fun K hK => ?_)
 refine e_app0N Hz m0 2 rfl rfl (h0.now' m0 rfl).ns_out.nums Tryz.underlying26 inf3pi (by decide) (by omega) rfl ?_
 clear Hz Az m0; intro p4 c4 Az w5 Hz m5
 refine hK _ _ ?_; clear hK K
 refine goCh Hz (.assign rfl .nil) ?_
 clear Hz Az; intro Az Hz
 refine wpList_nil ?_
 refine hK0 _ _ ?_; clear hK0; try clear K0
 refine wp_ret ?_
 try dsimp only [Exit.then, Exit.inBlock]
 refine (ret1 (fn := Tryz.f41) Hz rfl rfl ?_)
 have m7 := m5.freezeN 2 rfl; clear m5
 exact ⟨_, _, rfl, m7.outF (i := 2) rfl, m7.below⟩
theorem plainE_fr (X : Cx) (rows : List (List D)) (v0 : Value) (w0 : World) (hn : rows.length ≤ 1000000) (m0 : MemOk X w0 [(1, .seg v0 62 4 rows)] w0) :
   Calls Tryz.prog 121 #[v0] w0 fun e w' => ∃ p c, e = .returned (.slice p rows.length c) ∧ MemOk X w0 [(1, .seg v0 62 4 rows), (2, .seg (.slice p rows.length c) 62 4 rows)] w' := by
 refine enter (fn := Tryz.f121) Tryz.func121 rfl Tryz.ntmps121 rfl (fun Az Hz => ?_)
 simp only [List.zipIdx_cons, List.zipIdx_nil, List.map_cons, List.map_nil, Nat.reduceAdd, Nat.zero_add] at Hz
 refine regS Hz (.assign rfl <| .nil) ?_
 clear Hz Az; intro Az Hz
 refine wp_seq_k (fun K0 hK0 => ?_)
 refine wp_region_lit ?_
 refine goCh Hz (.move rfl .nil) ?_
 clear Hz Az; intro Az Hz
 have m4 := m0.nilS 2 62 4; clear m0
 refine wpList_plain rfl (fun K hK => ?_)
 refine e_appSA Hz m4 2 rfl rfl rfl (m4.srcS (i := 1) rfl) Tryz.underlying30 inf62pe rfl rfl (by decide) (by simp; omega) rfl ?_
 clear Hz Az m4; intro p5 c5 Az w6 Hz m6
 refine hK _ _ ?_; clear hK K
 refine goCh Hz (.assign rfl .nil) ?_
 clear Hz Az; intro Az Hz
 refine wpList_nil ?_
 refine hK0 _ _ ?_; clear hK0; try clear K0
 refine wp_ret ?_
 try dsimp only [Exit.then, Exit.inBlock]
 refine (ret1 (fn := Tryz.f121) Hz rfl rfl ?_)
 rw [List.nil_append] at m6
 exact ⟨_, _, rfl, m6.ren [(1, 1), (2, 2)] (by decide)⟩
theorem entry_any (ei et ek : Int) (d : List Int) (p0 : Option Addr) (c0 : Nat) (w0 : World) (h0 : Rd (fun _ => True) w0 (.slice p0 d.length c0) (.ns .u8 d)) (hd : d.length ≤ 140737488351232) :
   Calls Tryz.prog 119 #[.agg #[.int .i64 ei, .int .i64 et, .int .i64 ek, .slice p0 d.length c0]] w0 fun e w' => ∃ p c, e = .returned (.agg #[.int .i64 ei, .int .i64 et, .int .i64 ek, .slice p d.length c]) ∧ Rd (New w0) w' (.slice p d.length c) (.ns .u8 d) ∧ Below w0.heap.size w0 w' := by
 refine enter (fn := Tryz.f119) Tryz.func119 rfl Tryz.ntmps119 rfl (fun Az Hz => ?_)
 simp only [List.zipIdx_cons, List.zipIdx_nil, List.map_cons, List.map_nil, Nat.reduceAdd, Nat.zero_add] at Hz
 have m0 := MemOk.start (fun _ => False) w0
 refine wp_seq_k (fun K0 hK0 => ?_)
 refine wp_region_lit ?_
 refine wpList_plain rfl (fun K hK => ?_)
 refine e_box Hz m0 2 (cs := [_, _, _, _]) rfl rfl rfl ?_
 clear Hz Az m0; intro g1 Az w2 Hz m2 hB2 hg2
 clear hB2 hg2
 refine hK _ _ ?_; clear hK K
 refine wpList_plain rfl (fun K hK => ?_)
 refine e_alloc Hz m2 3 zc62en rfl ?_
 clear Hz Az m2; intro g3 Az w4 Hz m4 hB4 hg4
 clear hB4 hg4
 refine hK _ _ ?_; clear hK K
 refine wpList_nil ?_
 refine hK0 _ _ ?_; clear hK0; try clear K0
 refine wp_seq_k (fun K1 hK1 => ?_)
 refine wp_region_lit ?_
 refine goCh Hz (.fieldAddr (off := 3) rfl Tryz.underlying62 rfl (s := 0) (by kernel_rfl) rfl <| .loadB1 m4 (i := 2) rfl rfl rfl Tryz.underlying27 rfl <| .nil) ?_
 clear Hz Az; intro Az Hz
 refine wpList_plain rfl (fun K hK => ?_)
 refine e_call Hz Tryz.func120 rfl rfl rfl rfl (plainB_any d _ _ _ ((h0.now' m4 rfl).any) hd) ?_
 rintro e w9 ⟨p9, c9, rfl, hd9, hb9⟩
 have m10 := m4.callF 4 rfl hb9 hd9
 clear m4
 clear hb9 hd9
 refine ⟨_, rfl, ?_⟩; clear Hz Az; intro Az Hz
 refine hK _ _ ?_; clear hK K
 refine goCh Hz (.fieldAddr (off := 3) rfl Tryz.underlying62 rfl (s := 0) (by kernel_rfl) rfl .nil) ?_
 clear Hz Az; intro Az Hz
 refine wpList_plain rfl (fun K hK => ?_)
 refine e_store1 Hz m10 2 rfl rfl rfl rfl rfl sz27en (by dsimp only [List.set] <;> rfl) ?_
 clear m10; intro w13 m13 hB13
 clear hB13
 refine hK _ _ ?_; clear hK K
 refine wpList_nil ?_
 refine hK1 _ _ ?_; clear hK1; try clear K1
 refine wp_seq_k (fun K2 hK2 => ?_)
 refine wp_region_lit ?_
 refine goCh Hz (.loadBR m13 (i := 2) rfl rfl Tryz.underlying62 rfl sz62en (by simp) (by dsimp only [List.drop, List.take] <;> rfl) .nil) ?_
 clear Hz Az; intro Az Hz
 refine wpList_plain rfl (fun K hK => ?_)
 refine e_storeW Hz m13 3 rfl rfl rfl rfl rfl sz62en ?_
 clear m13; intro w16 m16 hB16
 clear hB16
 refine hK _ _ ?_; clear hK K
 refine wpList_nil ?_
 refine hK2 _ _ ?_; clear hK2; try clear K2
 refine wp_ret ?_
 try dsimp only [Exit.then, Exit.inBlock]
 refine (retC (fn := Tryz.f119) Hz m16 (i := 3) rfl rfl rfl Tryz.underlying62 rfl sz62en ?_)
 exact ⟨_, _, rfl, m16.outF (i := 4) rfl, m16.below⟩
theorem base_any (bi bt : Int) (cf d : List Int) (pc p0 : Option Addr) (cc c0 : Nat) (w0 : World) (hc : Rd (fun _ => True) w0 (.slice pc cf.length cc) (.ns .i64 cf)) (h0 : Rd (fun _ => True) w0 (.slice p0 d.length c0) (.ns .u8 d)) (hcf : cf.length ≤ 1000000) (hd : d.length ≤ 140737488351232) :
   Calls Tryz.prog 81 #[.agg #[.int .i64 bi, .int .i64 bt, .slice pc cf.length cc, .slice p0 d.length c0]] w0 fun e w' => ∃ p c q b, e = .returned (.agg #[.int .i64 bi, .int .i64 bt, .slice p cf.length c, .slice q d.length b]) ∧ Rd (New w0) w' (.slice p cf.length c) (.ns .i64 cf) ∧ Rd (New w0) w' (.slice q d.length b) (.ns .u8 d) ∧ Below w0.heap.size w0 w' := by
 refine enter (fn := Tryz.f81) Tryz.func81 rfl Tryz.ntmps81 rfl (fun Az Hz => ?_)
 simp only [List.zipIdx_cons, List.zipIdx_nil, List.map_cons, List.map_nil, Nat.reduceAdd, Nat.zero_add] at Hz
 have m0 := MemOk.start (fun _ => False) w0
 refine wp_seq_k (fun K0 hK0 => ?_)
 refine wp_region_lit ?_
 refine wpList_plain rfl (fun K hK => ?_)
 refine e_box Hz m0 3 (cs := [_, _, _, _]) rfl rfl rfl ?_
 clear Hz Az m0; intro g1 Az w2 Hz m2 hB2 hg2
 clear hB2 hg2
 refine hK _ _ ?_; clear hK K
 refine wpList_plain rfl (fun K hK => ?_)
 refine e_alloc Hz m2 4 zc29ba rfl ?_
 clear Hz Az m2; intro g3 Az w4 Hz m4 hB4 hg4
 clear hB4 hg4
 refine hK _ _ ?_; clear hK K
 refine wpList_nil ?_
 refine hK0 _ _ ?_; clear hK0; try clear K0
 refine wp_seq_k (fun K1 hK1 => ?_)
 have m5 : MemOk _ _ [(3, _), (4, _)] _ := m4.only [3, 4]; clear m4
 refine region_p 7 (B := [(3, _), (4, _)]) (m5.to ⟨il, il, trivial⟩) m5 (by kernel_rfl) (fun w6 hP6 m6 => ?_); clear m5
 refine goR hP6 [0, 1, 3, 4] [1, 4] 4 0 27 Hz (m6.to ⟨il, il, trivial⟩) (.fieldAddr (off := 2) rfl Tryz.underlying29 rfl (s := 0) (by kernel_rfl) rfl <| .loadB1 hh (i := 3) rfl rfl rfl Tryz.underlying26 rfl <| .fieldAddr (off := 3) rfl Tryz.underlying29 rfl (s := 0) (by kernel_rfl) rfl <| .loadB1 hh (i := 3) rfl rfl rfl Tryz.underlying27 rfl <| .nil) ?_
 clear Hz Az; intro Az Hz
 refine stepE_only 2 rfl (by kernel_rfl) rfl (fun K hK => ?_)
 refine e_call Hz Tryz.func41 rfl rfl rfl rfl (plainI_any cf _ _ _ ((hc.now' m6 rfl).any) hcf) ?_
 rintro e w11 ⟨p11, c11, rfl, hd11, hb11⟩
 have m12 := m6.callF 5 rfl hb11 hd11
 clear m6
 clear hb11 hd11
 refine ⟨_, rfl, ?_⟩; clear Hz Az; intro Az Hz
 refine hK _ _ (m12.to ⟨il, il, trivial⟩) ?_; clear hK K
 refine goA hP6 [6] 1 31 95 Hz (m12.to ⟨il, il, trivial⟩) (.fieldAddr (off := 2) rfl Tryz.underlying29 rfl (s := 0) (by kernel_rfl) rfl <| .nil) ?_
 clear Hz Az; intro Az Hz
 refine stepE_only 5 rfl (by kernel_rfl) rfl (fun K hK => ?_)
 refine e_call Hz Tryz.func120 rfl rfl rfl rfl (plainB_any d _ _ _ ((h0.now' m12 rfl).any) hd) ?_
 rintro e w15 ⟨p15, c15, rfl, hd15, hb15⟩
 have m16 := m12.callF 6 rfl hb15 hd15
 clear m12
 clear hb15 hd15
 refine ⟨_, rfl, ?_⟩; clear Hz Az; intro Az Hz
 refine hK _ _ (m16.to ⟨il, il, trivial⟩) ?_; clear hK K
 refine stepE_end 7 rfl (by kernel_rfl) rfl (by rfl) (fun K hK => ?_)
 refine e_store1 Hz m16 3 rfl rfl rfl rfl rfl sz26ba (by dsimp only [List.set] <;> rfl) ?_
 clear m16; intro w18 m18 hB18
 clear hB18
 refine hK _ _ ?_; clear hK K
 refine goB hP6 [8] 1 255 511 Hz (.fieldAddr (off := 3) rfl Tryz.underlying29 rfl (s := 0) (by kernel_rfl) rfl <| .nil) ?_
 clear Hz Az; intro Az Hz
 refine stepE_end 9 rfl (by kernel_rfl) rfl (by rfl) (fun K hK => ?_)
 refine e_store1 Hz m18 3 rfl rfl rfl rfl rfl sz27ba (by dsimp only [List.set] <;> rfl) ?_
 clear m18; intro w20 m20 hB20
 clear hB20
 refine hK _ _ ?_; clear hK K
 refine wpAnyE_done (by kernel_rfl) ?_ _
 refine hK1 _ _ ?_; clear hK1; try clear K1
 replace Hz : Has 12 [(1, _), (2, _)] Az := Hz.only [1, 2]
 refine wp_seq_k (fun K2 hK2 => ?_)
 refine wp_region_lit ?_
 refine goCh Hz (.loadBR m20 (i := 3) rfl rfl Tryz.underlying29 rfl sz29ba (by simp) (by dsimp only [List.drop, List.take] <;> rfl) .nil) ?_
 clear Hz Az; intro Az Hz
 refine wpList_plain rfl (fun K hK => ?_)
 refine e_storeW Hz m20 4 rfl rfl rfl rfl rfl sz29ba ?_
 clear m20; intro w24 m24 hB24
 clear hB24
 refine hK _ _ ?_; clear hK K
 refine wpList_nil ?_
 refine hK2 _ _ ?_; clear hK2; try clear K2
 refine wp_ret ?_
 try dsimp only [Exit.then, Exit.inBlock]
 refine (retC (fn := Tryz.f81) Hz m24 (i := 4) rfl rfl rfl Tryz.underlying29 rfl sz29ba ?_)
 exact ⟨_, _, _, _, rfl, m24.outF (i := 5) rfl, m24.outF (i := 6) rfl, m24.below⟩
theorem list_any (es : List (Int × Int × Int × List Int)) (p0 : Option Addr) (c0 nn : Nat) (w0 : World) (h0 : Rd (fun _ => True) w0 (.slice p0 nn c0) (.l 4 (es.map entD))) (hl : es.length ≤ 1000000) (hok : EntsOk es) :
   Calls Tryz.prog 118 #[.slice p0 nn c0, .func (.func 119) #[] #[]] w0 fun e w' => ∃ p c, e = .returned (.slice p (es.map entD).length c) ∧ Rd (New w0) w' (.slice p (es.map entD).length c) (.l 4 (es.map entD)) ∧ Below w0.heap.size w0 w' := by
 obtain rfl : nn = es.length := by obtain ⟨pq, cq, hv, _⟩ := h0.l_shape; injection hv with _ e2 _; rw [List.length_map] at e2; exact e2
 refine enter (fn := Tryz.f118) Tryz.func118 rfl Tryz.ntmps118 rfl (fun Az Hz => ?_)
 simp only [List.zipIdx_cons, List.zipIdx_nil, List.map_cons, List.map_nil, Nat.reduceAdd, Nat.zero_add] at Hz
 have m0 := MemOk.start (fun _ => False) w0
 refine regS Hz (.assign rfl <| .nil) ?_
 clear Hz Az; intro Az Hz
 refine wp_seq_k (fun K0 hK0 => ?_)
 refine wp_region_lit ?_
 refine goCh Hz (.move rfl <| .len rfl Tryz.underlying30 <| .nil) ?_
 clear Hz Az; intro Az Hz
 refine wpList_plain rfl (fun K hK => ?_)
 refine e_call Hz Tryz.func148 rfl rfl rfl rfl (growE_any _ _ (by omega)) ?_
 rintro e w6 ⟨p6, c6, rfl, ho6, hb6⟩
 have m7 := m0.newR 3 hb6 (rowNil ho6)
 clear m0
 clear hb6 ho6
 refine ⟨_, rfl, ?_⟩; clear Hz Az; intro Az Hz
 refine hK _ _ ?_; clear hK K
 refine goCh Hz (.assign rfl .nil) ?_
 clear Hz Az; intro Az Hz
 refine wpList_nil ?_
 refine hK0 _ _ ?_; clear hK0; try clear K0
 refine wp_seq_k (fun K1 hK1 => ?_)
 refine regS Hz (.move rfl <| .len rfl Tryz.underlying30 <| .move rfl <| .nil) ?_
 clear Hz Az; intro Az Hz
 refine wp_block ?_
 refine wp_loop_ghost (fun g a w => ∃ (k : Nat) (p : Option Addr) (c : Nat), k ≤ es.length ∧ g = es.length - k ∧ Has 25 [(1, .func (.func 119) #[] #[]), (5, .slice p ((es.take k).map entD).length c), (11, .slice p0 es.length c0), (12, .int .i64 es.length), (13, .int .i64 k)] a ∧ MemOk (cn w0) w0 [(3, .row (.slice p ((es.take k).map entD).length c) 62 4 ((es.take k).map entD))] w) (es.length) ?_ ?_
 · exact ⟨0, _, _, Nat.zero_le _, rfl, Hz.only [1, 5, 11, 12, 13], m7.only [3]⟩
 ·
  clear Hz m7
  rintro g Az w13 ⟨k, p, c, hkl, hg, Hz, m13⟩
  refine regS Hz (.lss rfl rfl <| .nil) ?_
  clear Hz Az; intro Az Hz
  refine wp_seq_k (fun K2 hK2 => ?_)
  refine bool_cases Hz (t := 14) rfl ?_ ?_
  ·
   clear Hz; intro hb15 Hz
   try simp only [Q1x, Q2x, Q3x, Q4x, Q5x, Q6x, Q7x, Q8x, Q9x, Q0x, Qax, Qbx] at hb15
   have hk : k < es.length := by omega
   obtain ⟨⟨ei, et, ek, ed⟩, hes⟩ : ∃ e, es[k]? = some e := ⟨_, List.getElem?_eq_getElem hk⟩
   have hed := hok _ (List.mem_of_getElem? hes)
   dsimp only at hed
   refine wp_cond_true (Hz.ev (x := .tmp 14) rfl) ?_
   refine wp_skip ?_
   refine hK2 _ _ ?_; clear hK2; try clear K2
   refine wp_seq_k (fun K3 hK3 => ?_)
   refine wp_block ?_
   refine wp_seq_k (fun K4 hK4 => ?_)
   refine wp_region_lit ?_
   obtain ⟨gx17, ox17, vx17, hp17, hl17, hR17, hrg17⟩ := h0.extA (k) (r := [.v (.int .i64 ei), .v (.int .i64 et), .v (.int .i64 ek), .ns .u8 ed]) (ent_get hes)
   cases hp17; clear hl17
   rcases hR17 with _ | ⟨hd17_0, _ | ⟨hd17_1, _ | ⟨hd17_2, _ | ⟨hd17_3, _ | _⟩⟩⟩⟩
   obtain rfl := hd17_0.v_out
   clear hd17_0
   obtain rfl := hd17_1.v_out
   clear hd17_1
   obtain rfl := hd17_2.v_out
   clear hd17_2
   obtain ⟨p18, c18, hv18, hw18⟩ := hd17_3.ns_shape; subst hv18
   refine goCh Hz (.c rfl (fun _ h_ => y_idx h_ rfl rfl Tryz.underlying30 sz62li (k) rfl hk) <| .loadAt (hrg17 m13 rfl) rfl Tryz.underlying62 rfl sz62li <| .nil) ?_
   clear Hz Az; intro Az Hz
   refine wpList_plain rfl (fun K hK => ?_)
   refine e_alloc Hz m13 101 zc62li rfl ?_
   clear Hz Az m13; intro g21 Az w22 Hz m22 hB22 hg22
   clear hB22 hg22
   refine hK _ _ ?_; clear hK K
   refine wpList_plain rfl (fun K hK => ?_)
   refine e_storeW Hz m22 101 rfl rfl rfl rfl rfl sz62li ?_
   clear m22; intro w23 m23 hB23
   clear hB23
   refine hK _ _ ?_; clear hK K
   refine wpList_nil ?_
   refine hK4 _ _ ?_; clear hK4; try clear K4
   refine wp_region_lit ?_
   refine goCh Hz (.move rfl <| .move rfl <| .loadBR m23 (i := 101) rfl rfl Tryz.underlying62 rfl sz62li (by simp) (by dsimp only [List.drop, List.take] <;> rfl) <| .nil) ?_
   clear Hz Az; intro Az Hz
   refine wpList_plain rfl (fun K hK => ?_)
   refine e_callV Hz rfl Tryz.func119 rfl rfl rfl rfl (entry_any _ _ _ ed _ _ _ ((hd17_3.now' m23 rfl).any) hed) ?_
   rintro e w27 ⟨p27, c27, rfl, hd27, hb27⟩
   have m28 := m23.callF 102 rfl hb27 hd27
   clear m23
   clear hb27 hd27
   refine ⟨_, rfl, ?_⟩; clear Hz Az; intro Az Hz
   refine hK _ _ ?_; clear hK K
   refine wpList_plain rfl (fun K hK => ?_)
   refine e_litR Hz m28 103 (mm := 4) rfl (.cons rfl rfl (.cons (.v _) (.cons (.v _) (.cons (.v _) (.cons (m28.rd (i := 102) rfl) .nil)))) <| .nil) Tryz.underlying30 inf62li rfl rfl rfl rfl rfl ?_
   clear Hz Az m28; intro g30 Az w31 Hz m31
   refine hK _ _ ?_; clear hK K
   have m33 := m31.freezeR 103 rfl; clear m31
   refine wpList_plain rfl (fun K hK => ?_)
   refine e_appR Hz m33 3 rfl rfl rfl (m33.rd (i := 103) rfl) Tryz.underlying30 inf62li rfl rfl (by decide) (by simp; omega) rfl ?_
   clear Hz Az m33; intro p32 c32 Az w34 Hz m34
   refine hK _ _ ?_; clear hK K
   refine goCh Hz (.assign rfl .nil) ?_
   clear Hz Az; intro Az Hz
   refine wpList_nil ?_
   refine hK3 _ _ ?_; clear hK3; try clear K3
   replace Hz : Has 25 [(1, _), (5, _), (11, _), (12, _), (13, _)] Az := Hz.only [1, 5, 11, 12, 13]
   refine wp_region_lit ?_
   refine goCh Hz (.add rfl rfl (r := ((k + 1 : Nat) : Int)) (by rw [IntWalk.i64_in _ (by omega)]; omega) <| .move rfl <| .nil) ?_
   clear Hz Az; intro Az Hz
   refine wpList_nil ?_
   show ∃ n', n' < _ ∧ _
   have hE : (es.take k).map entD ++ [[D.v (.int .i64 ei), .v (.int .i64 et), .v (.int .i64 ek), .ns .u8 ed]] = (es.take (k + 1)).map entD := by rw [take_snoc hes, List.map_append]; rfl
   rw [hE] at m34 Hz
   exact ⟨es.length - (k + 1), by omega, k + 1, _, _, by omega, rfl, Hz.only [1, 5, 11, 12, 13], m34.only [3]⟩
  ·
   clear Hz; intro hb15 Hz
   try simp only [Q1x, Q2x, Q3x, Q4x, Q5x, Q6x, Q7x, Q8x, Q9x, Q0x, Qax, Qbx] at hb15
   obtain rfl : k = es.length := by omega
   refine wp_cond_false (Hz.ev (x := .tmp 14) rfl) ?_
   refine wp_exit ?_
   refine hK1 _ _ ?_; clear hK1; try clear K1
   refine regS Hz (.move rfl <| .assign rfl <| .nil) ?_
   clear Hz Az; intro Az Hz
   refine wp_ret ?_
   try dsimp only [Exit.then, Exit.inBlock]
   refine (ret1 (fn := Tryz.f118) Hz rfl rfl ?_)
   rw [List.take_length] at *
   have m41 := m13.freezeR 3 rfl; clear m13
   exact ⟨_, _, rfl, m41.outF (i := 3) rfl, m41.below⟩
theorem run_any (pv : Int) (es : List (Int × Int × Int × List Int)) (p0 : Option Addr) (c0 nn : Nat) (w0 : World) (h0 : Rd (fun _ => True) w0 (.slice p0 nn c0) (.l 4 (es.map entD))) (hl : es.length ≤ 1000000) (hp : -2000000000000000000 ≤ pv ∧ pv ≤ 2000000000000000000) :
   Calls Tryz.prog 123 #[.int .i64 pv, .slice p0 nn c0] w0 fun e w' => ∃ k : Nat, e = .returned (.slice p0 k c0) ∧ k ≤ es.length ∧ (∀ j, j < k → (es.getD j e0).1 = pv + 1 + j) ∧ (k = es.length ∨ (k < es.length ∧ ¬ (es.getD k e0).1 = pv + 1 + k)) ∧ Below w0.heap.size w0 w' := by
 obtain rfl : nn = es.length := by obtain ⟨pq, cq, hv, _⟩ := h0.l_shape; injection hv with _ e2 _; rw [List.length_map] at e2; exact e2
 refine enter (fn := Tryz.f123) Tryz.func123 rfl Tryz.ntmps123 rfl (fun Az Hz => ?_)
 simp only [List.zipIdx_cons, List.zipIdx_nil, List.map_cons, List.map_nil, Nat.reduceAdd, Nat.zero_add] at Hz
 have m0 := MemOk.start (fun _ => False) w0
 have hcap : es.length ≤ c0 := by obtain ⟨pq, cq, hv, hcap⟩ := h0.l_shape; injection hv with _ _ e3; rw [List.length_map] at hcap; omega
 refine regS Hz (.assign rfl <| .nil) ?_
 clear Hz Az; intro Az Hz
 refine wp_seq_k (fun K0 hK0 => ?_)
 refine regS Hz (.move rfl <| .len rfl Tryz.underlying30 <| .move rfl <| .nil) ?_
 clear Hz Az; intro Az Hz
 refine wp_block ?_
 refine wp_loop_ghost (fun g a w => ∃ k : Nat, k ≤ es.length ∧ g = es.length - k ∧ (∀ j, j < k → (es.getD j e0).1 = pv + 1 + j) ∧ Has 26 [(0, .int .i64 pv), (1, .slice p0 es.length c0), (7, .slice p0 es.length c0), (8, .int .i64 es.length), (9, .int .i64 k)] a ∧ MemOk (cn w0) w0 [] w) (es.length) ?_ ?_
 · exact ⟨0, Nat.zero_le _, rfl, (fun j hj => by omega), Hz.only [0, 1, 7, 8, 9], m0.only []⟩
 ·
  clear Hz m0
  rintro g Az w5 ⟨k, hkl, hg, hrun, Hz, m5⟩
  refine regS Hz (.lss rfl rfl <| .nil) ?_
  clear Hz Az; intro Az Hz
  refine wp_seq_k (fun K1 hK1 => ?_)
  refine bool_cases Hz (t := 10) rfl ?_ ?_
  ·
   clear Hz; intro hb7 Hz
   try simp only [Q1x, Q2x, Q3x, Q4x, Q5x, Q6x, Q7x, Q8x, Q9x, Q0x, Qax, Qbx] at hb7
   have hk : k < es.length := by omega
   obtain ⟨⟨ei, et, ek, ed⟩, hes⟩ : ∃ e, es[k]? = some e := ⟨_, List.getElem?_eq_getElem hk⟩
   refine wp_cond_true (Hz.ev (x := .tmp 10) rfl) ?_
   refine wp_skip ?_
   refine hK1 _ _ ?_; clear hK1; try clear K1
   refine wp_seq_k (fun K2 hK2 => ?_)
   refine wp_block ?_
   refine wp_seq_k (fun K3 hK3 => ?_)
   refine wp_region_lit ?_
   refine goCh Hz (.move rfl .nil) ?_
   clear Hz Az; intro Az Hz
   obtain ⟨gx11, ox11, vx11, hp11, hl11, hR11, hrg11⟩ := h0.extA (k) (r := [.v (.int .i64 ei), .v (.int .i64 et), .v (.int .i64 ek), .ns .u8 ed]) (ent_get hes)
   cases hp11; clear hl11
   rcases hR11 with _ | ⟨hd11_0, _ | ⟨hd11_1, _ | ⟨hd11_2, _ | ⟨hd11_3, _ | _⟩⟩⟩⟩
   obtain rfl := hd11_0.v_out
   clear hd11_0
   obtain rfl := hd11_1.v_out
   clear hd11_1
   obtain rfl := hd11_2.v_out
   clear hd11_2
   obtain ⟨p12, c12, hv12, hw12⟩ := hd11_3.ns_shape; subst hv12
   refine goCh Hz (.c rfl (fun _ h_ => y_idx h_ rfl rfl Tryz.underlying30 sz62ru (k) rfl hk) <| .loadAt (hrg11 m5 rfl) rfl Tryz.underlying62 rfl sz62ru <| .nil) ?_
   clear Hz Az; intro Az Hz
   refine wpList_plain rfl (fun K hK => ?_)
   refine e_alloc Hz m5 101 zc62ru rfl ?_
   clear Hz Az m5; intro g15 Az w16 Hz m16 hB16 hg16
   clear hB16 hg16
   refine hK _ _ ?_; clear hK K
   refine goCh Hz (.assign rfl .nil) ?_
   clear Hz Az; intro Az Hz
   refine wpList_plain rfl (fun K hK => ?_)
   refine e_storeW Hz m16 101 rfl rfl rfl rfl rfl sz62ru ?_
   clear m16; intro w18 m18 hB18
   clear hB18
   refine hK _ _ ?_; clear hK K
   refine wpList_nil ?_
   refine hK3 _ _ ?_; clear hK3; try clear K3
   refine regS Hz (.fieldAddr (off := 0) rfl Tryz.underlying62 rfl (s := 0) (by kernel_rfl) rfl <| .loadB1 m18 (i := 101) rfl rfl rfl Tryz.underlying3 rfl <| .move rfl <| .add rfl rfl (r := pv + 1) (IntWalk.i64_in _ (by omega)) <| .move rfl <| .add rfl rfl (r := pv + 1 + k) (IntWalk.i64_in _ (by omega)) <| .neq rfl rfl <| .nil) ?_
   clear Hz Az; intro Az Hz
   refine bool_cases Hz (t := 20) rfl ?_ ?_
   ·
    clear Hz; intro hb26 Hz
    try simp only [Q1x, Q2x, Q3x, Q4x, Q5x, Q6x, Q7x, Q8x, Q9x, Q0x, Qax, Qbx] at hb26
    refine wp_cond_true (Hz.ev (x := .tmp 20) rfl) ?_
    replace Hz : Has 26 [(0, _), (1, _), (7, _), (8, _), (9, _), (5, _), (20, _)] Az := Hz.only [0, 1, 7, 8, 9, 5, 20]
    refine regS Hz (.move rfl <| .move rfl <| .c rfl (fun _ h_ => y_sliceHn h_ k rfl rfl Tryz.underlying30 sz62ru rfl (by omega)) <| .assign rfl <| .nil) ?_
    clear Hz Az; intro Az Hz
    refine wp_ret ?_
    try dsimp only [Exit.then, Exit.inBlock]
    refine (ret1 (fn := Tryz.f123) Hz rfl rfl ?_)
    exact ⟨k, rfl, hkl, hrun, .inr ⟨hk, run_stop hes (by simpa using hb26)⟩, m18.below⟩
   ·
    clear Hz; intro hb26 Hz
    try simp only [Q1x, Q2x, Q3x, Q4x, Q5x, Q6x, Q7x, Q8x, Q9x, Q0x, Qax, Qbx] at hb26
    refine wp_cond_false (Hz.ev (x := .tmp 20) rfl) ?_
    refine wp_skip ?_
    refine hK2 _ _ ?_; clear hK2; try clear K2
    replace Hz : Has 26 [(0, _), (1, _), (7, _), (8, _), (9, _), (20, _)] Az := Hz.only [0, 1, 7, 8, 9, 20]
    refine wp_region_lit ?_
    refine goCh Hz (.add rfl rfl (r := ((k + 1 : Nat) : Int)) (by rw [IntWalk.i64_in _ (by omega)]; omega) <| .move rfl <| .nil) ?_
    clear Hz Az; intro Az Hz
    refine wpList_nil ?_
    show ∃ n', n' < _ ∧ _
    exact ⟨es.length - (k + 1), by omega, k + 1, by omega, rfl, run_snoc hrun hes (by simpa using hb26), Hz.only [0, 1, 7, 8, 9], m18.only []⟩
  ·
   clear Hz; intro hb7 Hz
   try simp only [Q1x, Q2x, Q3x, Q4x, Q5x, Q6x, Q7x, Q8x, Q9x, Q0x, Qax, Qbx] at hb7
   obtain rfl : k = es.length := by omega
   refine wp_cond_false (Hz.ev (x := .tmp 10) rfl) ?_
   refine wp_exit ?_
   refine hK0 _ _ ?_; clear hK0; try clear K0
   refine regS Hz (.move rfl <| .assign rfl <| .nil) ?_
   clear Hz Az; intro Az Hz
   refine wp_ret ?_
   try dsimp only [Exit.then, Exit.inBlock]
   refine (ret1 (fn := Tryz.f123) Hz rfl rfl ?_)
   exact ⟨es.length, rfl, Nat.le_refl _, hrun, .inl rfl, m5.below⟩
end
section
theorem sz62te : (Tryz.prog.info? 62).map (·.size) = some 4 := by kernel_rfl
theorem sz62fr : (Tryz.prog.info? 62).map (·.size) = some 4 := by kernel_rfl
theorem sz29lb : (Tryz.prog.info? 29).map (·.size) = some 4 := by kernel_rfl
theorem zc29lb : ((Tryz.prog.info? 29).bind (·.zero)).map (·.cells.toList) = some [.int .i64 0, .int .i64 0, .slice none 0 0, .slice none 0 0] := by kernel_rfl

theorem MemOk.callFF {w w0 : World} {X : Cx} {M : Mm} (m : MemOk X w0 M w) (i j : Nat) (hi : lk M i = none) (hj : lk ((i, Res.gone) :: M) j = none) {w' : World} (hb : Below w.heap.size w w') {u v : Value} {d d2 : D} (h : Rd (New w) w' u d) (h2 : Rd (New w) w' v d2) : MemOk X w0 ((j, .dat v d2) :: (i, .dat u d) :: M) w' := by
 have m1 := m.callF i hi hb h
 refine m1.dat j ?_ (h2.cast (fun b hb' => ?_))
 · rw [lk_cons] at hj ⊢
   split at hj
   · cases hj
   · rename_i e; rw [if_neg e]; exact hj
 · have := m.free_out (.inr hb')
   exact free_add rfl this
set_option maxRecDepth 100000
set_option maxHeartbeats 4000000
theorem last_any (B : Nat) (bi : Int) (n cl : Nat) (pl : Option Addr) (vt vc vd : Value) (w0 : World) (hB : Blk w0 B 123 [.int .i64 bi, vt, vc, vd, .slice pl n cl]) (hbi : -1000000000000000000 ≤ bi ∧ bi ≤ 1000000000000000000) (hn : n ≤ 1000000) :
   Calls Tryz.prog 75 #[.pointer (some ⟨B, 0, none⟩)] w0 fun e w' => e = .returned (.int .i64 (bi + n)) ∧ Below w0.heap.size w0 w' := by
 refine enter (fn := Tryz.f75) Tryz.func75 rfl Tryz.ntmps75 rfl (fun Az Hz => ?_)
 simp only [List.zipIdx_cons, List.zipIdx_nil, List.map_cons, List.map_nil, Nat.reduceAdd, Nat.zero_add] at Hz
 have m0 := MemOk.start (fun _ => False) w0
 refine regS Hz (.assign rfl <| .nil) ?_
 clear Hz Az; intro Az Hz
 refine wp_seq_k (fun K0 hK0 => ?_)
 have m2 : MemOk _ _ [] _ := m0.only []; clear m0
 refine region_p 12 (B := []) (m2.to trivial) m2 (by kernel_rfl) (fun w3 hP3 m3 => ?_); clear m2
 refine goR hP3 [0, 1, 2, 3, 4, 5, 6, 7, 8, 9, 10, 11] [4, 8] 12 0 4095 Hz (m3.to trivial) (.move rfl <| .nilCheck rfl <| .fieldAddr (off := 0) rfl Tryz.underlying121 rfl (s := 3) (by kernel_rfl) rfl <| .fieldAddr (off := 0) rfl Tryz.underlying29 rfl (s := 0) (by kernel_rfl) rfl <| .loadX1 (fun _ h_ => (hB.now h_ rfl)) rfl rfl Tryz.underlying3 rfl <| .move rfl <| .nilCheck rfl <| .fieldAddr (off := 4) rfl Tryz.underlying121 rfl (s := 0) (by kernel_rfl) rfl <| .loadX1 (fun _ h_ => (hB.now h_ rfl)) rfl rfl Tryz.underlying30 rfl <| .len rfl Tryz.underlying30 <| .add rfl rfl (r := bi + n) (IntWalk.i64_in _ (by omega)) <| .assign rfl <| .nil) ?_
 clear Hz Az; intro Az Hz
 refine wpAnyE_done (by kernel_rfl) ?_ _
 refine hK0 _ _ ?_; clear hK0; try clear K0
 refine wp_ret ?_
 try dsimp only [Exit.then, Exit.inBlock]
 refine (ret1 (fn := Tryz.f75) Hz rfl rfl ?_)
 exact ⟨rfl, m3.below⟩
theorem place_yes (B : Nat) (bi : Int) (n cl : Nat) (pl : Option Addr) (vt vc vd : Value) (w0 : World) (k : Nat) (i : Int) (hB : Blk w0 B 123 [.int .i64 bi, vt, vc, vd, .slice pl n cl]) (hbi : -1000000000000000000 ≤ bi ∧ bi ≤ 1000000000000000000) (hn : n ≤ 1000000) (hk : k < n) (hi : i = bi + 1 + k) :
   Calls Tryz.prog 117 #[.pointer (some ⟨B, 0, none⟩), .int .i64 i] w0 fun e w' => e = .returned (.tuple #[.int .i64 k, .bool true]) ∧ Below w0.heap.size w0 w' := by
 refine enter (fn := Tryz.f117) Tryz.func117 rfl Tryz.ntmps117 rfl (fun Az Hz => ?_)
 simp only [List.zipIdx_cons, List.zipIdx_nil, List.map_cons, List.map_nil, Nat.reduceAdd, Nat.zero_add] at Hz
 have m0 := MemOk.start (fun _ => False) w0
 refine regS Hz (.assign rfl <| .assign rfl <| .nil) ?_
 clear Hz Az; intro Az Hz
 refine wp_seq_k (fun K0 hK0 => ?_)
 refine wp_seq_k (fun K1 hK1 => ?_)
 refine wp_region_lit ?_
 refine goCh Hz (.move rfl <| .move rfl <| .nilCheck rfl <| .fieldAddr (off := 0) rfl Tryz.underlying121 rfl (s := 3) (by kernel_rfl) rfl <| .fieldAddr (off := 0) rfl Tryz.underlying29 rfl (s := 0) (by kernel_rfl) rfl <| .loadX1 (hB.now m0 rfl) rfl rfl Tryz.underlying3 rfl <| .leq rfl rfl <| .move rfl <| .nil) ?_
 clear Hz Az; intro Az Hz
 refine bool_cases Hz (t := 13) rfl ?_ ?_
 · intro hb _; exact absurd hb (by simp; omega)
 clear Hz; intro _ Hz
 refine goCh Hz (.moveZ rfl <| .moveZ rfl <| .nil) ?_
 clear Hz Az; intro Az Hz
 refine st_ge Hz rfl rfl rfl rfl (fun K hK => ?_)
 refine e_call Hz Tryz.func75 rfl rfl rfl rfl (last_any _ _ _ _ _ _ _ _ _ (hB.now m0 rfl) (by omega) (by first | omega | (simp; omega) | simp)) ?_
 rintro e w22 ⟨rfl, hb22⟩
 have m23 := m0.later hb22
 clear m0
 clear hb22
 refine ⟨_, rfl, ?_⟩; clear Hz Az; intro Az Hz
 refine hK _ _ ?_; clear hK K
 refine goCh Hz (.gtrZ rfl rfl <| .pickF rfl rfl <| .nil) ?_
 clear Hz Az; intro Az Hz
 refine wpList_nil ?_
 refine hK1 _ _ ?_; clear hK1; try clear K1
 refine bool_cases Hz (t := 18) rfl ?_ ?_
 · intro hb _; exact absurd hb (by simp; omega)
 clear Hz; intro _ Hz
 refine wp_cond_false (Hz.ev (x := .tmp 18) rfl) ?_
 refine wp_skip ?_
 refine hK0 _ _ ?_; clear hK0; try clear K0
 replace Hz : Has 27 [(0, _), (1, _), (4, _), (5, _)] Az := Hz.only [0, 1, 4, 5]
 refine regS Hz (.move rfl <| .move rfl <| .nilCheck rfl <| .fieldAddr (off := 0) rfl Tryz.underlying121 rfl (s := 3) (by kernel_rfl) rfl <| .fieldAddr (off := 0) rfl Tryz.underlying29 rfl (s := 0) (by kernel_rfl) rfl <| .loadX1 (hB.now m23 rfl) rfl rfl Tryz.underlying3 rfl <| .sub rfl rfl (r := (k : Int) + 1) (by rw [IntWalk.i64_in _ (by omega)]; omega) <| .sub rfl rfl (r := (k : Int)) (by rw [IntWalk.i64_in _ (by omega)]; omega) <| .assign rfl <| .assign rfl <| .nil) ?_
 clear Hz Az; intro Az Hz
 refine wp_ret ?_
 try dsimp only [Exit.then, Exit.inBlock]
 refine (ret2 (fn := Tryz.f117) Hz rfl rfl rfl ?_)
 exact ⟨rfl, m23.below⟩
theorem place_no (B : Nat) (bi : Int) (n cl : Nat) (pl : Option Addr) (vt vc vd : Value) (w0 : World) (i : Int) (hB : Blk w0 B 123 [.int .i64 bi, vt, vc, vd, .slice pl n cl]) (hbi : -1000000000000000000 ≤ bi ∧ bi ≤ 1000000000000000000) (hn : n ≤ 1000000) (hi : i ≤ bi ∨ bi + n < i) :
   Calls Tryz.prog 117 #[.pointer (some ⟨B, 0, none⟩), .int .i64 i] w0 fun e w' => e = .returned (.tuple #[.int .i64 0, .bool false]) ∧ Below w0.heap.size w0 w' := by
 refine enter (fn := Tryz.f117) Tryz.func117 rfl Tryz.ntmps117 rfl (fun Az Hz => ?_)
 simp only [List.zipIdx_cons, List.zipIdx_nil, List.map_cons, List.map_nil, Nat.reduceAdd, Nat.zero_add] at Hz
 have m0 := MemOk.start (fun _ => False) w0
 refine regS Hz (.assign rfl <| .assign rfl <| .nil) ?_
 clear Hz Az; intro Az Hz
 refine wp_seq_k (fun K0 hK0 => ?_)
 refine wp_seq_k (fun K1 hK1 => ?_)
 refine wp_region_lit ?_
 refine goCh Hz (.move rfl <| .move rfl <| .nilCheck rfl <| .fieldAddr (off := 0) rfl Tryz.underlying121 rfl (s := 3) (by kernel_rfl) rfl <| .fieldAddr (off := 0) rfl Tryz.underlying29 rfl (s := 0) (by kernel_rfl) rfl <| .loadX1 (hB.now m0 rfl) rfl rfl Tryz.underlying3 rfl <| .leq rfl rfl <| .move rfl <| .nil) ?_
 clear Hz Az; intro Az Hz
 refine bool_cases Hz (t := 13) rfl ?_ ?_
 ·
  clear Hz; intro hb19 Hz
  try simp only [Q1x, Q2x, Q3x, Q4x, Q5x, Q6x, Q7x, Q8x, Q9x, Q0x, Qax, Qbx] at hb19
  refine goCh Hz (.sk <| .sk <| .sk <| .sk <| .pickT rfl rfl <| .nil) ?_
  clear Hz Az; intro Az Hz
  refine wpList_nil ?_
  refine hK1 _ _ ?_; clear hK1; try clear K1
  refine wp_cond_true (Hz.ev (x := .tmp 18) rfl) ?_
  replace Hz : Has 27 [(0, _), (1, _), (4, _), (5, _)] Az := Hz.only [0, 1, 4, 5]
  refine regS Hz (.assign rfl <| .assign rfl <| .nil) ?_
  clear Hz Az; intro Az Hz
  refine wp_ret ?_
  try dsimp only [Exit.then, Exit.inBlock]
  refine (ret2 (fn := Tryz.f117) Hz rfl rfl rfl ?_)
  exact ⟨rfl, m0.below⟩
 ·
  clear Hz; intro hb19 Hz
  try simp only [Q1x, Q2x, Q3x, Q4x, Q5x, Q6x, Q7x, Q8x, Q9x, Q0x, Qax, Qbx] at hb19
  refine goCh Hz (.moveZ rfl <| .moveZ rfl <| .nil) ?_
  clear Hz Az; intro Az Hz
  refine st_ge Hz rfl rfl rfl rfl (fun K hK => ?_)
  refine e_call Hz Tryz.func75 rfl rfl rfl rfl (last_any _ _ _ _ _ _ _ _ _ (hB.now m0 rfl) (by omega) (by first | omega | (simp; omega) | simp)) ?_
  rintro e w30 ⟨rfl, hb30⟩
  have m31 := m0.later hb30
  clear m0
  clear hb30
  refine ⟨_, rfl, ?_⟩; clear Hz Az; intro Az Hz
  refine hK _ _ ?_; clear hK K
  refine goCh Hz (.gtrZ rfl rfl <| .pickF rfl rfl <| .nil) ?_
  clear Hz Az; intro Az Hz
  refine wpList_nil ?_
  refine hK1 _ _ ?_; clear hK1; try clear K1
  refine bool_cases Hz (t := 18) rfl ?_ ?_
  rotate_left
  · intro hb _; exact absurd hb (by simp at *; omega)
  clear Hz; intro _ Hz
  refine wp_cond_true (Hz.ev (x := .tmp 18) rfl) ?_
  replace Hz : Has 27 [(0, _), (1, _), (4, _), (5, _)] Az := Hz.only [0, 1, 4, 5]
  refine regS Hz (.assign rfl <| .assign rfl <| .nil) ?_
  clear Hz Az; intro Az Hz
  refine wp_ret ?_
  try dsimp only [Exit.then, Exit.inBlock]
  refine (ret2 (fn := Tryz.f117) Hz rfl rfl rfl ?_)
  exact ⟨rfl, m31.below⟩
theorem place_from (B : Nat) (bi : Int) (n cl : Nat) (pl : Option Addr) (vt vc vd : Value) (w0 : World) (k : Nat) (i : Int) (hB : Blk w0 B 123 [.int .i64 bi, vt, vc, vd, .slice pl n cl]) (hbi : -1000000000000000000 ≤ bi ∧ bi ≤ 1000000000000000000) (hn : n ≤ 1000000) (hk0 : (i ≤ bi ∧ k = 0) ∨ i = bi + 1 + k) (hk : i ≤ bi + n) :
   Calls Tryz.prog 117 #[.pointer (some ⟨B, 0, none⟩), .int .i64 i] w0 fun e w' => ∃ b, e = .returned (.tuple #[.int .i64 k, .bool b]) ∧ Below w0.heap.size w0 w' := by
 rcases hk0 with ⟨h1, rfl⟩ | h1
 · exact (place_no B bi n cl pl vt vc vd w0 i hB hbi hn (.inl h1)).mono (fun e w' h => ⟨false, h⟩)
 · by_cases hkn : k < n
   · exact (place_yes B bi n cl pl vt vc vd w0 k i hB hbi hn hkn h1).mono (fun e w' h => ⟨true, h⟩)
   · omega
theorem term_at (B : Nat) (bi bt : Int) (cf d : List Int) (es : List (Int × Int × Int × List Int)) (pc pd pl : Option Addr) (cc cd cl : Nat) (w0 : World) (hB : Blk w0 B 123 [.int .i64 bi, .int .i64 bt, .slice pc cf.length cc, .slice pd d.length cd, .slice pl (es.map entD).length cl]) (hl : Rd (fun _ => True) w0 (.slice pl (es.map entD).length cl) (.l 4 (es.map entD))) (hbi : -1000000000000000000 ≤ bi ∧ bi ≤ 1000000000000000000) (hn : es.length ≤ 1000000) :
   Calls Tryz.prog 113 #[.pointer (some ⟨B, 0, none⟩), .int .i64 bi] w0 fun e w' => e = .returned (.int .i64 bt) ∧ Below w0.heap.size w0 w' := by
 refine enter (fn := Tryz.f113) Tryz.func113 rfl Tryz.ntmps113 rfl (fun Az Hz => ?_)
 simp only [List.zipIdx_cons, List.zipIdx_nil, List.map_cons, List.map_nil, Nat.reduceAdd, Nat.zero_add] at Hz
 have m0 := MemOk.start (fun _ => False) w0
 refine regS Hz (.assign rfl <| .nil) ?_
 clear Hz Az; intro Az Hz
 refine wp_seq_k (fun K0 hK0 => ?_)
 refine regS Hz (.move rfl <| .move rfl <| .nilCheck rfl <| .fieldAddr (off := 0) rfl Tryz.underlying123 rfl (s := 4) (by kernel_rfl) rfl <| .fieldAddr (off := 0) rfl Tryz.underlying121 rfl (s := 3) (by kernel_rfl) rfl <| .fieldAddr (off := 0) rfl Tryz.underlying29 rfl (s := 0) (by kernel_rfl) rfl <| .loadX1 (hB.now m0 rfl) rfl rfl Tryz.underlying3 rfl <| .eql rfl rfl <| .nil) ?_
 clear Hz Az; intro Az Hz
 refine bool_cases Hz (t := 14) rfl ?_ ?_
 rotate_left
 · intro hb _; exact absurd hb (by simp)
 clear Hz; intro _ Hz
 refine wp_cond_true (Hz.ev (x := .tmp 14) rfl) ?_
 replace Hz : Has 39 [(0, _), (1, _), (4, _)] Az := Hz.only [0, 1, 4]
 refine regS Hz (.move rfl <| .nilCheck rfl <| .fieldAddr (off := 0) rfl Tryz.underlying123 rfl (s := 4) (by kernel_rfl) rfl <| .fieldAddr (off := 0) rfl Tryz.underlying121 rfl (s := 3) (by kernel_rfl) rfl <| .fieldAddr (off := 1) rfl Tryz.underlying29 rfl (s := 0) (by kernel_rfl) rfl <| .loadX1 (hB.now m0 rfl) rfl rfl Tryz.underlying3 rfl <| .assign rfl <| .nil) ?_
 clear Hz Az; intro Az Hz
 refine wp_ret ?_
 try dsimp only [Exit.then, Exit.inBlock]
 refine (ret1 (fn := Tryz.f113) Hz rfl rfl ?_)
 exact ⟨rfl, m0.below⟩
theorem term_in (B : Nat) (bi bt : Int) (cf d : List Int) (es : List (Int × Int × Int × List Int)) (pc pd pl : Option Addr) (cc cd cl : Nat) (w0 : World) (k : Nat) (i : Int) {ei et ek : Int} {ed : List Int} (hB : Blk w0 B 123 [.int .i64 bi, .int .i64 bt, .slice pc cf.length cc, .slice pd d.length cd, .slice pl (es.map entD).length cl]) (hl : Rd (fun _ => True) w0 (.slice pl (es.map entD).length cl) (.l 4 (es.map entD))) (hbi : -1000000000000000000 ≤ bi ∧ bi ≤ 1000000000000000000) (hn : es.length ≤ 1000000) (hes : es[k]? = some (ei, et, ek, ed)) (hi : i = bi + 1 + k) :
   Calls Tryz.prog 113 #[.pointer (some ⟨B, 0, none⟩), .int .i64 i] w0 fun e w' => e = .returned (.int .i64 et) ∧ Below w0.heap.size w0 w' := by
 have hk := (List.getElem?_eq_some_iff.1 hes).1
 refine enter (fn := Tryz.f113) Tryz.func113 rfl Tryz.ntmps113 rfl (fun Az Hz => ?_)
 simp only [List.zipIdx_cons, List.zipIdx_nil, List.map_cons, List.map_nil, Nat.reduceAdd, Nat.zero_add] at Hz
 have m0 := MemOk.start (fun _ => False) w0
 refine regS Hz (.assign rfl <| .nil) ?_
 clear Hz Az; intro Az Hz
 refine wp_seq_k (fun K0 hK0 => ?_)
 refine regS Hz (.move rfl <| .move rfl <| .nilCheck rfl <| .fieldAddr (off := 0) rfl Tryz.underlying123 rfl (s := 4) (by kernel_rfl) rfl <| .fieldAddr (off := 0) rfl Tryz.underlying121 rfl (s := 3) (by kernel_rfl) rfl <| .fieldAddr (off := 0) rfl Tryz.underlying29 rfl (s := 0) (by kernel_rfl) rfl <| .loadX1 (hB.now m0 rfl) rfl rfl Tryz.underlying3 rfl <| .eql rfl rfl <| .nil) ?_
 clear Hz Az; intro Az Hz
 refine bool_cases Hz (t := 14) rfl ?_ ?_
 · intro hb _; exact absurd hb (by simp; omega)
 clear Hz; intro _ Hz
 refine wp_cond_false (Hz.ev (x := .tmp 14) rfl) ?_
 refine wp_skip ?_
 refine hK0 _ _ ?_; clear hK0; try clear K0
 refine wp_seq_k (fun K1 hK1 => ?_)
 replace Hz : Has 39 [(0, _), (1, _), (4, _)] Az := Hz.only [0, 1, 4]
 refine wp_seq_k (fun K2 hK2 => ?_)
 refine wp_region_lit ?_
 refine goCh Hz (.move rfl <| .nilCheck rfl <| .fieldAddr (off := 0) rfl Tryz.underlying123 rfl (s := 4) (by kernel_rfl) rfl <| .move rfl <| .nil) ?_
 clear Hz Az; intro Az Hz
 refine wpList_plain rfl (fun K hK => ?_)
 refine e_call Hz Tryz.func117 rfl rfl rfl rfl (place_yes _ _ _ _ _ _ _ _ _ k _ (hB.now m0 rfl) (by omega) (by first | omega | (simp; omega) | simp) (by simp; omega) (by omega)) ?_
 rintro e w20 ⟨rfl, hb20⟩
 have m21 := m0.later hb20
 clear m0
 clear hb20
 refine ⟨_, rfl, ?_⟩; clear Hz Az; intro Az Hz
 refine hK _ _ ?_; clear hK K
 refine goCh Hz (.move rfl <| .extract rfl rfl <| .extract rfl rfl <| .assign rfl <| .assign rfl <| .nil) ?_
 clear Hz Az; intro Az Hz
 refine wpList_nil ?_
 refine hK2 _ _ ?_; clear hK2; try clear K2
 replace Hz : Has 39 [(0, _), (4, _), (5, _), (6, _)] Az := Hz.only [0, 4, 5, 6]
 refine regS Hz (.move rfl <| .nil) ?_
 clear Hz Az; intro Az Hz
 refine wp_cond_true (Hz.ev (x := .tmp 29) rfl) ?_
 refine wp_seq_k (fun K3 hK3 => ?_)
 refine wp_region_lit ?_
 refine goCh Hz (.move rfl <| .nilCheck rfl <| .fieldAddr (off := 0) rfl Tryz.underlying123 rfl (s := 4) (by kernel_rfl) rfl <| .fieldAddr (off := 4) rfl Tryz.underlying121 rfl (s := 0) (by kernel_rfl) rfl <| .loadX1 (hB.now m21 rfl) rfl rfl Tryz.underlying30 rfl <| .move rfl <| .nil) ?_
 clear Hz Az; intro Az Hz
 obtain ⟨gx43, ox43, vx43, hp43, hl43, hR43, hrg43⟩ := hl.extA (k) (r := [.v (.int .i64 ei), .v (.int .i64 et), .v (.int .i64 ek), .ns .u8 ed]) (ent_get hes)
 cases hp43; clear hl43
 rcases hR43 with _ | ⟨hd43_0, _ | ⟨hd43_1, _ | ⟨hd43_2, _ | ⟨hd43_3, _ | _⟩⟩⟩⟩
 obtain rfl := hd43_0.v_out
 clear hd43_0
 obtain rfl := hd43_1.v_out
 clear hd43_1
 obtain rfl := hd43_2.v_out
 clear hd43_2
 obtain ⟨p44, c44, hv44, hw44⟩ := hd43_3.ns_shape; subst hv44
 refine goCh Hz (.c rfl (fun _ h_ => y_idx h_ rfl rfl Tryz.underlying30 sz62te (k) rfl (by rw [List.length_map]; exact hk)) <| .fieldAddrQ 1 rfl Tryz.underlying62 rfl (s := 0) (by kernel_rfl) rfl <| .loadAt1 (hrg43 m21 rfl) (q := 1) rfl rfl rfl Tryz.underlying3 rfl <| .assign rfl <| .nil) ?_
 clear Hz Az; intro Az Hz
 refine wpList_nil ?_
 refine hK3 _ _ ?_; clear hK3; try clear K3
 refine wp_ret ?_
 try dsimp only [Exit.then, Exit.inBlock]
 refine (ret1 (fn := Tryz.f113) Hz rfl rfl ?_)
 exact ⟨rfl, m21.below⟩
theorem term_out (B : Nat) (bi bt : Int) (cf d : List Int) (es : List (Int × Int × Int × List Int)) (pc pd pl : Option Addr) (cc cd cl : Nat) (w0 : World) (i : Int) (hB : Blk w0 B 123 [.int .i64 bi, .int .i64 bt, .slice pc cf.length cc, .slice pd d.length cd, .slice pl (es.map entD).length cl]) (hl : Rd (fun _ => True) w0 (.slice pl (es.map entD).length cl) (.l 4 (es.map entD))) (hbi : -1000000000000000000 ≤ bi ∧ bi ≤ 1000000000000000000) (hn : es.length ≤ 1000000) (hi : i < bi ∨ bi + es.length < i) :
   Calls Tryz.prog 113 #[.pointer (some ⟨B, 0, none⟩), .int .i64 i] w0 fun e w' => e = .returned (.int .i64 (-1)) ∧ Below w0.heap.size w0 w' := by
 refine enter (fn := Tryz.f113) Tryz.func113 rfl Tryz.ntmps113 rfl (fun Az Hz => ?_)
 simp only [List.zipIdx_cons, List.zipIdx_nil, List.map_cons, List.map_nil, Nat.reduceAdd, Nat.zero_add] at Hz
 have m0 := MemOk.start (fun _ => False) w0
 refine regS Hz (.assign rfl <| .nil) ?_
 clear Hz Az; intro Az Hz
 refine wp_seq_k (fun K0 hK0 => ?_)
 refine regS Hz (.move rfl <| .move rfl <| .nilCheck rfl <| .fieldAddr (off := 0) rfl Tryz.underlying123 rfl (s := 4) (by kernel_rfl) rfl <| .fieldAddr (off := 0) rfl Tryz.underlying121 rfl (s := 3) (by kernel_rfl) rfl <| .fieldAddr (off := 0) rfl Tryz.underlying29 rfl (s := 0) (by kernel_rfl) rfl <| .loadX1 (hB.now m0 rfl) rfl rfl Tryz.underlying3 rfl <| .eql rfl rfl <| .nil) ?_
 clear Hz Az; intro Az Hz
 refine bool_cases Hz (t := 14) rfl ?_ ?_
 · intro hb _; exact absurd hb (by simp; omega)
 clear Hz; intro _ Hz
 refine wp_cond_false (Hz.ev (x := .tmp 14) rfl) ?_
 refine wp_skip ?_
 refine hK0 _ _ ?_; clear hK0; try clear K0
 refine wp_seq_k (fun K1 hK1 => ?_)
 replace Hz : Has 39 [(0, _), (1, _), (4, _)] Az := Hz.only [0, 1, 4]
 refine wp_seq_k (fun K2 hK2 => ?_)
 refine wp_region_lit ?_
 refine goCh Hz (.move rfl <| .nilCheck rfl <| .fieldAddr (off := 0) rfl Tryz.underlying123 rfl (s := 4) (by kernel_rfl) rfl <| .move rfl <| .nil) ?_
 clear Hz Az; intro Az Hz
 refine wpList_plain rfl (fun K hK => ?_)
 refine e_call Hz Tryz.func117 rfl rfl rfl rfl (place_no _ _ _ _ _ _ _ _ _ _ (hB.now m0 rfl) (by omega) (by first | omega | (simp; omega) | simp) (by simp; omega)) ?_
 rintro e w20 ⟨rfl, hb20⟩
 have m21 := m0.later hb20
 clear m0
 clear hb20
 refine ⟨_, rfl, ?_⟩; clear Hz Az; intro Az Hz
 refine hK _ _ ?_; clear hK K
 refine goCh Hz (.move rfl <| .extract rfl rfl <| .extract rfl rfl <| .assign rfl <| .assign rfl <| .nil) ?_
 clear Hz Az; intro Az Hz
 refine wpList_nil ?_
 refine hK2 _ _ ?_; clear hK2; try clear K2
 replace Hz : Has 39 [(0, _), (4, _), (5, _), (6, _)] Az := Hz.only [0, 4, 5, 6]
 refine regS Hz (.move rfl <| .nil) ?_
 clear Hz Az; intro Az Hz
 refine wp_cond_false (Hz.ev (x := .tmp 29) rfl) ?_
 refine wp_skip ?_
 refine hK1 _ _ ?_; clear hK1; try clear K1
 refine regS Hz (.assign rfl <| .nil) ?_
 clear Hz Az; intro Az Hz
 refine wp_ret ?_
 try dsimp only [Exit.then, Exit.inBlock]
 refine (ret1 (fn := Tryz.f113) Hz rfl rfl ?_)
 exact ⟨rfl, m21.below⟩
theorem from_some (B : Nat) (bi bt : Int) (cf d : List Int) (es : List (Int × Int × Int × List Int)) (pc pd pl : Option Addr) (cc cd cl : Nat) (w0 : World) (k j : Nat) (i q : Int) (hB : Blk w0 B 123 [.int .i64 bi, .int .i64 bt, .slice pc cf.length cc, .slice pd d.length cd, .slice pl (es.map entD).length cl]) (hl : Rd (fun _ => True) w0 (.slice pl (es.map entD).length cl) (.l 4 (es.map entD))) (hbi : -1000000000000000000 ≤ bi ∧ bi ≤ 1000000000000000000) (hn : es.length ≤ 1000000) (hok : EntsOk es) (hq : 0 < q) (hk0 : (i ≤ bi ∧ k = 0) ∨ i = bi + 1 + k) (hi : i ≤ bi + es.length) (hj : (j : Int) = min q (es.length - k)) :
   Calls Tryz.prog 71 #[.pointer (some ⟨B, 0, none⟩), .int .i64 i, .int .i64 q] w0 fun e w' => ∃ p c, e = .returned (.slice p (((es.drop k).take j).map entD).length c) ∧ Rd (New w0) w' (.slice p (((es.drop k).take j).map entD).length c) (.l 4 (((es.drop k).take j).map entD)) ∧ Below w0.heap.size w0 w' := by
 have hkn : k ≤ es.length := by omega
 have hjl : j ≤ es.length - k := by omega
 refine enter (fn := Tryz.f71) Tryz.func71 rfl Tryz.ntmps71 rfl (fun Az Hz => ?_)
 simp only [List.zipIdx_cons, List.zipIdx_nil, List.map_cons, List.map_nil, Nat.reduceAdd, Nat.zero_add] at Hz
 have m0 := MemOk.start (fun _ => False) w0
 have hcl : es.length ≤ cl := by obtain ⟨pq, cq, hv, hcap⟩ := hl.l_shape; injection hv with _ _ e3; rw [List.length_map] at hcap; omega
 refine regS Hz (.assign rfl <| .nil) ?_
 clear Hz Az; intro Az Hz
 refine wp_seq_k (fun K0 hK0 => ?_)
 refine wp_seq_k (fun K1 hK1 => ?_)
 refine wp_region_lit ?_
 refine goCh Hz (.move rfl <| .leq rfl rfl <| .move rfl <| .nil) ?_
 clear Hz Az; intro Az Hz
 refine bool_cases Hz (t := 12) rfl ?_ ?_
 · intro hb _; exact absurd hb (by first | omega | (simp; omega))
 clear Hz; intro _ Hz
 refine goCh Hz (.moveZ rfl <| .moveZ rfl <| .nilCheckZ rfl <| .fieldAddrZ (off := 0) rfl Tryz.underlying123 rfl (s := 4) (by kernel_rfl) rfl <| .nil) ?_
 clear Hz Az; intro Az Hz
 refine st_ge Hz rfl rfl rfl rfl (fun K hK => ?_)
 refine e_call Hz Tryz.func75 rfl rfl rfl rfl (last_any _ _ _ _ _ _ _ _ _ (hB.now m0 rfl) (by omega) (by first | omega | (simp; omega) | simp)) ?_
 rintro e w13 ⟨rfl, hb13⟩
 have m14 := m0.later hb13
 clear m0
 clear hb13
 refine ⟨_, rfl, ?_⟩; clear Hz Az; intro Az Hz
 refine hK _ _ ?_; clear hK K
 refine goCh Hz (.gtrZ rfl rfl <| .pickF rfl rfl <| .nil) ?_
 clear Hz Az; intro Az Hz
 refine wpList_nil ?_
 refine hK1 _ _ ?_; clear hK1; try clear K1
 refine bool_cases Hz (t := 19) rfl ?_ ?_
 · intro hb _; exact absurd hb (by simp; omega)
 clear Hz; intro _ Hz
 refine wp_cond_false (Hz.ev (x := .tmp 19) rfl) ?_
 refine wp_skip ?_
 refine hK0 _ _ ?_; clear hK0; try clear K0
 replace Hz : Has 42 [(0, _), (1, _), (2, _), (6, _)] Az := Hz.only [0, 1, 2, 6]
 refine wp_seq_k (fun K2 hK2 => ?_)
 refine wp_region_lit ?_
 refine goCh Hz (.move rfl <| .nilCheck rfl <| .fieldAddr (off := 0) rfl Tryz.underlying123 rfl (s := 4) (by kernel_rfl) rfl <| .move rfl <| .nil) ?_
 clear Hz Az; intro Az Hz
 refine wpList_plain rfl (fun K hK => ?_)
 refine e_call Hz Tryz.func117 rfl rfl rfl rfl (place_from _ _ _ _ _ _ _ _ _ k _ (hB.now m14 rfl) (by omega) (by first | omega | (simp; omega) | simp) hk0 (by first | omega | (simp; omega) | simp)) ?_
 rintro e w29 ⟨b29, rfl, hb29⟩
 have m30 := m14.later hb29
 clear m14
 clear hb29
 refine ⟨_, rfl, ?_⟩; clear Hz Az; intro Az Hz
 refine hK _ _ ?_; clear hK K
 refine goCh Hz (.move rfl <| .extract rfl rfl <| .extract rfl rfl <| .assign rfl <| .assign rfl <| .nil) ?_
 clear Hz Az; intro Az Hz
 refine wpList_nil ?_
 refine hK2 _ _ ?_; clear hK2; try clear K2
 replace Hz : Has 42 [(0, _), (2, _), (6, _), (7, _)] Az := Hz.only [0, 2, 6, 7]
 refine wp_seq_k (fun K3 hK3 => ?_)
 refine wp_region_lit ?_
 refine goCh Hz (.move rfl <| .nilCheck rfl <| .fieldAddr (off := 0) rfl Tryz.underlying123 rfl (s := 4) (by kernel_rfl) rfl <| .fieldAddr (off := 4) rfl Tryz.underlying121 rfl (s := 0) (by kernel_rfl) rfl <| .loadX1 (hB.now m30 rfl) rfl rfl Tryz.underlying30 rfl <| .move rfl <| .nil) ?_
 clear Hz Az; intro Az Hz
 have hx51 := hl.dropL k (by first | omega | (simp; omega) | simp)
 refine goCh Hz (.c rfl (fun _ h_ => y_sliceLn h_ k rfl rfl Tryz.underlying30 sz62fr rfl (by first | omega | (simp; omega) | simp)) <| .assign rfl <| .nil) ?_
 clear Hz Az; intro Az Hz
 refine wpList_nil ?_
 refine hK3 _ _ ?_; clear hK3; try clear K3
 replace Hz : Has 42 [(2, _), (6, _), (9, _)] Az := Hz.only [2, 6, 9]
 refine wp_seq_k (fun K4 hK4 => ?_)
 refine wp_region_lit ?_
 refine goCh Hz (.move rfl <| .move rfl <| .move rfl <| .len rfl Tryz.underlying30 <| .c rfl (fun _ h_ => y_min h_ rfl rfl (r := (j : Int)) (by simp; omega)) <| .nil) ?_
 clear Hz Az; intro Az Hz
 have hx66 := hx51.takeL j (by first | omega | (simp; omega) | simp)
 refine goCh Hz (.c rfl (fun _ h_ => y_sliceHn h_ j rfl rfl Tryz.underlying30 sz62fr rfl (by omega)) .nil) ?_
 clear Hz Az; intro Az Hz
 have hy68 := ((hx66.now' m30 rfl).any)
 rw [← List.map_drop, ← List.map_take] at hy68
 refine wpList_plain rfl (fun K hK => ?_)
 refine e_call Hz Tryz.func118 rfl rfl rfl rfl (list_any ((es.drop k).take j) _ _ _ _ hy68 (by first | omega | (simp; omega) | simp) (fun e he => hok e (List.mem_of_mem_drop (List.mem_of_mem_take he)))) ?_
 rintro e w69 ⟨p69, c69, rfl, hd69, hb69⟩
 have m70 := m30.callF 7 rfl hb69 hd69
 clear m30
 clear hb69 hd69
 refine ⟨_, rfl, ?_⟩; clear Hz Az; intro Az Hz
 refine hK _ _ ?_; clear hK K
 refine goCh Hz (.assign rfl .nil) ?_
 clear Hz Az; intro Az Hz
 refine wpList_nil ?_
 refine hK4 _ _ ?_; clear hK4; try clear K4
 refine wp_ret ?_
 try dsimp only [Exit.then, Exit.inBlock]
 refine (ret1 (fn := Tryz.f71) Hz rfl rfl ?_)
 exact ⟨_, _, rfl, m70.outF (i := 7) rfl, m70.below⟩
theorem from_none (B : Nat) (bi bt : Int) (cf d : List Int) (es : List (Int × Int × Int × List Int)) (pc pd pl : Option Addr) (cc cd cl : Nat) (w0 : World) (i q : Int) (hB : Blk w0 B 123 [.int .i64 bi, .int .i64 bt, .slice pc cf.length cc, .slice pd d.length cd, .slice pl (es.map entD).length cl]) (hl : Rd (fun _ => True) w0 (.slice pl (es.map entD).length cl) (.l 4 (es.map entD))) (hbi : -1000000000000000000 ≤ bi ∧ bi ≤ 1000000000000000000) (hn : es.length ≤ 1000000) (hi : q ≤ 0 ∨ bi + es.length < i) :
   Calls Tryz.prog 71 #[.pointer (some ⟨B, 0, none⟩), .int .i64 i, .int .i64 q] w0 fun e w' => e = .returned (.slice none 0 0) ∧ Below w0.heap.size w0 w' := by
 refine enter (fn := Tryz.f71) Tryz.func71 rfl Tryz.ntmps71 rfl (fun Az Hz => ?_)
 simp only [List.zipIdx_cons, List.zipIdx_nil, List.map_cons, List.map_nil, Nat.reduceAdd, Nat.zero_add] at Hz
 have m0 := MemOk.start (fun _ => False) w0
 refine regS Hz (.assign rfl <| .nil) ?_
 clear Hz Az; intro Az Hz
 refine wp_seq_k (fun K0 hK0 => ?_)
 refine wp_seq_k (fun K1 hK1 => ?_)
 refine wp_region_lit ?_
 refine goCh Hz (.move rfl <| .leq rfl rfl <| .move rfl <| .nil) ?_
 clear Hz Az; intro Az Hz
 refine bool_cases Hz (t := 12) rfl ?_ ?_
 ·
  clear Hz; intro hb8 Hz
  try simp only [Q1x, Q2x, Q3x, Q4x, Q5x, Q6x, Q7x, Q8x, Q9x, Q0x, Qax, Qbx] at hb8
  refine goCh Hz (.sk <| .sk <| .sk <| .sk <| .sk <| .sk <| .pickT rfl rfl <| .nil) ?_
  clear Hz Az; intro Az Hz
  refine wpList_nil ?_
  refine hK1 _ _ ?_; clear hK1; try clear K1
  refine wp_cond_true (Hz.ev (x := .tmp 19) rfl) ?_
  replace Hz : Has 42 [(0, _), (1, _), (2, _), (6, _)] Az := Hz.only [0, 1, 2, 6]
  refine regS Hz (.assign rfl <| .nil) ?_
  clear Hz Az; intro Az Hz
  refine wp_ret ?_
  try dsimp only [Exit.then, Exit.inBlock]
  refine (ret1 (fn := Tryz.f71) Hz rfl rfl ?_)
  exact ⟨rfl, m0.below⟩
 ·
  clear Hz; intro hb8 Hz
  try simp only [Q1x, Q2x, Q3x, Q4x, Q5x, Q6x, Q7x, Q8x, Q9x, Q0x, Qax, Qbx] at hb8
  refine goCh Hz (.moveZ rfl <| .moveZ rfl <| .nilCheckZ rfl <| .fieldAddrZ (off := 0) rfl Tryz.underlying123 rfl (s := 4) (by kernel_rfl) rfl <| .nil) ?_
  clear Hz Az; intro Az Hz
  refine st_ge Hz rfl rfl rfl rfl (fun K hK => ?_)
  refine e_call Hz Tryz.func75 rfl rfl rfl rfl (last_any _ _ _ _ _ _ _ _ _ (hB.now m0 rfl) (by omega) (by first | omega | (simp; omega) | simp)) ?_
  rintro e w22 ⟨rfl, hb22⟩
  have m23 := m0.later hb22
  clear m0
  clear hb22
  refine ⟨_, rfl, ?_⟩; clear Hz Az; intro Az Hz
  refine hK _ _ ?_; clear hK K
  refine goCh Hz (.gtrZ rfl rfl <| .pickF rfl rfl <| .nil) ?_
  clear Hz Az; intro Az Hz
  refine wpList_nil ?_
  refine hK1 _ _ ?_; clear hK1; try clear K1
  refine bool_cases Hz (t := 19) rfl ?_ ?_
  rotate_left
  · intro hb _; exact absurd hb (by simp at *; omega)
  clear Hz; intro _ Hz
  refine wp_cond_true (Hz.ev (x := .tmp 19) rfl) ?_
  replace Hz : Has 42 [(0, _), (1, _), (2, _), (6, _)] Az := Hz.only [0, 1, 2, 6]
  refine regS Hz (.assign rfl <| .nil) ?_
  clear Hz Az; intro Az Hz
  refine wp_ret ?_
  try dsimp only [Exit.then, Exit.inBlock]
  refine (ret1 (fn := Tryz.f71) Hz rfl rfl ?_)
  exact ⟨rfl, m23.below⟩
theorem lbase_any (B : Nat) (bi bt : Int) (cf d : List Int) (es : List (Int × Int × Int × List Int)) (pc pd pl : Option Addr) (cc cd cl : Nat) (w0 : World) (hB : Blk w0 B 123 [.int .i64 bi, .int .i64 bt, .slice pc cf.length cc, .slice pd d.length cd, .slice pl (es.map entD).length cl]) (hl : Rd (fun _ => True) w0 (.slice pl (es.map entD).length cl) (.l 4 (es.map entD))) (hbi : -1000000000000000000 ≤ bi ∧ bi ≤ 1000000000000000000) (hn : es.length ≤ 1000000) (hc : Rd (fun _ => True) w0 (.slice pc cf.length cc) (.ns .i64 cf)) (hd : Rd (fun _ => True) w0 (.slice pd d.length cd) (.ns .u8 d)) (hcf : cf.length ≤ 1000000) (hdl : d.length ≤ 140737488351232) :
   Calls Tryz.prog 39 #[.pointer (some ⟨B, 0, none⟩)] w0 fun e w' => ∃ p c q b, e = .returned (.agg #[.int .i64 bi, .int .i64 bt, .slice p cf.length c, .slice q d.length b]) ∧ Rd (New w0) w' (.slice p cf.length c) (.ns .i64 cf) ∧ Rd (New w0) w' (.slice q d.length b) (.ns .u8 d) ∧ Below w0.heap.size w0 w' := by
 refine enter (fn := Tryz.f39) Tryz.func39 rfl Tryz.ntmps39 rfl (fun Az Hz => ?_)
 simp only [List.zipIdx_cons, List.zipIdx_nil, List.map_cons, List.map_nil, Nat.reduceAdd, Nat.zero_add] at Hz
 have m0 := MemOk.start (fun _ => False) w0
 refine wp_seq_k (fun K0 hK0 => ?_)
 refine wp_region_lit ?_
 refine wpList_plain rfl (fun K hK => ?_)
 refine e_alloc Hz m0 5 zc29lb rfl ?_
 clear Hz Az m0; intro g1 Az w2 Hz m2 hB2 hg2
 clear hB2 hg2
 refine hK _ _ ?_; clear hK K
 refine wpList_nil ?_
 refine hK0 _ _ ?_; clear hK0; try clear K0
 refine wp_seq_k (fun K1 hK1 => ?_)
 refine wp_region_lit ?_
 refine goCh Hz (.move rfl <| .nilCheck rfl <| .fieldAddr (off := 0) rfl Tryz.underlying123 rfl (s := 4) (by kernel_rfl) rfl <| .fieldAddr (off := 0) rfl Tryz.underlying121 rfl (s := 3) (by kernel_rfl) rfl <| .loadXR (hB.now m2 rfl) rfl Tryz.underlying29 rfl sz29lb rfl rfl <| .nil) ?_
 clear Hz Az; intro Az Hz
 refine wpList_plain rfl (fun K hK => ?_)
 refine e_call Hz Tryz.func81 rfl rfl rfl rfl (base_any _ _ cf d _ _ _ _ _ ((hc.now' m2 rfl).any) ((hd.now' m2 rfl).any) hcf hdl) ?_
 rintro e w13 ⟨p13, c13, q13, b13, rfl, hc13, hd13, hb13⟩
 have m14 := m2.callFF 6 7 rfl rfl hb13 hc13 hd13
 clear m2
 clear hb13 hc13 hd13
 refine ⟨_, rfl, ?_⟩; clear Hz Az; intro Az Hz
 refine hK _ _ ?_; clear hK K
 refine wpList_plain rfl (fun K hK => ?_)
 refine e_storeW Hz m14 5 rfl rfl rfl rfl rfl sz29lb ?_
 clear m14; intro w16 m16 hB16
 clear hB16
 refine hK _ _ ?_; clear hK K
 refine wpList_nil ?_
 refine hK1 _ _ ?_; clear hK1; try clear K1
 refine wp_ret ?_
 try dsimp only [Exit.then, Exit.inBlock]
 refine (retC (fn := Tryz.f39) Hz m16 (i := 5) rfl rfl rfl Tryz.underlying29 rfl sz29lb ?_)
 exact ⟨_, _, _, _, rfl, m16.outF (i := 6) rfl, m16.outF (i := 7) rfl, m16.below⟩
end
section
theorem inf62gr : (Tryz.prog.info? 62).map (fun i => (i.zero, i.size, i.bytes)) = some (some (.agg #[.int .i64 0, .int .i64 0, .int .i64 0, .slice none 0 0]), 4, 48) := by kernel_rfl
theorem sz30gr : (Tryz.prog.info? 30).map (·.size) = some 1 := by kernel_rfl
theorem sz29re : (Tryz.prog.info? 29).map (·.size) = some 4 := by kernel_rfl
theorem sz30re : (Tryz.prog.info? 30).map (·.size) = some 1 := by kernel_rfl
theorem ps123nw : placesS Tryz.prog 123 = some [(0, 5)] := by kernel_rfl
theorem sz29nw : (Tryz.prog.info? 29).map (·.size) = some 4 := by kernel_rfl
theorem zc123nw : ((Tryz.prog.info? 123).bind (·.zero)).map (·.cells.toList) = some [.int .i64 0, .int .i64 0, .slice none 0 0, .slice none 0 0, .slice none 0 0] := by kernel_rfl

def Run (pv : Int) (ls : List (Int × Int × Int × List Int)) (k : Nat) : Prop := k ≤ ls.length ∧ (∀ j, j < k → (ls.getD j e0).1 = pv + 1 + j) ∧ (k = ls.length ∨ (k < ls.length ∧ ¬ (ls.getD k e0).1 = pv + 1 + k))
def inB (bi : Int) (es : List (Int × Int × Int × List Int)) (i : Int) : Prop := bi < i ∧ i ≤ bi + es.length
instance (bi : Int) (es : List (Int × Int × Int × List Int)) (i : Int) : Decidable (inB bi es i) := by unfold inB; infer_instance
def termL (bi bt : Int) (es : List (Int × Int × Int × List Int)) (i : Int) : Int := if i = bi then bt else if inB bi es i then (es.getD (i - bi - 1).toNat e0).2.1 else -1
def hasB (bi : Int) (es : List (Int × Int × Int × List Int)) (ix tm : Int) : Bool := decide (inB bi es ix ∧ (es.getD (ix - bi - 1).toNat e0).2.1 = tm)
def cutL (bi : Int) (es : List (Int × Int × Int × List Int)) (i : Int) : List (Int × Int × Int × List Int) := if inB bi es i then es.take (i - bi - 1).toNat else es
theorem inB_at {bi : Int} {es : List (Int × Int × Int × List Int)} {i : Int} (h : inB bi es i) : ∃ k : Nat, i = bi + 1 + k ∧ k < es.length ∧ (i - bi - 1).toNat = k ∧ es[k]? = some (es.getD k e0) := by
 unfold inB at h
 refine ⟨(i - bi - 1).toNat, by omega, by omega, rfl, ?_⟩
 have : (i - bi - 1).toNat < es.length := by omega
 rw [List.getD, List.getElem?_eq_getElem this]; rfl
theorem term_any (B : Nat) (bi bt : Int) (cf d : List Int) (es : List (Int × Int × Int × List Int)) (pc pd pl : Option Addr) (cc cd cl : Nat) (w0 : World) (i : Int) (hB : Blk w0 B 123 [.int .i64 bi, .int .i64 bt, .slice pc cf.length cc, .slice pd d.length cd, .slice pl (es.map entD).length cl]) (hl : Rd (fun _ => True) w0 (.slice pl (es.map entD).length cl) (.l 4 (es.map entD))) (hbi : -1000000000000000000 ≤ bi ∧ bi ≤ 1000000000000000000) (hn : es.length ≤ 1000000) :
   Calls Tryz.prog 113 #[.pointer (some ⟨B, 0, none⟩), .int .i64 i] w0 fun e w' => e = .returned (.int .i64 (termL bi bt es i)) ∧ Below w0.heap.size w0 w' := by
 unfold termL
 by_cases h1 : i = bi
 · subst h1; rw [if_pos rfl]; exact term_at B i bt cf d es pc pd pl cc cd cl w0 hB hl hbi hn
 · rw [if_neg h1]
   by_cases h2 : inB bi es i
   · rw [if_pos h2]
     obtain ⟨k, a1, a2, a3, a4⟩ := inB_at h2
     rw [a3]
     obtain ⟨⟨ei, et, ek, ed⟩, he⟩ : ∃ e, es.getD k e0 = e := ⟨_, rfl⟩
     rw [he] at a4 ⊢
     exact term_in B bi bt cf d es pc pd pl cc cd cl w0 k i hB hl hbi hn a4 a1
   · rw [if_neg h2]
     exact term_out B bi bt cf d es pc pd pl cc cd cl w0 i hB hl hbi hn (by unfold inB at h2; omega)
set_option maxRecDepth 100000
set_option maxHeartbeats 4000000
theorem grow_fr (X : Cx) (B : Nat) (bi bt : Int) (cf d : List Int) (es ls : List (Int × Int × Int × List Int)) (pc pd pl pa : Option Addr) (cc cd cl ca nn : Nat) (w0 : World) (hbi : -1000000000000000000 ≤ bi ∧ bi ≤ 1000000000000000000) (hn : es.length + ls.length ≤ 1000000) (hok : EntsOk ls) (m0 : MemOk X w0 [(1, .box B 123 [.int .i64 bi, .int .i64 bt, .slice pc cf.length cc, .slice pd d.length cd, .slice pl (es.map entD).length cl]), (2, .seg (.slice pl (es.map entD).length cl) 62 4 (es.map entD)), (3, .dat (.slice pc cf.length cc) (.ns .i64 cf)), (4, .dat (.slice pd d.length cd) (.ns .u8 d)), (5, .dat (.slice pa nn ca) (.l 4 (ls.map entD)))] w0) :
   Calls Tryz.prog 77 #[.pointer (some ⟨B, 0, none⟩), .slice pa nn ca] w0 fun e w' => ∃ (k : Nat) (pl' : Option Addr) (cl' : Nat), e = .returned (.tuple #[]) ∧ Run (bi + es.length) ls k ∧ MemOk X w0 [(1, .box B 123 [.int .i64 bi, .int .i64 bt, .slice pc cf.length cc, .slice pd d.length cd, .slice pl' ((es ++ ls.take k).map entD).length cl']), (2, .seg (.slice pl' ((es ++ ls.take k).map entD).length cl') 62 4 ((es ++ ls.take k).map entD)), (3, .dat (.slice pc cf.length cc) (.ns .i64 cf)), (4, .dat (.slice pd d.length cd) (.ns .u8 d))] w' := by
 refine enter (fn := Tryz.f77) Tryz.func77 rfl Tryz.ntmps77 rfl (fun Az Hz => ?_)
 simp only [List.zipIdx_cons, List.zipIdx_nil, List.map_cons, List.map_nil, Nat.reduceAdd, Nat.zero_add] at Hz
 have m1 : MemOk _ _ [(1, _), (2, _), (3, _), (4, _), (5, _)] _ := m0.only [1, 2, 3, 4, 5]; clear m0
 refine region_p 10 (B := [(1, _), (2, _), (3, _), (4, _), (5, _)]) (m1.to ⟨il, il, il, il, il, trivial⟩) m1 (by kernel_rfl) (fun w2 hP2 m2 => ?_); clear m1
 refine goR hP2 [0, 1, 2, 3, 4, 5, 7] [4] 7 0 191 Hz (m2.to ⟨il, il, il, il, il, trivial⟩) (.move rfl <| .move rfl <| .nilCheck rfl <| .fieldAddr (off := 4) rfl Tryz.underlying121 rfl (s := 0) (by kernel_rfl) rfl <| .loadB1 hh (i := 1) rfl rfl rfl Tryz.underlying30 rfl <| .move rfl <| .move rfl <| .nil) ?_
 clear Hz Az; intro Az Hz
 refine stepE_only 6 rfl (by kernel_rfl) rfl (fun K hK => ?_)
 refine e_call Hz Tryz.func75 rfl rfl rfl rfl (last_any _ _ _ _ _ _ _ _ _ (m2.ok 1 _ rfl : Res.ok _ _ _ _ (.box _ _ _)).1 (by omega) (by first | omega | (simp; omega) | simp)) ?_
 rintro e w10 ⟨rfl, hb10⟩
 have m11 := m2.later hb10
 clear m2
 clear hb10
 refine ⟨_, rfl, ?_⟩; clear Hz Az; intro Az Hz
 refine hK _ _ (m11.to ⟨il, il, il, il, il, trivial⟩) ?_; clear hK K
 refine stepE_only 8 rfl (by kernel_rfl) rfl (fun K hK => ?_)
 refine e_call Hz Tryz.func123 rfl rfl rfl rfl (run_any _ ls _ _ _ _ (m11.rd (i := 5) rfl).any (by omega) (by first | omega | (simp; omega))) ?_
 rintro e w14 ⟨k, rfl, hk1, hk2, hk3, hb14⟩
 try rw [List.length_map] at hk2 hk3
 have m15 := m11.later hb14
 clear m11
 have m16 := m15.takeR (i := 5) rfl k (by simp; omega) 6 rfl
 clear m15
 rw [← List.map_take] at m16
 clear hb14
 refine ⟨_, rfl, ?_⟩; clear Hz Az; intro Az Hz
 refine hK _ _ (m16.to ⟨il, il, il, il, il, trivial⟩) ?_; clear hK K
 refine stepE_only 9 rfl (by kernel_rfl) rfl (fun K hK => ?_)
 refine e_call Hz Tryz.func118 rfl rfl rfl rfl (list_any (ls.take k) _ _ _ _ ((m16.rd (i := 6) rfl).any) (by simp; omega) (fun e he => hok e (List.mem_of_mem_take he))) ?_
 rintro e w18 ⟨p18, c18, rfl, hd18, hb18⟩
 have m19 := m16.callF 7 rfl hb18 hd18
 clear m16
 clear hb18 hd18
 refine ⟨_, rfl, ?_⟩; clear Hz Az; intro Az Hz
 refine hK _ _ (m19.to ⟨il, il, il, il, il, trivial⟩) ?_; clear hK K
 refine stepE_end 10 rfl (by kernel_rfl) rfl (by rfl) (fun K hK => ?_)
 refine e_appSA Hz m19 2 rfl rfl rfl (m19.rd (i := 7) rfl).cells Tryz.underlying30 inf62gr rfl rfl (by decide) (by simp; omega) rfl ?_
 clear Hz Az m19; intro p21 c21 Az w22 Hz m22
 refine hK _ _ ?_; clear hK K
 refine goB hP2 [11, 12] 2 2047 8191 Hz (.nilCheck rfl <| .fieldAddr (off := 4) rfl Tryz.underlying121 rfl (s := 0) (by kernel_rfl) rfl <| .nil) ?_
 clear Hz Az; intro Az Hz
 refine stepE_end 13 rfl (by kernel_rfl) rfl (by rfl) (fun K hK => ?_)
 refine e_store1 Hz m22 1 rfl rfl rfl rfl rfl sz30gr (by dsimp only [List.set] <;> rfl) ?_
 clear m22; intro w25 m25 hB25
 clear hB25
 refine hK _ _ ?_; clear hK K
 refine wpAnyE_done (by kernel_rfl) ?_ _
 try dsimp only [Exit.then]
 try refine out_here ?_
 refine (ret0 (fn := Tryz.f77) Hz rfl ?_)
 rw [← List.map_append] at m25
 exact ⟨k, _, _, rfl, ⟨hk1, hk2, hk3⟩, m25.only [1, 2, 3, 4]⟩
theorem reset_fr (X : Cx) (B : Nat) (x0 x1 x2 x3 x4 : Value) (w0 : World) (bi bt : Int) (cf d : List Int) (pc pd : Option Addr) (cc cd : Nat) (hcf : cf.length ≤ 1000000) (hdl : d.length ≤ 140737488351232) (m0 : MemOk X w0 [(1, .box B 123 [x0, x1, x2, x3, x4]), (5, .dat (.slice pc cf.length cc) (.ns .i64 cf)), (6, .dat (.slice pd d.length cd) (.ns .u8 d))] w0) :
   Calls Tryz.prog 76 #[.pointer (some ⟨B, 0, none⟩), .agg #[.int .i64 bi, .int .i64 bt, .slice pc cf.length cc, .slice pd d.length cd]] w0 fun e w' => ∃ (pc' : Option Addr) (cc' : Nat) (pd' : Option Addr) (cd' : Nat), e = .returned (.tuple #[]) ∧ MemOk X w0 [(1, .box B 123 [.int .i64 bi, .int .i64 bt, .slice pc' cf.length cc', .slice pd' d.length cd', .slice none (([] : List (Int × Int × Int × List Int)).map entD).length 0]), (2, .seg (.slice none (([] : List (Int × Int × Int × List Int)).map entD).length 0) 62 4 (([] : List (Int × Int × Int × List Int)).map entD)), (3, .dat (.slice pc' cf.length cc') (.ns .i64 cf)), (4, .dat (.slice pd' d.length cd') (.ns .u8 d))] w' := by
 refine enter (fn := Tryz.f76) Tryz.func76 rfl Tryz.ntmps76 rfl (fun Az Hz => ?_)
 simp only [List.zipIdx_cons, List.zipIdx_nil, List.map_cons, List.map_nil, Nat.reduceAdd, Nat.zero_add] at Hz
 refine wp_seq_k (fun K0 hK0 => ?_)
 refine wp_region_lit ?_
 refine wpList_plain rfl (fun K hK => ?_)
 refine e_box Hz m0 7 (cs := [_, _, _, _]) rfl rfl rfl ?_
 clear Hz Az m0; intro g1 Az w2 Hz m2 hB2 hg2
 clear hB2 hg2
 refine hK _ _ ?_; clear hK K
 refine wpList_nil ?_
 refine hK0 _ _ ?_; clear hK0; try clear K0
 refine wp_region_lit ?_
 refine goCh Hz (.move rfl <| .move rfl <| .loadBR m2 (i := 7) rfl rfl Tryz.underlying29 rfl sz29re (by simp) (by dsimp only [List.drop, List.take] <;> rfl) <| .nil) ?_
 clear Hz Az; intro Az Hz
 refine wpList_plain rfl (fun K hK => ?_)
 refine e_call Hz Tryz.func81 rfl rfl rfl rfl (base_any _ _ cf d _ _ _ _ _ ((m2.rd (i := 5) rfl).any) ((m2.rd (i := 6) rfl).any) hcf hdl) ?_
 rintro e w6 ⟨p6, c6, q6, b6, rfl, hc6, hd6, hb6⟩
 have m7 := m2.callFF 8 9 rfl rfl hb6 hc6 hd6
 clear m2
 clear hb6 hc6 hd6
 refine ⟨_, rfl, ?_⟩; clear Hz Az; intro Az Hz
 refine hK _ _ ?_; clear hK K
 refine goCh Hz (.nilCheck rfl <| .fieldAddr (off := 0) rfl Tryz.underlying123 rfl (s := 4) (by kernel_rfl) rfl <| .fieldAddr (off := 0) rfl Tryz.underlying121 rfl (s := 3) (by kernel_rfl) rfl <| .nil) ?_
 clear Hz Az; intro Az Hz
 refine wpList_plain rfl (fun K hK => ?_)
 refine e_storeR Hz m7 1 rfl rfl rfl rfl rfl sz29re (by dsimp only [List.take, List.drop, List.append_eq, List.append] <;> rfl) ?_
 clear m7; intro w12 m12 hB12
 clear hB12
 refine hK _ _ ?_; clear hK K
 refine goCh Hz (.nilCheck rfl <| .fieldAddr (off := 0) rfl Tryz.underlying123 rfl (s := 4) (by kernel_rfl) rfl <| .fieldAddr (off := 4) rfl Tryz.underlying121 rfl (s := 0) (by kernel_rfl) rfl <| .nil) ?_
 clear Hz Az; intro Az Hz
 refine wpList_plain rfl (fun K hK => ?_)
 refine e_store1 Hz m12 1 rfl rfl rfl rfl rfl sz30re (by dsimp only [List.set] <;> rfl) ?_
 clear m12; intro w16 m16 hB16
 clear hB16
 refine hK _ _ ?_; clear hK K
 refine wpList_nil ?_
 try dsimp only [Exit.then]
 try refine out_here ?_
 refine (ret0 (fn := Tryz.f76) Hz rfl ?_)
 have m17 := m16.nilS 2 62 4; clear m16
 exact ⟨_, _, _, _, rfl, m17.ren [(1, 1), (2, 2), (3, 8), (4, 9)] (by decide)⟩
theorem new_fr (X : Cx) (bi bt : Int) (cf d : List Int) (ls : List (Int × Int × Int × List Int)) (pc pd pa : Option Addr) (cc cd ca nn : Nat) (w0 : World) (hbi : -1000000000000000000 ≤ bi ∧ bi ≤ 1000000000000000000) (hcf : cf.length ≤ 1000000) (hdl : d.length ≤ 140737488351232) (hn : ls.length ≤ 1000000) (hok : EntsOk ls) (m0 : MemOk X w0 [(5, .dat (.slice pc cf.length cc) (.ns .i64 cf)), (6, .dat (.slice pd d.length cd) (.ns .u8 d)), (7, .dat (.slice pa nn ca) (.l 4 (ls.map entD)))] w0) :
   Calls Tryz.prog 36 #[.agg #[.int .i64 bi, .int .i64 bt, .slice pc cf.length cc, .slice pd d.length cd], .slice pa nn ca] w0 fun e w' => ∃ (B k : Nat) (pc' : Option Addr) (cc' : Nat) (pd' : Option Addr) (cd' : Nat) (pl' : Option Addr) (cl' : Nat), e = .returned (.pointer (some ⟨B, 0, none⟩)) ∧ Run bi ls k ∧ MemOk X w0 [(1, .box B 123 [.int .i64 bi, .int .i64 bt, .slice pc' cf.length cc', .slice pd' d.length cd', .slice pl' ((ls.take k).map entD).length cl']), (2, .seg (.slice pl' ((ls.take k).map entD).length cl') 62 4 ((ls.take k).map entD)), (3, .dat (.slice pc' cf.length cc') (.ns .i64 cf)), (4, .dat (.slice pd' d.length cd') (.ns .u8 d))] w' := by
 refine enter (fn := Tryz.f36) Tryz.func36 rfl Tryz.ntmps36 rfl (fun Az Hz => ?_)
 simp only [List.zipIdx_cons, List.zipIdx_nil, List.map_cons, List.map_nil, Nat.reduceAdd, Nat.zero_add] at Hz
 refine wp_seq_k (fun K0 hK0 => ?_)
 refine wp_region_lit ?_
 refine wpList_plain rfl (fun K hK => ?_)
 refine e_box Hz m0 8 (cs := [_, _, _, _]) rfl rfl rfl ?_
 clear Hz Az m0; intro g1 Az w2 Hz m2 hB2 hg2
 clear hB2 hg2
 refine hK _ _ ?_; clear hK K
 refine goCh Hz (.assign rfl .nil) ?_
 clear Hz Az; intro Az Hz
 refine wpList_nil ?_
 refine hK0 _ _ ?_; clear hK0; try clear K0
 refine wp_seq_k (fun K1 hK1 => ?_)
 refine wp_region_lit ?_
 refine goCh Hz (.buildG rfl zc123nw ps123nw rfl .nil) ?_
 clear Hz Az; intro Az Hz
 refine wpList_plain rfl (fun K hK => ?_)
 refine e_box Hz m2 9 (cs := [_, _, _, _, _]) rfl rfl rfl ?_
 clear Hz Az m2; intro g6 Az w7 Hz m7 hB7 hg7
 clear hB7 hg7
 refine hK _ _ ?_; clear hK K
 refine goCh Hz (.assign rfl .nil) ?_
 clear Hz Az; intro Az Hz
 refine wpList_nil ?_
 refine hK1 _ _ ?_; clear hK1; try clear K1
 refine wp_seq_k (fun K2 hK2 => ?_)
 refine wp_region_lit ?_
 refine goCh Hz (.move rfl <| .loadBR m7 (i := 8) rfl rfl Tryz.underlying29 rfl sz29nw (by simp) (by dsimp only [List.drop, List.take] <;> rfl) <| .nil) ?_
 clear Hz Az; intro Az Hz
 refine wpList_plain rfl (fun K hK => ?_)
 refine e_call Hz Tryz.func76 rfl rfl rfl rfl (reset_fr _ _ _ _ _ _ _ _ bi bt cf d _ _ _ _ hcf hdl (m7.into [(1, 9), (5, 5), (6, 6)] (by decide) rfl)) ?_
 rintro e w13 ⟨pc13, cc13, pd13, cd13, rfl, hm13⟩
 have mx13 := m7.back hm13 [(11, 1), (12, 2), (13, 3), (14, 4)] (by decide); clear hm13 m7
 have m13 : MemOk _ _ [(11, _), (12, _), (13, _), (14, _), (7, _), (8, _)] _ := mx13.only [11, 12, 13, 14, 7, 8]; clear mx13
 refine ⟨_, rfl, ?_⟩; clear Hz Az; intro Az Hz
 refine hK _ _ ?_; clear hK K
 refine wpList_nil ?_
 refine hK2 _ _ ?_; clear hK2; try clear K2
 replace Hz : Has 17 [(1, _), (4, _), (5, _)] Az := Hz.only [1, 4, 5]
 refine wp_seq_k (fun K3 hK3 => ?_)
 refine wp_region_lit ?_
 refine goCh Hz (.move rfl <| .nilCheck rfl <| .fieldAddr (off := 0) rfl Tryz.underlying123 rfl (s := 4) (by kernel_rfl) rfl <| .move rfl <| .nil) ?_
 clear Hz Az; intro Az Hz
 refine wpList_plain rfl (fun K hK => ?_)
 refine e_call Hz Tryz.func77 rfl rfl rfl rfl (grow_fr _ _ _ _ cf d [] ls _ _ _ _ _ _ _ _ _ _ (by omega) (by simp; omega) hok (m13.into [(1, 11), (2, 12), (3, 13), (4, 14), (5, 7)] (by decide) rfl)) ?_
 rintro e w24 ⟨k, pl24, cl24, rfl, hrun, hm24⟩
 have mx24 := m13.back hm24 [(11, 1), (12, 2), (13, 3), (14, 4)] (by decide); clear hm24 m13
 have m24 : MemOk _ _ [(11, _), (12, _), (13, _), (14, _), (8, _)] _ := mx24.only [11, 12, 13, 14, 8]; clear mx24
 refine ⟨_, rfl, ?_⟩; clear Hz Az; intro Az Hz
 refine hK _ _ ?_; clear hK K
 refine wpList_nil ?_
 refine hK3 _ _ ?_; clear hK3; try clear K3
 replace Hz : Has 17 [(4, _), (5, _)] Az := Hz.only [4, 5]
 refine regS Hz (.move rfl <| .assign rfl <| .nil) ?_
 clear Hz Az; intro Az Hz
 refine wp_ret ?_
 try dsimp only [Exit.then, Exit.inBlock]
 refine (ret1 (fn := Tryz.f36) Hz rfl rfl ?_)
 rw [List.nil_append] at m24
 simp only [List.length_nil, Int.natCast_zero, Int.add_zero] at hrun
 exact ⟨_, k, _, _, _, _, _, _, rfl, hrun, m24.ren [(1, 11), (2, 12), (3, 13), (4, 14)] (by decide)⟩
end
section
theorem strict_ext : ∀ (a b : List Int), a.Pairwise (· < ·) → b.Pairwise (· < ·) → (∀ x, x ∈ a ↔ x ∈ b) → a = b
 | [], [], _, _, _ => rfl
 | [], y :: b, _, _, h => absurd ((h y).2 (by simp)) (by simp)
 | x :: a, [], _, _, h => absurd ((h x).1 (by simp)) (by simp)
 | x :: a, y :: b, ha, hb, h => by
   have ha' := List.pairwise_cons.1 ha
   have hb' := List.pairwise_cons.1 hb
   have e : x = y := by
     rcases List.mem_cons.1 ((h x).1 (by simp)) with e | h1
     · exact e
     · rcases List.mem_cons.1 ((h y).2 (by simp)) with e | h2
       · exact e.symm
       · have := ha'.1 y h2; have := hb'.1 x h1; omega
   subst e
   congr 1
   refine strict_ext a b ha'.2 hb'.2 (fun z => ⟨fun hz => ?_, fun hz => ?_⟩)
   · rcases List.mem_cons.1 ((h z).1 (by simp [hz])) with e | h1
     · have := ha'.1 z hz; omega
     · exact h1
   · rcases List.mem_cons.1 ((h z).2 (by simp [hz])) with e | h1
     · have := hb'.1 z hz; omega
     · exact h1

theorem compact_mem (zs : List Int) (x : Int) : x ∈ Lib.compact zs ↔ x ∈ zs := by
 unfold Lib.compact Lib.compactUpTo
 simp only [List.mem_map, List.mem_filter, List.mem_range]
 constructor
 · rintro ⟨j, ⟨hj, _⟩, rfl⟩
   have : zs.toArray[j]! = zs[j] := by simp [hj]
   rw [this]; exact List.getElem_mem hj
 · intro hx
   obtain ⟨j, hj, rfl⟩ := List.getElem_of_mem hx
   clear hx
   induction j with
   | zero => exact ⟨0, ⟨hj, by simp [Lib.keeps]⟩, by simp [hj]⟩
   | succ j ih =>
     by_cases hk : Lib.keeps zs.toArray (j + 1) = true
     · exact ⟨j + 1, ⟨hj, hk⟩, by simp [hj]⟩
     · have he : zs[j + 1] = zs[j] := by
         simp [Lib.keeps, hj, show j < zs.length by omega] at hk
         exact hk
       rw [he]
       exact ih (by omega)

theorem compact_strict (zs : List Int) (hs : zs.Pairwise (· ≤ ·)) : (Lib.compact zs).Pairwise (· < ·) := by
 unfold Lib.compact Lib.compactUpTo
 rw [List.pairwise_map]
 have hidx := List.pairwise_iff_getElem.1 hs
 have hr : ((List.range zs.length).filter (Lib.keeps zs.toArray)).Pairwise (· < ·) := List.Pairwise.filter _ List.pairwise_lt_range
 refine List.Pairwise.imp_of_mem ?_ hr
 intro i j hi hj hij
 simp only [List.mem_filter, List.mem_range] at hi hj
 obtain ⟨hi1, _⟩ := hi
 obtain ⟨hj1, hk⟩ := hj
 rcases j with _ | j
 · omega
 · have h1 : zs[j + 1] ≠ zs[j] := by
     simp [Lib.keeps, hj1, show j < zs.length by omega] at hk
     exact hk
   have h2 := hidx j (j + 1) (by omega) hj1 (by omega)
   have h3 : zs[i] ≤ zs[j] := by
     by_cases e : i = j
     · subst e; omega
     · exact hidx i j hi1 (by omega) (by omega)
   have e1 : zs.toArray[i]! = zs[i] := by simp [hi1]
   have e2 : zs.toArray[j + 1]! = zs[j + 1] := by simp [hj1]
   rw [e1, e2]; omega

def okB (n : Int) : Bool := decide (0 ≤ n ∧ n < 7)
def ofL (l : List Int) : List Int := Lib.compact ((l.filter okB).mergeSort fun x y => decide (x ≤ y))
def canon (l : List Int) : List Int := [0, 1, 2, 3, 4, 5, 6].filter fun n => l.contains n

theorem canon_mem (l : List Int) (x : Int) : x ∈ canon l ↔ x ∈ l ∧ 0 ≤ x ∧ x < 7 := by
 unfold canon
 simp only [List.mem_filter, List.contains_iff_mem, List.mem_cons, List.not_mem_nil, or_false]
 constructor
 · rintro ⟨h, hl⟩; exact ⟨hl, by omega, by omega⟩
 · rintro ⟨hl, h0, h1⟩; exact ⟨by omega, hl⟩
theorem canon_strict (l : List Int) : (canon l).Pairwise (· < ·) := List.Pairwise.filter _ (by decide)
theorem ofL_canon (l : List Int) : ofL l = canon l := by
 refine strict_ext _ _ (compact_strict _ ?_) (canon_strict l) (fun x => ?_)
 · have := List.pairwise_mergeSort (le := fun x y : Int => decide (x ≤ y)) (by intro a b c h1 h2; simp at *; omega) (by intro a b; simp; omega) (l.filter okB)
   exact this.imp (by intro a b h; simpa using h)
 · unfold ofL
   rw [compact_mem, canon_mem, List.mem_mergeSort, List.mem_filter]
   simp [okB]
theorem canon_len (l : List Int) : (canon l).length ≤ 7 := List.length_filter_le _ _
end
end Go.Proofs.YtndnnlbdnjndiaaGreat.K
section
namespace Go.Proofs.YtndnnlbdnjndiaaGreat.K
open Go.ChangeShapes Go.WideShapes Go.ChangeAt Go.RowKit Go.Sort
set_option linter.unusedVariables false
set_option linter.unusedSimpArgs false

theorem info_int : (Tryz.prog.info? 3).map (fun i => (i.zero, i.size, i.bytes)) = some (some (.int .i64 0), 1, 8) := by kernel_rfl
theorem maybe_any (n : Int) (w : World) : Calls Tryz.prog 131 #[.int .i64 n] w fun e w' => e = .returned (.bool (okB n)) ∧ w = w' := by
 by_cases h : 0 ≤ n
 · by_cases h7 : n < 7
   · go_enter Tryz.func131, Tryz.ntmps131
     go_wp2
     go_ret
     exact ⟨ret_bool (by simp [okB, h, h7]), rfl⟩
   · go_enter Tryz.func131, Tryz.ntmps131
     go_wp2
     go_ret
     exact ⟨ret_bool (by simp [okB, h7]), rfl⟩
 · go_enter Tryz.func131, Tryz.ntmps131
   go_wp2
   go_ret
   exact ⟨ret_bool (by simp [okB]; omega), rfl⟩
theorem own_take {w : World} {B g cap n m : Nat} {e : TypeId} {xs : List Value} (h : w.ownsRow B e 1 (.slice (some ⟨g, 0, none⟩) n cap) n xs) (hm : m ≤ n) : w.ownsRow B e 1 (.slice (some ⟨g, 0, none⟩) m cap) m (xs.take m) := by
 obtain ⟨h1, ⟨h2, _⟩ | ⟨g', cap', cur, ev, hg, hb, k1, k2, k3, k4⟩⟩ := h
 · cases h2
 · cases ev
   refine ⟨by simp; omega, .inr ⟨g, cap, cur, rfl, hg, hb, by omega, k2, k3, ?_⟩⟩
   rw [← k4, List.take_take]
   congr 1; omega
theorem ownsRow_low {w : World} {B B' : Nat} {e : TypeId} {s : Nat} {v : Value} {n : Nat} {xs : List Value} (h : w.ownsRow B e s v n xs) (hB : B' ≤ B) : w.ownsRow B' e s v n xs := by
 obtain ⟨h1, h2 | ⟨g, cap, cur, a, b, r⟩⟩ := h
 · exact ⟨h1, .inl h2⟩
 · exact ⟨h1, .inr ⟨g, cap, cur, a, Nat.le_trans hB b, r⟩⟩
theorem filter_snoc (l : List Int) (k : Nat) (h : k < l.length) : (l.take (k + 1)).filter okB = (l.take k).filter okB ++ if okB (l.getD k 0) = true then [l.getD k 0] else [] := by
 rw [List.take_succ_eq_append_getElem h, List.filter_append]
 congr 1
 simp only [List.getD, List.getElem?_eq_getElem h, Option.getD_some, List.filter_cons, List.filter_nil]
def OfPost (w : World) (l : List Int) (e : Ending) (w' : World) : Prop :=
 ∃ u, e = .returned u ∧ w'.ownsRow w.heap.size 3 1 u (ofL l).length ((ofL l).map (Value.int .i64)) ∧ Below w.heap.size w w'
set_option maxRecDepth 100000 in
set_option maxHeartbeats 2000000 in
theorem of_any (v : Value) (l : List Int) (w : World) (hv : IsNums .i64 w v l) (hl : l.length ≤ 1000) :
   Calls Tryz.prog 88 #[v] w (OfPost w l) := by
 obtain ⟨p, c, rfl, h⟩ := hv
 have H := Lib.hid h
 clear h
 go_enter Tryz.func88, Tryz.ntmps88
 go_wp2
 go_loopw [3, 8] (fun u i wr => ∃ k : Nat, k ≤ l.length ∧ i = .int .i64 k ∧ wr.ownsRow w.heap.size 3 1 u ((l.take k).filter okB).length (((l.take k).filter okB).map (Value.int .i64)) ∧ Below w.heap.size w wr) (fun _ i _ => l.length - (intOf i).toNat)
 case atStart => exact ⟨0, Nat.zero_le _, rfl, World.ownsRow_nil _ _ _ _, Below.refl _ _⟩
 case round =>
   obtain ⟨k, hk, rfl, hown, hbel⟩ := hrel
   have hfl : ((l.take k).filter okB).length ≤ k := Nat.le_trans (List.length_filter_le _ _) (List.length_take_le _ _)
   by_cases hlt : k < l.length
   · obtain h0 | ⟨b, off, rfl, hblk, hcell⟩ := H.out
     · omega
     have hc : wr.cell? ⟨b, off + k, none⟩ = some (.int .i64 (l.getD k 0)) := by rw [hbel.cell hblk]; exact hcell k hlt
     have hsn := filter_snoc l k hlt
     obtain ⟨x, hx⟩ : ∃ x, l.getD k 0 = x := ⟨_, rfl⟩
     rw [hx] at hc hsn
     have hsz := hbel.size
     obtain ⟨N, hN⟩ : ∃ N, ((l.take k).filter okB).length = N := ⟨_, rfl⟩
     rw [hN] at hown hfl
     have HN := Lib.hid hN
     clear hcell hx hN
     by_cases hok : okB x = true
     · rw [if_pos hok] at hsn
       have HS := Lib.hid hsn
       clear hsn
       go_wp2_with (first | (go_at_call 131; ((with_reducible refine (maybe_any _ _).mono ?_); rintro e w' ⟨rfl, rfl⟩)) | (at_builtin; refine wpList_app1 rfl _ _ 26 rfl w.heap.size 3 .i64 8 Tryz.underlying26 info_int (by omega) _ _ _ rfl hown _ 1 rfl (by omega) hsz ?_; intro v' w' hown' hb'))
       go_roundw
       case rel => exact ⟨k + 1, by omega, by go_num, by rw [HS.out, List.length_append, List.map_append, HN.out]; exact hown', hbel.trans hb'⟩
       case measure => simp [intOf]; omega
     · have hok' : okB x = false := by simpa using hok
       rw [if_neg hok, List.append_nil] at hsn
       have HS := Lib.hid hsn
       clear hsn hok
       go_wp2_with (go_at_call 131; ((with_reducible refine (maybe_any _ _).mono ?_); rintro e w' ⟨rfl, rfl⟩))
       go_roundw
       case rel => exact ⟨k + 1, by omega, by go_num, by rw [HS.out, HN.out]; exact hown, hbel⟩
       case measure => simp [intOf]; omega
   · obtain rfl : k = l.length := by omega
     rw [List.take_length] at hown hfl
     have hdef : ofL l = Lib.compact ((l.filter okB).mergeSort fun x y => decide (x ≤ y)) := rfl
     generalize l.filter okB = F at hown hfl hdef
     have HD := Lib.hid hdef
     clear hdef
     rcases hown.2 with ⟨rfl, h0⟩ | ⟨g, cap, cur, rfl, hbase, hb, h1, h2, h3, h4⟩
     · obtain rfl := List.length_eq_zero_iff.1 h0
       go_wp2_with (first | (go_at_call 132; refine (Tryz.slices_Sort_int_none none 0 _).mono ?_; rintro e w' ⟨rfl, rfl⟩) | (go_at_call 133; refine (Tryz.slices_Compact_int_empty none 0 _).mono ?_; rintro e w' ⟨rfl, rfl⟩))
       go_ret
       have hd0 : ofL l = [] := by rw [HD.out]; simp [Lib.compact, Lib.compactUpTo]
       exact ⟨_, rfl, by rw [hd0]; exact World.ownsRow_nil _ _ _ _, hbel⟩
     · have hg : g < wr.heap.size := (Array.getElem?_eq_some_iff.1 hb).1
       have hsort := Tryz.slices_Sort_int g 0 cap F wr (holds_of_blockI hb (by simpa using h4)) hg (by omega)
       clear h4
       go_wp2_with fail
       refine hsort.mono ?_
       rintro e w2 ⟨rfl, nn, os, rfl⟩
       have hSl : (F.mergeSort fun x y => decide (x ≤ y)).length = F.length := by simp
       have hown2 := ownsRow_sortedI (w := wr) (n := nn) (os := os) (ss := F) (ts := F.mergeSort fun x y => decide (x ≤ y)) (by simp) hbase hb h1 h2 h3
       have hb2 := hbel.grown (grownBy_sortedI (w := wr) (n := nn) (os := os) (g := g) (F.mergeSort fun x y => decide (x ≤ y)).toArray) hbel.size (fun j hj => by cases hj; exact hbase)
       generalize grow (putRow (Value.int .i64) (Sort.ahead wr nn) g 0 (F.mergeSort fun x y => decide (x ≤ y)).toArray) os = w2 at hown2 hb2 ⊢
       have HSl := Lib.hid hSl
       generalize (F.mergeSort fun x y => decide (x ≤ y)) = S at hown2 hSl HSl HD
       rcases hown2.2 with ⟨hq, _⟩ | ⟨g2, cap2, cur2, ev, hg2, hbb, k1, k2, k3, k4⟩
       · cases hq
       cases ev
       rw [← HSl.out] at h1 k1 k4 ⊢
       have hcomp := Tryz.slices_Compact_int g 0 cap S w2 (holds_of_blockI hbb (by simpa using k4)) (by omega) k1
       have hcl := Lib.compact_length_le S
       have K1 := Lib.hid k1
       have K2 := Lib.hid k2
       have K3 := Lib.hid k3
       have HBB := Lib.hid hbb
       clear hsort hown hown2 h1 h2 h3 hSl k1 k2 k3 k4 hb hbb
       go_wp2_with fail
       refine hcomp.mono ?_
       rintro e w3 ⟨rfl, q, rfl⟩
       have hZl : (Lib.compact S ++ List.replicate (S.length - (Lib.compact S).length) 0).length = S.length := by simp; omega
       have hown3 := ownsRow_sortedI (w := w2) (n := q) (os := #[]) (ss := S) (ts := Lib.compact S ++ List.replicate (S.length - (Lib.compact S).length) 0) hZl hbase HBB.out K1.out K2.out K3.out
       have hb3 := hb2.grown (grownBy_sortedI (w := w2) (n := q) (os := #[]) (g := g) (Lib.compact S ++ List.replicate (S.length - (Lib.compact S).length) 0).toArray) hb2.size (fun j hj => by cases hj; exact hbase)
       rw [grow_empty] at hown3 hb3
       have hown4 := own_take hown3 hcl
       rw [← List.map_take, List.take_left' rfl] at hown4
       clear hown3 hcomp hb2
       go_wp2
       go_ret
       exact ⟨_, rfl, by rw [HD.out]; exact hown4, hb3⟩
def ListPost (w : World) (l : List Int) (e : Ending) (w' : World) : Prop :=
 ∃ u, e = .returned u ∧ w'.ownsRow w.heap.size 3 1 u l.length (l.map (Value.int .i64)) ∧ Below w.heap.size w w'
theorem ofL_len (l : List Int) : (ofL l).length ≤ 7 := by rw [ofL_canon]; exact canon_len l
set_option maxRecDepth 100000 in
set_option maxHeartbeats 2000000 in
theorem with_any (v : Value) (l : List Int) (n : Int) (w : World) (hv : IsNums .i64 w v l) (hl : l.length ≤ 900) :
   Calls Tryz.prog 141 #[v, .int .i64 n] w (ListPost w (ofL (ofL l ++ [n]))) := by
 obtain ⟨p, c, rfl, -⟩ := id hv
 have H := Lib.hid hv
 clear hv
 go_enter Tryz.func141, Tryz.ntmps141
 go_wp2_with fail
 refine (of_any _ l _ H.out (by omega)).mono ?_
 rintro e w1 ⟨u, rfl, hown, hb⟩
 have hn := ofL_len l
 have hz := hb.size
 go_wp2_with (at_builtin; refine wpList_app1 rfl _ _ 26 rfl w.heap.size 3 .i64 8 Tryz.underlying26 info_int (by omega) _ _ _ rfl hown _ 1 rfl (by omega) hz ?_; intro v2 w2 hown2 hb2)
 have hN2 : IsNums .i64 w2 v2 (ofL l ++ [n]) := IsNums.ofOwn (B := w.heap.size) (e := 3) (n := (ofL l).length + 1) (by simpa using hown2)
 have hB2 := hb.trans hb2
 refine (of_any _ _ _ hN2 (by simp; omega)).mono ?_
 rintro e w3 ⟨u3, rfl, hown3, hb3⟩
 have hB3 := hB2.trans (hb3.mono hB2.size)
 have hown4 := ownsRow_low hown3 hB2.size
 clear hown hown2 hown3 hN2 hb hb2 hb3 hB2
 go_wp2
 go_ret
 exact ⟨_, rfl, hown4, hB3⟩
theorem dropn_snoc (l : List Int) (n : Int) (k : Nat) (h : k < l.length) : (l.take (k + 1)).filter (fun x => decide (x ≠ n)) = (l.take k).filter (fun x => decide (x ≠ n)) ++ if l.getD k 0 ≠ n then [l.getD k 0] else [] := by
 rw [List.take_succ_eq_append_getElem h, List.filter_append]
 congr 1
 simp only [List.getD, List.getElem?_eq_getElem h, Option.getD_some, List.filter_cons, List.filter_nil, decide_eq_true_eq]
set_option maxRecDepth 100000 in
set_option maxHeartbeats 2000000 in
theorem without_any (v : Value) (l : List Int) (n : Int) (w : World) (hv : IsNums .i64 w v l) (hl : l.length ≤ 900) :
   Calls Tryz.prog 128 #[v, .int .i64 n] w (ListPost w ((ofL l).filter fun x => decide (x ≠ n))) := by
 obtain ⟨p, c, rfl, -⟩ := id hv
 have H := Lib.hid hv
 clear hv
 go_enter Tryz.func128, Tryz.ntmps128
 go_wp2_with fail
 refine (of_any _ l _ H.out (by omega)).mono ?_
 rintro e w1 ⟨u, rfl, hown, hb⟩
 have hn := ofL_len l
 have hz := hb.size
 obtain ⟨O, hOO⟩ : ∃ O, ofL l = O := ⟨_, rfl⟩
 rw [hOO] at hown hn
 have HOO := Lib.hid hOO
 clear hOO
 have hO := IsNums.ofOwn hown
 obtain ⟨pu, cu, rfl, hO⟩ := hO
 have HO := Lib.hid hO
 clear hown hO
 obtain ⟨wo, rfl⟩ : ∃ wo : World, wo = w1 := ⟨_, rfl⟩
 go_wp2
 go_loopw [5, 11] (fun u i wr => ∃ k : Nat, k ≤ O.length ∧ i = .int .i64 k ∧ wr.ownsRow wo.heap.size 3 1 u ((O.take k).filter fun x => decide (x ≠ n)).length (((O.take k).filter fun x => decide (x ≠ n)).map (Value.int .i64)) ∧ Below wo.heap.size wo wr) (fun _ i _ => O.length - (intOf i).toNat)
 case atStart => exact ⟨0, Nat.zero_le _, rfl, World.ownsRow_nil _ _ _ _, Below.refl _ _⟩
 case round =>
   obtain ⟨k, hk, rfl, hown, hbel⟩ := hrel
   have hfl : ((O.take k).filter fun x => decide (x ≠ n)).length ≤ k := Nat.le_trans (List.length_filter_le _ _) (List.length_take_le _ _)
   by_cases hlt : k < O.length
   · obtain h0 | ⟨b, off, rfl, hblk, hcell⟩ := HO.out
     · omega
     have hc : wr.cell? ⟨b, off + k, none⟩ = some (.int .i64 (O.getD k 0)) := by rw [hbel.cell hblk]; exact hcell k hlt
     have hsn := dropn_snoc O n k hlt
     obtain ⟨x, hx⟩ : ∃ x, O.getD k 0 = x := ⟨_, rfl⟩
     rw [hx] at hc hsn
     have hsz := hbel.size
     obtain ⟨N, hN⟩ : ∃ N, ((O.take k).filter fun x => decide (x ≠ n)).length = N := ⟨_, rfl⟩
     rw [hN] at hown hfl
     have HN := Lib.hid hN
     clear hcell hx hN
     by_cases hq : x = n
     · have hqb : (x == n) = true := by simpa using hq
       rw [if_neg (by simpa using hq), List.append_nil] at hsn
       have HS := Lib.hid hsn
       clear hsn hq
       go_wp2
       go_roundw
       case rel => exact ⟨k + 1, by omega, by go_num, by rw [HS.out, HN.out]; exact hown, hbel⟩
       case measure => simp [intOf]; omega
     · have hqb : (x == n) = false := by simpa using hq
       rw [if_pos hq] at hsn
       have HS := Lib.hid hsn
       clear hsn hq
       go_wp2_with (at_builtin; refine wpList_app1 rfl _ _ 26 rfl wo.heap.size 3 .i64 8 Tryz.underlying26 info_int (by omega) _ _ _ rfl hown _ 1 rfl (by omega) hsz ?_; intro v' w' hown' hb')
       go_roundw
       case rel => exact ⟨k + 1, by omega, by go_num, by rw [HS.out, List.length_append, List.map_append, HN.out]; exact hown', hbel.trans hb'⟩
       case measure => simp [intOf]; omega
   · obtain rfl : k = O.length := by omega
     rw [List.take_length] at hown
     have hB3 := hb.trans (hbel.mono hz)
     have hown4 := ownsRow_low hown hz
     go_wp2
     go_ret
     exact ⟨_, rfl, by rw [HOO.out]; exact hown4, hB3⟩

end Go.Proofs.YtndnnlbdnjndiaaGreat.K
end
namespace Go.Proofs.YtndnnlbdnjndiaaGreat.K
open Go.ChangeShapes Go.WideShapes Go.ChangeAt Go.RowKit
set_option linter.unusedVariables false
set_option linter.unusedSimpArgs false
section
def timeOk (n low : Int) : Bool := decide (low ≤ n ∧ n ≤ 1099511627776)
theorem time_any (n low : Int) (w : World) :
   Calls Tryz.prog 145 #[.int .i64 n, .int .i64 low] w fun e w' => e = .returned (.bool (timeOk n low)) ∧ w' = w := by
 by_cases h1 : low ≤ n
 · by_cases h2 : n ≤ 1099511627776
   · go_enter Tryz.func145, Tryz.ntmps145
     go_wp2
     go_ret
     exact ⟨ret_bool (by simp [timeOk, h1, h2]), rfl⟩
   · go_enter Tryz.func145, Tryz.ntmps145
     go_wp2
     go_ret
     exact ⟨ret_bool (by simp [timeOk]; omega), rfl⟩
 · go_enter Tryz.func145, Tryz.ntmps145
   go_wp2
   go_ret
   exact ⟨ret_bool (by simp [timeOk]; omega), rfl⟩
def dataOk (k : Int) (d : List Int) : Bool :=
 if k = 0 then decide (d.length = 0) else if k = 1 then decide (d.length ≤ 32767) else if k = 2 then decide (d.length = 2 ∧ d.getD 0 0 < 7 ∧ d.getD 1 0 ≤ 1) else false
set_option maxRecDepth 100000 in
theorem dataRight_any (k : Int) (v : Value) (d : List Int) (w : World) (hv : IsNums .u8 w v d) :
   Calls Tryz.prog 146 #[.int .i64 k, v] w fun e w' => e = .returned (.bool (dataOk k d)) ∧ w' = w := by
 obtain ⟨a, c, rfl, hd⟩ := hv
 by_cases k0 : k = 0
 · subst k0
   obtain ⟨n, hn⟩ : ∃ n, d.length = n := ⟨_, rfl⟩
   rw [hn]
   have hz : dataOk 0 d = decide (n = 0) := by unfold dataOk; rw [if_pos rfl, hn]
   rw [hz]
   clear hd hz hn
   by_cases n0 : n = 0
   · subst n0
     go_enter Tryz.func146, Tryz.ntmps146
     go_wp2
     go_ret
     exact ⟨rfl, rfl⟩
   · have nI : ¬ (n : Int) = 0 := by omega
     go_enter Tryz.func146, Tryz.ntmps146
     go_wp2
     go_ret
     exact ⟨ret_bool (by simp [n0]), rfl⟩
 · by_cases k1 : k = 1
   · subst k1
     obtain ⟨n, hn⟩ : ∃ n, d.length = n := ⟨_, rfl⟩
     rw [hn]
     have hz : dataOk 1 d = decide (n ≤ 32767) := by unfold dataOk; rw [if_neg (by decide), if_pos rfl, hn]
     rw [hz]
     clear hd hz hn k0
     by_cases n0 : n ≤ 32767
     · have nI : (n : Int) ≤ 32767 := by omega
       go_enter Tryz.func146, Tryz.ntmps146
       go_wp2
       go_ret
       exact ⟨ret_bool (by simp [n0]), rfl⟩
     · have nI : ¬ (n : Int) ≤ 32767 := by omega
       go_enter Tryz.func146, Tryz.ntmps146
       go_wp2
       go_ret
       exact ⟨ret_bool (by simp [n0]), rfl⟩
   · by_cases k2 : k = 2
     · subst k2
       have hz : dataOk 2 d = decide (d.length = 2 ∧ d.getD 0 0 < 7 ∧ d.getD 1 0 ≤ 1) := by unfold dataOk; rw [if_neg (by decide), if_neg (by decide), if_pos rfl]
       rw [hz]
       obtain ⟨n, hn⟩ : ∃ n, d.length = n := ⟨_, rfl⟩
       rw [hn] at hd ⊢
       have HN := Lib.hid hn
       clear hz hn k0 k1
       by_cases n0 : n = 2
       · subst n0
         obtain hd | ⟨b, off, rfl, hlt, hc⟩ := hd
         · omega
         have c0 := hc 0 (by omega)
         have c1 := hc 1 (by omega)
         obtain ⟨x, hx⟩ : ∃ x, d.getD 0 0 = x := ⟨_, rfl⟩
         obtain ⟨y, hy⟩ : ∃ x, d.getD 1 0 = x := ⟨_, rfl⟩
         rw [hx] at c0 ⊢
         rw [hy] at c1 ⊢
         rw [Nat.add_zero] at c0
         clear hc hx hy
         by_cases x0 : x < 7
         · by_cases y0 : y ≤ 1
           · go_enter Tryz.func146, Tryz.ntmps146
             go_wp2
             go_ret
             exact ⟨ret_bool (by simp [x0, y0]), rfl⟩
           · go_enter Tryz.func146, Tryz.ntmps146
             go_wp2
             go_ret
             exact ⟨ret_bool (by simp; omega), rfl⟩
         · go_enter Tryz.func146, Tryz.ntmps146
           go_wp2
           go_ret
           exact ⟨ret_bool (by simp; omega), rfl⟩
       · have nI : ¬ (n : Int) = 2 := by omega
         clear hd
         go_enter Tryz.func146, Tryz.ntmps146
         go_wp2
         go_ret
         exact ⟨ret_bool (by simp [n0]), rfl⟩
     · have hz : dataOk k d = false := by unfold dataOk; rw [if_neg k0, if_neg k1, if_neg k2]
       rw [hz]
       clear hd hz
       go_enter Tryz.func146, Tryz.ntmps146
       go_wp2
       go_ret
       exact ⟨rfl, rfl⟩
def entV (i t k : Int) (v : Value) : Value := .agg #[.int .i64 i, .int .i64 t, .int .i64 k, v]
def entOk (i t k : Int) (d : List Int) : Bool := timeOk i 1 && timeOk t 0 && dataOk k d
set_option maxRecDepth 100000 in
theorem entRight_any (i t k : Int) (v : Value) (d : List Int) (w : World) (hv : IsNums .u8 w v d) :
   Calls Tryz.prog 114 #[entV i t k v] w fun e w' => e = .returned (.bool (entOk i t k d)) ∧ Below w.heap.size w w' := by
 have hb := (Below.refl w.heap.size w).alloc (Nat.le_refl _) (.cells #[.int .i64 i, .int .i64 t, .int .i64 k, v] 62)
 have hx := Blk.alloc w 62 #[.int .i64 i, .int .i64 t, .int .i64 k, v]
 have hn := hv.alloc (.cells #[.int .i64 i, .int .i64 t, .int .i64 k, v] 62)
 obtain ⟨a, c, rfl, -⟩ := id hv
 have x0 := hx.cell 0
 have x1 := hx.cell 1
 have x2 := hx.cell 2
 have x3 := hx.cell 3
 have B := Lib.hid hb
 have HNN := Lib.hid hn
 unfold entV
 cases h1 : timeOk i 1 with
 | false =>
   have hz : entOk i t k d = false := by unfold entOk; rw [h1]; rfl
   rw [hz]
   have H1 := Lib.hid h1
   clear hb hx hn hv h1 hz
   go_enter Tryz.func114, Tryz.ntmps114
   go_wp2_with fail
   refine (time_any i 1 _).mono ?_
   rintro e w1 ⟨rfl, rfl⟩
   rw [H1.out]
   go_wp2
   go_ret
   exact ⟨rfl, B.out⟩
 | true =>
   have H1 := Lib.hid h1
   cases h2 : timeOk t 0 with
   | false =>
     have hz : entOk i t k d = false := by unfold entOk; rw [h1, h2]; rfl
     rw [hz]
     have H2 := Lib.hid h2
     clear hb hx hn hv h1 h2 hz
     go_enter Tryz.func114, Tryz.ntmps114
     go_wp2_with fail
     refine (time_any i 1 _).mono ?_
     rintro e w1 ⟨rfl, rfl⟩
     rw [H1.out]
     go_wp2_with fail
     refine (time_any t 0 _).mono ?_
     rintro e w1 ⟨rfl, rfl⟩
     rw [H2.out]
     go_wp2
     go_ret
     exact ⟨rfl, B.out⟩
   | true =>
     have hz : entOk i t k d = dataOk k d := by unfold entOk; rw [h1, h2]; rfl
     rw [hz]
     have H2 := Lib.hid h2
     clear hb hx hn hv h1 h2 hz
     go_enter Tryz.func114, Tryz.ntmps114
     go_wp2_with fail
     refine (time_any i 1 _).mono ?_
     rintro e w1 ⟨rfl, rfl⟩
     rw [H1.out]
     go_wp2_with fail
     refine (time_any t 0 _).mono ?_
     rintro e w1 ⟨rfl, rfl⟩
     rw [H2.out]
     go_wp2_with fail
     refine (dataRight_any k _ d _ HNN.out).mono ?_
     rintro e w1 ⟨rfl, rfl⟩
     obtain ⟨bq, hbq⟩ : ∃ b, dataOk k d = b := ⟨_, rfl⟩
     rw [hbq]
     go_wp2
     go_ret
     exact ⟨by rw [hbq]; rfl, B.out⟩
end
end Go.Proofs.YtndnnlbdnjndiaaGreat.K
