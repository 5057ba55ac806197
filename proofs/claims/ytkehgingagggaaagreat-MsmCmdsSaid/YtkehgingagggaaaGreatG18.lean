/- General laws of walks. -/
import Derived.Test.YtkehgingagggaaaGreatG9
import Derived.Test.YtkehgingagggaaaGreatG17
import Derived.Test.YtkehgingagggaaaGreatG6
namespace Go.Proofs.YtkehgingagggaaaGreat.K
open Go.ChangeShapes Go.WideShapes Go.ChangeAt Go.RowKit
set_option linter.unusedVariables false
set_option linter.unusedSimpArgs false
section
def WrsB (ws : List (Int × List (Int × List Int))) : Prop := ∀ e ∈ ws,e.2.length ≤ 8 ∧ ItsB e.2
theorem WrsB.ok {ws : List (Int × List (Int × List Int))} (h : WrsB ws) : WrsOk ws := fun e he => ⟨Nat.le_trans (h e he).1 (by decide),(h e he).2.ok⟩
set_option maxRecDepth 100000
set_option maxHeartbeats 4000000
theorem vright_nn (vo bl sz pe to ne fl : Int) (hi : Bool) (place pins : List Int) (ws : List (Int × List (Int × List Int))) (pp pn pw : Option Addr) (cp cn9 cw : Nat) (nn : Nat) (w0 : World) (h0 : Rd (fun _ => True) w0 (.slice pp place.length cp) (.ns .i64 place)) (h1 : Rd (fun _ => True) w0 (.slice pn pins.length cn9) (.ns .i64 pins)) (h2 : Rd (fun _ => True) w0 (.slice pw nn cw) (.l 2 (ws.map wrD))) (hn : place.length ≤ 1000000) (hp : pins.length ≤ 1000000) (hl : ws.length ≤ 1000000) (hwl : ∀ e ∈ ws,e.2.length ≤ 1000000) :
   Calls Tryz.prog 63 #[.agg #[.int .i64 vo,.int .i64 bl,.int .i64 sz,.int .i64 pe,.slice pp place.length cp,.int .i64 to,.int .i64 ne,.bool hi,.int .i64 fl,.slice pn pins.length cn9,.slice pw nn cw]] w0 fun e w' => ∃ b : Bool,e = .returned (.bool b) ∧ (b = true ↔ VolR vo bl sz pe to ne fl hi place pins ws) ∧ Below w0.heap.size w0 w' := by
 obtain rfl : nn = ws.length := by obtain ⟨pq,cq,hv,_⟩ := h2.l_shape; injection hv with _ e2 _; rw [List.length_map] at e2; exact e2
 exact vright_any vo bl sz pe to ne fl hi place pins ws pp pn pw cp cn9 cw w0 h0 h1 h2 hn hp hl hwl
end
section
set_option maxRecDepth 100000
set_option maxHeartbeats 4000000
end
section
theorem VolS.sm {n : Nat} {x : VolV} (h : VolS n x) : x.place.length ≤ 256 ∧ x.pins.length ≤ n ∧ x.ws.length ≤ n ∧ ∀ e ∈ x.ws,e.2.length ≤ 8 := by
 obtain ⟨h1,h2,h3,h4,-⟩ := h
 refine ⟨?_,h3,h4,h1.its.2⟩
 obtain ⟨⟨a1,a2,a3,a4,a5,a6,a7,a8,a9,a10,a11⟩,b1,b2,b3⟩ := h1
 have h9 := a9.2
 have : (x.bl + x.pe - 1) / x.pe ≤ x.bl + x.pe - 1 := Int.ediv_le_self _ (by omega)
 have h8 : (x.bl + x.pe - 1) / x.pe ≤ x.bl := by
   have := Int.ediv_lt_of_lt_mul (a := x.bl + x.pe - 1) (b := x.bl + 1) (c := x.pe) (by omega) (by
     have : x.bl * 1 ≤ x.bl * x.pe := Int.mul_le_mul_of_nonneg_left (by omega) (by omega)
     rw [Int.add_mul]; omega)
   omega
 omega
theorem pins_eq {P L : List Int} (h : P.Perm L) (h1 : P.Pairwise (· ≤ ·)) (h2 : L.Pairwise (· ≤ ·)) : P = L := h.eq_of_pairwise (le := (· ≤ ·)) (fun a b _ _ h1 h2 => by omega) h1 h2
def pinT (fl n : Int) (z : Int) : Int := fl + z % (n - fl + 1)
abbrev stZ (bl sz : Int) : List (List Int) := List.replicate bl.toNat (List.replicate sz.toNat 0)
abbrev stL (bl sz : Int) (ws : List PWr) (t : Nat) : List (List Int) := (ws.take t).foldl stW (stZ bl sz)
def wantF (i : Nat) (d : List Int) (x : PI) : List Int := if x.1 = (i : Int) then x.2 else d
set_option maxRecDepth 100000
set_option maxHeartbeats 4000000
end
section
noncomputable def doV (x : VolV) (c : Cm) : VolV × Int :=
 if c.kd = 4 then ({ x with pins := (pinR x.hi x.fl c.at0 x.ws.length x.pins).1 },(pinR x.hi x.fl c.at0 x.ws.length x.pins).2)
 else if c.kd = 5 then ({ x with pins := (unpinR x.hi c.at0 x.pins).1 },(unpinR x.hi c.at0 x.pins).2)
 else ({ x with ne := (doR x.bl x.sz x.to x.ne x.fl x.hi x.pins x.ws c.kd c.at0 c.ix c.its).1,hi := (doR x.bl x.sz x.to x.ne x.fl x.hi x.pins x.ws c.kd c.at0 c.ix c.its).2.1,fl := (doR x.bl x.sz x.to x.ne x.fl x.hi x.pins x.ws c.kd c.at0 c.ix c.its).2.2.1,ws := (doR x.bl x.sz x.to x.ne x.fl x.hi x.pins x.ws c.kd c.at0 c.ix c.its).2.2.2.1 },(doR x.bl x.sz x.to x.ne x.fl x.hi x.pins x.ws c.kd c.at0 c.ix c.its).2.2.2.2)
def repV (y : VolV) (e : Int) : Int × Int × Int := if e = 0 then ((y.ws.length : Int),y.fl,y.ne) else (0,0,0)
theorem repV_of {y : VolV} {e rl rf rn : Int} (h : (e ≠ 0 ∧ rl = 0 ∧ rf = 0 ∧ rn = 0) ∨ (e = 0 ∧ rl = y.ws.length ∧ rf = y.fl ∧ rn = y.ne)) : repV y e = (rl,rf,rn) := by
 rcases h with ⟨h1,rfl,rfl,rfl⟩ | ⟨rfl,rfl,rfl,rfl⟩
 · rw [repV,if_neg h1]
 rw [repV,if_pos rfl]
theorem doV_s {n : Nat} {x : VolV} {c : Cm} (hx : VolS n x) (hb : ∀ e ∈ c.its,BytesL e.2) : VolS (n + 1) (doV x c).1 ∧ (doV x c).1.vo = x.vo := by
 obtain ⟨h1,h2,h3,h4,h5⟩ := hx
 unfold doV
 by_cases k4 : c.kd = 4
 · rw [if_pos k4]
   cases hd : pinR x.hi x.fl c.at0 x.ws.length x.pins with
   | mk pins' e9 =>
     obtain ⟨g1,g2,g3⟩ := h1.pin h2 hd
     exact ⟨⟨g1,g2,by simp only; omega,by simp only; omega,h5⟩,rfl⟩
 rw [if_neg k4]
 by_cases k5 : c.kd = 5
 · rw [if_pos k5]
   cases hd : unpinR x.hi c.at0 x.pins with
   | mk pins' e9 =>
     obtain ⟨g1,g2,g3⟩ := h1.unpin h2 hd
     exact ⟨⟨g1,g2,by simp only; omega,by simp only; omega,h5⟩,rfl⟩
 rw [if_neg k5]
 obtain ⟨ne',hi',fl',ws',e9,hd⟩ : ∃ a b d e f,doR x.bl x.sz x.to x.ne x.fl x.hi x.pins x.ws c.kd c.at0 c.ix c.its = (a,b,d,e,f) := ⟨_,_,_,_,_,rfl⟩
 obtain ⟨g1,g2,g3⟩ := h1.do h2 hd
 rw [hd]
 exact ⟨⟨g1,g2,by simp only; omega,by simp only; omega,doR_by hd h5 hb⟩,rfl⟩
set_option maxHeartbeats 4000000
theorem vnewY (kd vo bl sz pe to at0 ix : Int) (place : List Int) (pp pi : Option Addr) (cp ni ci : Nat) (w0 : World) (h0 : Rd (fun _ => True) w0 (.slice pp place.length cp) (.ns .i64 place)) (hn : place.length ≤ 1000000) (hN : NewOk vo bl sz pe to place) :
   Calls Tryz.prog 95 #[.agg #[.int .i64 kd,.int .i64 vo,.int .i64 bl,.int .i64 sz,.int .i64 pe,.slice pp place.length cp,.int .i64 to,.int .i64 at0,.int .i64 ix,.slice pi ni ci]] w0 fun e w' => ∃ p c,e = .returned (.tuple #[.agg #[.int .i64 vo,.int .i64 bl,.int .i64 sz,.int .i64 pe,.slice p place.length c,.int .i64 to,.int .i64 0,.bool (decide (0 < to)),.int .i64 0,.slice none 0 0,.slice none 0 0],.int .i64 0]) ∧ Rd (New w0) w' (.slice p place.length c) (.ns .i64 place) ∧ Below w0.heap.size w0 w' :=
 (vnew_any kd vo bl sz pe to at0 ix place pp pi cp ni ci w0 h0 hn).mono fun e w' h => h.elim (fun h => h.2) (fun h => absurd hN h.1)
theorem vnewN (kd vo bl sz pe to at0 ix : Int) (place : List Int) (pp pi : Option Addr) (cp ni ci : Nat) (w0 : World) (h0 : Rd (fun _ => True) w0 (.slice pp place.length cp) (.ns .i64 place)) (hn : place.length ≤ 1000000) (hN : ¬ NewOk vo bl sz pe to place) :
   Calls Tryz.prog 95 #[.agg #[.int .i64 kd,.int .i64 vo,.int .i64 bl,.int .i64 sz,.int .i64 pe,.slice pp place.length cp,.int .i64 to,.int .i64 at0,.int .i64 ix,.slice pi ni ci]] w0 fun e w' => e = .returned (.tuple #[.agg #[.int .i64 0,.int .i64 0,.int .i64 0,.int .i64 0,.slice none 0 0,.int .i64 0,.int .i64 0,.bool false,.int .i64 0,.slice none 0 0,.slice none 0 0],.int .i64 23]) ∧ Below w0.heap.size w0 w' :=
 (vnew_any kd vo bl sz pe to at0 ix place pp pi cp ni ci w0 h0 hn).mono fun e w' h => h.elim (fun h => absurd h.1 hN) (fun h => h.2)
end
end Go.Proofs.YtkehgingagggaaaGreat.K
section
namespace Go.Proofs.YtkehgingagggaaaGreat.K
open Go.ChangeShapes Go.WideShapes Go.ChangeAt Go.RowKit Go.MapKept
set_option linter.unusedVariables false
set_option linter.unusedSimpArgs false
theorem setSelf9 {α : Type} {l : List α} {j : Nat} {x : α} (h : l[j]? = some x) : l.set j x = l := by
 obtain ⟨h1,h2⟩ := List.getElem?_eq_some_iff.1 h
 rw [← h2]; exact List.set_getElem_self h1
section
variable {w w0 : World} {X : Cx} {M : Mm} {P : Program} {n : Nat} {T : List (Nat × Value)} {a : Act} {tt : TypeId} {pos : String} {af : Array Edge} {gd : Option (Nat × Bool)}
structure KeyT (P : Program) (kt : TypeId) (K : Value → Prop) : Prop where
 chk : ∀ (w : World) (k : Value) (e : Bool),K k → (Instr.checkKey e 10000 kt k).run P w = .ok () w
 fnd : ∀ (w : World) (k : Value) (es : List MapEntry),K k → (∀ e ∈ es,K e.key) → (es.map (·.key)).Nodup → (∀ j e,es[j]? = some e → e.key = k → (Instr.findKey kt k es).run P w = .ok (some (j,e.val)) w) ∧ ((∀ e ∈ es,e.key ≠ k) → (Instr.findKey kt k es).run P w = .ok none w)
 stay : ∀ (w : World) (k : Value),K k → (Instr.keyThatStays k k).run P w = .ok k w
theorem nodup_at {α : Type} {l : List α} {i j : Nat} {x : α} (h : l.Nodup) (h1 : l[i]? = some x) (h2 : l[j]? = some x) : i = j :=
 (List.getElem?_inj (List.getElem?_eq_some_iff.1 h1).1 h).1 (h1.trans h2.symm)
theorem KeyT.int {kt : TypeId} {q : IntKind} (hu : P.underlying kt = some (.int q)) : KeyT P kt (fun k => ∃ x,k = .int q x) where
 chk w k e h := by
   obtain ⟨x,rfl⟩ := h
   exact run_checkKey hu (by simp [IsKey]) e 9999
 fnd w k es h hes hnd := by
   obtain ⟨x,rfl⟩ := h
   have hk : IsKey (.int q) (.int q x) := by simp [IsKey]
   have hl : ∀ e ∈ es,IsKey (.int q) e.key := fun e he => by obtain ⟨y,hy⟩ := hes e he; rw [hy]; simp [IsKey]
   rcases findNow_spec hk es 0 hl with ⟨h1,h2⟩ | ⟨j,e,h1,h2,h3⟩
   · refine ⟨fun j e he hek => absurd hek (h2 e (List.mem_of_getElem? he)),fun _ => run_findKey hu h1⟩
   refine ⟨fun j' e' he' hek =>?_,fun hno => absurd h3 (hno e (List.mem_of_getElem? h2))⟩
   have a1 : (es.map (·.key))[j]? = some (.int q x) := by rw [List.getElem?_map,h2]; exact congrArg some h3
   have a2 : (es.map (·.key))[j']? = some (.int q x) := by rw [List.getElem?_map,he']; exact congrArg some hek
   obtain rfl := nodup_at hnd a1 a2
   rw [h2] at he'; injection he' with he'; subst he'
   have := run_findKey (w := w) hu h1
   rw [Nat.zero_add] at this
   exact this
 stay w k h := by
   obtain ⟨x,rfl⟩ := h
   have := sameBits_self (d := .int q) (k := .int q x) (by simp [IsKey]) 10000
   simp [Instr.keyThatStays,this,Sem.run]
/-! ### Looking up -/
theorem y_lookT (h : Has n T a) {d : Option Tmp} {t kt et : TypeId} {x y : Operand} {g : Nat} {k : Value} {K : Value → Prop} {es : Array MapEntry} {ck j : Nat} {v : Value} (hx : evT T x = some (.map (some g))) (hy : evT T y = some k) (hu : P.underlying t = some (.map kt et)) (hK : KeyT P kt K) (hkk : K k) (hb : w.heap[g]? = some (.map es ck)) (hf : (Instr.findKey kt k es.toList).run P w = .ok (some (j,v)) w) : Yl P a w ⟨d,.lookup t x y true,tt,pos,af,gd⟩ (.tuple #[v,.bool true]) := by
 show (execOp _ _).run P w = _
 simp [execOp,h.ev hx,h.ev hy,Instr.lookup,run_underlying hu,MapKept.run_getObj_map hb,hK.chk w k es.isEmpty hkk,hf,Result.andThen]
theorem y_lookT1 (h : Has n T a) {d : Option Tmp} {t kt et : TypeId} {x y : Operand} {g : Nat} {k : Value} {K : Value → Prop} {es : Array MapEntry} {ck j : Nat} {v : Value} (hx : evT T x = some (.map (some g))) (hy : evT T y = some k) (hu : P.underlying t = some (.map kt et)) (hK : KeyT P kt K) (hkk : K k) (hb : w.heap[g]? = some (.map es ck)) (hf : (Instr.findKey kt k es.toList).run P w = .ok (some (j,v)) w) : Yl P a w ⟨d,.lookup t x y false,tt,pos,af,gd⟩ v := by
 show (execOp _ _).run P w = _
 simp [execOp,h.ev hx,h.ev hy,Instr.lookup,run_underlying hu,MapKept.run_getObj_map hb,hK.chk w k es.isEmpty hkk,hf,Result.andThen]
theorem y_lookF (h : Has n T a) {d : Option Tmp} {t kt et : TypeId} {x y : Operand} {g : Nat} {k z : Value} {K : Value → Prop} {es : Array MapEntry} {ck : Nat} (hx : evT T x = some (.map (some g))) (hy : evT T y = some k) (hu : P.underlying t = some (.map kt et)) (hz : (P.info? et).bind (·.zero) = some z) (hK : KeyT P kt K) (hkk : K k) (hb : w.heap[g]? = some (.map es ck)) (hf : (Instr.findKey kt k es.toList).run P w = .ok none w) : Yl P a w ⟨d,.lookup t x y true,tt,pos,af,gd⟩ (.tuple #[z,.bool false]) := by
 show (execOp _ _).run P w = _
 cases hi : P.info? et with
 | none => simp [hi] at hz
 | some it =>
   have hzz : it.zero = some z := by simpa [hi] using hz
   simp [execOp,h.ev hx,h.ev hy,Instr.lookup,run_underlying hu,MapKept.run_getObj_map hb,hK.chk w k es.isEmpty hkk,hf,Result.andThen,zeroValue,typeInfo,hi,hzz]
theorem y_lenM (h : Has n T a) (m : MemOk X w0 M w) {d : Option Tmp} {t kt et : TypeId} {x : Operand} {i g mm : Nat} {ks : List Value} {rows : List (List D)} (hm : lk M i = some (.mp g mm ks rows)) (hx : evT T x = some (.map (some g))) (hu : P.underlying t = some (.map kt et)) : Yl P a w ⟨d,.call { callee := .builtin .len,args := #[x],argTypes := #[t] },tt,pos,af,gd⟩ (.int .i64 (ks.length : Nat)) := by
 obtain ⟨⟨es,ck,h1,h2,_⟩,_⟩ := m.ok i _ hm
 show (execOp _ _).run P w = _
 have := h.ev hx
 simp [execOp,resolve,invoke,builtin,this,Builtin.len_,run_underlying hu,MapKept.run_getObj_map h2,goInt,← h1]
/-! ### Making, writing -/
theorem Keep.setO (w : World) (g : Nat) (o : Obj) : Keep (fun b => b = g) w { w with heap := w.heap.setIfInBounds g o } :=
 ⟨rfl,rfl,rfl,by show _ ≤ (w.heap.setIfInBounds g o).size; rw [Array.size_setIfInBounds]; exact Nat.le_refl _,fun k hk hn => by show (w.heap.setIfInBounds g o)[k]? = _; rw [Array.getElem?_setIfInBounds]; rw [if_neg (fun e => hn e.symm)]⟩
theorem e_makeMap {Q : Exit → Act → World → Prop} {K : Act → World → Prop} (ha : Has n T a) (m : MemOk X w0 M w) (i : Nat) (mm : Nat) {d : Tmp} {t : TypeId} (ht : Nat.blt d n = true) (h : ∀ g a' w',Has n ((d,.map (some g)) :: T) a' → MemOk X w0 ((i,.mp g mm [] []) :: M) w' → Below w.heap.size w w' → g = w.heap.size → K a' w') : Oper.wp P ⟨some d,.makeMap t none,tt,pos,af,gd⟩ a w K Q := by
 have hr : (execOp a.eval ⟨some d,.makeMap t none,tt,pos,af,gd⟩).run P w = .ok (.value (.map (some w.heap.size))) (w.alloc (.map #[] 0)) := by
   simp [execOp,Instr.makeMap]
 show Oper.upon P _ a K Q _
 rw [hr]
 refine h _ _ _ (ha.put ht _) ?_ ((Below.refl _ w).alloc (Nat.le_refl _) _) rfl
 refine m.upd i _ (Keep.alloc _ _ _) (fun b hb => .inr (by injection hb with hb; omega)) (fun _ _ => ⟨⟨[],0,rfl,?_,⟨List.nodup_nil,List.nodup_nil,fun e he => by cases he⟩,rfl,(fun r hr => by cases hr),(fun j e r he => by cases he)⟩,.inl m.keep.size⟩)
 show (w.heap.push _)[w.heap.size]? = _
 simp
def mpuK (ks : List Value) (k : Value) : Option Nat → List Value
 | none => ks ++ [k]
 | some _ => ks
def mpuR (rows : List (List D)) (r : List D) : Option Nat → List (List D)
 | none => rows ++ [r]
 | some j => rows.set j r
theorem e_mapUpdate {Q : Exit → Act → World → Prop} {K9 : Act → World → Prop} (ha : Has n T a) (m : MemOk X w0 M w) (i : Nat) {t kt et : TypeId} {x y z : Operand} {g mm : Nat} {ks : List Value} {rows : List (List D)} {k : Value} {vs : List Value} {r : List D} {K : Value → Prop} (hm : lk M i = some (.mp g mm ks rows)) (hx : evT T x = some (.map (some g))) (hy : evT T y = some k) (hz : evT T z = some (.agg vs.toArray)) (hu : P.underlying t = some (.map kt et)) (hK : KeyT P kt K) (hks : ∀ x ∈ ks,K x) (hkk : K k) (h1 : vs.all (fun v => v.oneCell') = true) (hl : vs.length = mm) (hR : RdL (Free X M) w vs r)
   (jo : Option Nat) (hj : match jo with | none => ∀ x ∈ ks,x ≠ k | some j => ks[j]? = some k)
   (h : ∀ w',MemOk X w0 ((i,.mp g mm (mpuK ks k jo) (mpuR rows r jo)) :: M) w' → Keep (fun b => b = g) w w' → K9 a w') : Oper.wp P ⟨none,.mapUpdate t x y z,tt,pos,af,gd⟩ a w K9 Q := by
 obtain ⟨⟨es,ck,e1,e2,e3,e4,e5,e6⟩,eN⟩ := m.ok i _ hm
 subst e1
 have hfk := hK.fnd w k es hkk (fun e he => hks _ (List.mem_map.2 ⟨e,he,rfl⟩)) e3.nd
 have hgl : g < w.heap.size := (Array.getElem?_eq_some_iff.1 e2).1
 have hrl : r.length = mm := by rw [← hR.len,hl]
 have hset : ∀ (o : Obj),(setObj g o).run P w = .ok () { w with heap := w.heap.setIfInBounds g o } := fun o => MapKept.run_setObj_map o e2
 have hat : ∀ (o : Obj),({ w with heap := w.heap.setIfInBounds g o } : World).heap[g]? = some o := fun o => by
   show (w.heap.setIfInBounds g o)[g]? = some o
   rw [Array.getElem?_setIfInBounds_self_of_lt hgl]
 have hpast : ∀ (es' : List MapEntry) (ck' : Nat) (rows' : List (List D)),es'.map (·.key) = mpuK (es.map (·.key)) k jo → rows' = mpuR rows r jo → MapK es' ck' → es'.length = rows'.length → (∀ r ∈ rows',r.length = mm) →
     (∀ (j : Nat) (e : MapEntry) (r' : List D),es'[j]? = some e → rows'[j]? = some r' → (es[j]? = some e ∧ rows[j]? = some r') ∨ (e.val = .agg vs.toArray ∧ r' = r)) →
     (execOp a.eval ⟨none,.mapUpdate t x y z,tt,pos,af,gd⟩).run P w = .ok .skip { w with heap := w.heap.setIfInBounds g (.map es'.toArray ck') } → Oper.wp P ⟨none,.mapUpdate t x y z,tt,pos,af,gd⟩ a w K9 Q := by
   intro es' ck' rows' a1 a2 a3 a4 a5 a6 hrun
   show Oper.upon P _ a K9 Q _
   rw [hrun]
   have hkp := Keep.setO w g (.map es'.toArray ck')
   refine h _ (m.upd i _ (hkp.mono (fun b e => ⟨_,hm,by rw [show b = g from e]; rfl⟩)) (fun b hb => .inl ⟨_,hm,hb⟩) (fun hF _ =>?_)) hkp
   have hmv : ∀ {x : Value} {d : D},Rd (Free X M) w x d → Rd (Free X ((i,.mp g mm (mpuK (es.map (·.key)) k jo) (mpuR rows r jo)) :: M)) { w with heap := w.heap.setIfInBounds g (.map es'.toArray ck') } x d := fun hd => hd.mono hkp.size (fun b hb hS => ⟨hkp.2.2.2.2 b hb (fun e => hS.2 ⟨i,_,hm,by rw [e]; rfl⟩),hF b hb hS⟩)
   refine ⟨⟨es',ck',a1,hat _,a3,by rw [a4,a2],by rw [← a2]; exact a5,fun j e r' he hr =>?_⟩,eN⟩
   rw [← a2] at hr
   rcases a6 j e r' he hr with ⟨b1,b2⟩ | ⟨b1,b2⟩
   · obtain ⟨vs',c1,c2,c3,c4⟩ := e6 j e r' b1 b2
     exact ⟨vs',c1,c2,c3,fun q x d d1 d2 => hmv (c4 q x d d1 d2)⟩
   subst b2
   exact ⟨vs,b1,hl,List.all_eq_true.1 h1,fun q x d d1 d2 => hmv (hR.get q x d d1 d2)⟩
 cases jo with
 | none =>
   have hno : ∀ e ∈ es,e.key ≠ k := fun e he => hj _ (List.mem_map.2 ⟨e,he,rfl⟩)
   refine hpast (es ++ [{ key := k,val := .agg vs.toArray,born := ck }]) (ck + 1) _ (by rw [List.map_append]; rfl) rfl ⟨?_,?_,?_⟩ (by simp [mpuR,e4]) ?_ ?_ ?_
   · rw [List.map_append]
     refine List.nodup_append.2 ⟨e3.nd,by simp,fun a ha b hb =>?_⟩
     obtain ⟨e,he,rfl⟩ := List.mem_map.1 ha
     simp at hb; subst hb
     exact hno e he
   · rw [List.map_append]
     refine List.nodup_append.2 ⟨e3.bn,by simp,fun a ha b hb =>?_⟩
     obtain ⟨e,he,rfl⟩ := List.mem_map.1 ha
     simp at hb; subst hb
     have := e3.lt e he; omega
   · intro e he
     rcases List.mem_append.1 he with he | he
     · have := e3.lt e he; omega
     simp at he; subst he; exact Nat.lt_succ_self _
   · intro r' hr'
     rcases List.mem_append.1 hr' with hr' | hr'
     · exact e5 r' hr'
     simp at hr'; subst hr'; exact hrl
   · intro j e r' he hr'
     by_cases hjl : j < es.length
     · rw [List.getElem?_append_left hjl] at he
       rw [show mpuR rows r none = rows ++ [r] from rfl,List.getElem?_append_left (by omega)] at hr'
       exact .inl ⟨he,hr'⟩
     rw [List.getElem?_append_right (by omega)] at he
     rw [show mpuR rows r none = rows ++ [r] from rfl,List.getElem?_append_right (by omega)] at hr'
     have hj0 : j - es.length = 0 := by
       rcases Nat.eq_zero_or_pos (j - es.length) with h0 | h0
       · exact h0
       rw [List.getElem?_eq_none (by simp; omega)] at he; cases he
     rw [hj0] at he
     rw [show j - rows.length = 0 by omega] at hr'
     injection he with he; injection hr' with hr'
     exact .inr ⟨by rw [← he],hr'.symm⟩
   simp [execOp,ha.ev hx,ha.ev hy,ha.ev hz,Instr.mapUpdate,run_underlying hu,MapKept.run_getObj_map e2,hK.chk w k false hkk,hfk.2 hno,hset,Result.andThen]
 | some j =>
   have hjk : (es.map (·.key))[j]? = some k := hj
   rw [List.getElem?_map] at hjk
   cases hej : es[j]? with
   | none => rw [hej] at hjk; cases hjk
   | some e0 =>
     rw [hej] at hjk; injection hjk with hjk
     have hjl := (List.getElem?_eq_some_iff.1 hej).1
     have hset' : es.modify j (fun e => { e with key := k,val := .agg vs.toArray }) = es.set j { e0 with key := k,val := .agg vs.toArray } := by
       apply List.ext_getElem?
       intro q
       rw [List.getElem?_modify,List.getElem?_set]
       by_cases hq : j = q
       · subst hq; simp [hej,hjl]; rw [(List.getElem?_eq_some_iff.1 hej).2]
       simp [hq]
     refine hpast (es.set j { e0 with key := k,val := .agg vs.toArray }) ck _ ?_ rfl ⟨?_,?_,?_⟩ (by simp [mpuR,e4]) ?_ ?_ ?_
     · rw [List.map_set]
       show _ = es.map (·.key)
       exact setSelf9 (by rw [List.getElem?_map,hej]; exact congrArg some hjk)
     · rw [List.map_set,setSelf9 (by rw [List.getElem?_map,hej]; exact congrArg some hjk)]; exact e3.nd
     · rw [List.map_set,setSelf9 (by rw [List.getElem?_map,hej]; rfl)]; exact e3.bn
     · intro e he
       rcases List.mem_or_eq_of_mem_set he with he | he
       · exact e3.lt e he
       rw [he]; exact e3.lt e0 (List.mem_of_getElem? hej)
     · intro r' hr'
       rcases List.mem_or_eq_of_mem_set hr' with hr' | hr'
       · exact e5 r' hr'
       rw [hr']; exact hrl
     · intro q e r' he hr'
       by_cases hq : j = q
       · subst hq
         rw [List.getElem?_set_self hjl] at he
         rw [show mpuR rows r (some j) = rows.set j r from rfl,List.getElem?_set_self (by omega)] at hr'
         injection he with he; injection hr' with hr'
         exact .inr ⟨by rw [← he],hr'.symm⟩
       rw [List.getElem?_set_ne hq] at he
       rw [show mpuR rows r (some j) = rows.set j r from rfl,List.getElem?_set_ne hq] at hr'
       exact .inl ⟨he,hr'⟩
     have hst := hK.stay w k hkk
     have hkk0 : e0.key = k := hjk
     simp [execOp,ha.ev hx,ha.ev hy,ha.ev hz,Instr.mapUpdate,run_underlying hu,MapKept.run_getObj_map e2,hK.chk w k false hkk,hfk.1 j e0 hej hjk,hset,Result.andThen,hej,hkk0,hst,hset']
/-! ### Ranging -/
theorem MemOk.mpOpen (m : MemOk X w0 M w) {i g mm : Nat} {ks : List Value} {rows : List (List D)} (hm : lk M i = some (.mp g mm ks rows)) : ∃ es ck,es.map (·.key) = ks ∧ es.length = rows.length ∧ MapK es ck ∧ MemOk X w0 ((i,.mpE g mm es ck rows) :: M) w := by
 obtain ⟨⟨es,ck,e1,e2⟩,eN⟩ := m.ok i _ hm
 exact ⟨es,ck,e1,e2.2.2.1,e2.2.1,m.upd i _ (Keep.refl _ _) (fun b hb => .inl ⟨_,hm,hb⟩) (fun hF _ => ⟨e2.mono (Nat.le_refl _) (fun b hb hS => ⟨rfl,hF b hb hS⟩) rfl,eN⟩)⟩
theorem MemOk.mpClose (m : MemOk X w0 M w) {i g mm : Nat} {es : List MapEntry} {ck : Nat} {rows : List (List D)} (hm : lk M i = some (.mpE g mm es ck rows)) : MemOk X w0 ((i,.mp g mm (es.map (·.key)) rows) :: M) w := by
 obtain ⟨e2,eN⟩ := m.ok i _ hm
 exact m.upd i _ (Keep.refl _ _) (fun b hb => .inl ⟨_,hm,hb⟩) (fun hF _ => ⟨⟨es,ck,rfl,e2.mono (Nat.le_refl _) (fun b hb hS => ⟨rfl,hF b hb hS⟩) rfl⟩,eN⟩)
theorem e_range {Q : Exit → Act → World → Prop} {K : Act → World → Prop} (ha : Has n T a) (m : MemOk X w0 M w) (i2 : Nat) {i g mm : Nat} {es : List MapEntry} {ck : Nat} {rows : List (List D)} {d : Tmp} {t kt et : TypeId} {x : Operand} (hm : lk M i = some (.mpE g mm es ck rows)) (hx : evT T x = some (.map (some g))) (hu : P.underlying t = some (.map kt et)) (ht : Nat.blt d n = true)
   (h : ∀ r a' w',Has n ((d,.pointer (some ⟨r,0,none⟩)) :: T) a' → MemOk X w0 ((i2,.obj r (.mapIter (some g) ck #[] ck)) :: M) w' → K a' w') : Oper.wp P ⟨some d,.range t x,tt,pos,af,gd⟩ a w K Q := by
 obtain ⟨e2,eN⟩ := m.ok i _ hm
 have hr : (execOp a.eval ⟨some d,.range t x,tt,pos,af,gd⟩).run P w = .ok (.value (.pointer (some ⟨w.heap.size,0,none⟩))) (w.alloc (.mapIter (some g) ck #[] ck)) := by
   have := run_range_map (P := P) w t kt et g es.toArray ck hu e2.1
   simp [execOp,ha.ev hx,this]
 show Oper.upon P _ a K Q _
 rw [hr]
 refine h _ _ _ (ha.put ht _) (m.upd i2 _ (Keep.alloc _ _ _) (fun b hb => .inr (by injection hb with hb; omega)) (fun _ _ => ⟨?_,.inl m.keep.size⟩))
 show (w.heap.push _)[w.heap.size]? = _
 simp
theorem e_next {Q : Exit → Act → World → Prop} {K : Act → World → Prop} (ha : Has n T a) (m : MemOk X w0 M w) {i i2 g mm r : Nat} {es : List MapEntry} {ck : Nat} {rows : List (List D)} {seen : Array Nat} {d : Tmp} {x : Operand} (hm : lk M i = some (.mpE g mm es ck rows)) (hr : lk M i2 = some (.obj r (.mapIter (some g) ck seen ck))) (hx : evT T x = some (.pointer (some ⟨r,0,none⟩))) (ht : Nat.blt d n = true)
   (h0 : (∀ e ∈ es,e.born ∈ seen) → ∀ a',Has n ((d,.tuple #[.bool false]) :: T) a' → K a' w)
   (h1 : ∀ e ∈ es,e.born ∉ seen → ∀ a' w',Has n ((d,.tuple #[.bool true,e.key,e.val]) :: T) a' → MemOk X w0 ((i2,.obj r (.mapIter (some g) ck (seen.push e.born) ck)) :: M) w' → K a' w') : Oper.wp P ⟨some d,.next x false,tt,pos,af,gd⟩ a w K Q := by
 obtain ⟨e2,eN⟩ := m.ok i _ hm
 obtain ⟨f2,fN⟩ := m.ok i2 _ hr
 have hk := e2.2.1
 show Oper.upon P _ a K Q _
 rcases run_next_at (P := P) w tt r g ck ck seen es.toArray ck f2 e2.1 (fun e he => hk.lt e he) (Nat.le_refl _) with ⟨a1,a2⟩ | ⟨e,a1,w1,a2,a3⟩
 · have hrun : (execOp a.eval ⟨some d,.next x false,tt,pos,af,gd⟩).run P w = .ok (.value (.tuple #[.bool false])) w := by
     simp [execOp,ha.ev hx,a2]
   rw [hrun]
   refine h0 (fun e he =>?_) _ (ha.put ht _)
   have hn : leftOf es.toArray seen = #[] := Array.eq_empty_of_size_eq_zero a1
   unfold leftOf at hn
   rw [Array.filter_eq_empty_iff] at hn
   have := hn e (by simpa using he)
   simpa using this
 have hrun : (execOp a.eval ⟨some d,.next x false,tt,pos,af,gd⟩).run P w = .ok (.value (.tuple #[.bool true,e.key,e.val])) (ChangeMaps.setBlock w1 r (.mapIter (some g) ck (seen.push e.born) ck)) := by
   simp [execOp,ha.ev hx,a3]
 rw [hrun]
 unfold leftOf at a1
 have ha1 : e ∈ es ∧ e.born ∉ seen := by simpa using a1
 have hww : MemOk X w0 M w1 := by
   rcases a2 with rfl | rfl
   · exact m
   exact m.drew
 have f3 := hww.ok i2 _ hr
 have hgl : r < w1.heap.size := (Array.getElem?_eq_some_iff.1 f3.1).1
 refine h1 e ha1.1 ha1.2 _ _ (ha.put ht _) ?_
 have hkp := Keep.setO w1 r (.mapIter (some g) ck (seen.push e.born) ck)
 refine hww.upd i2 _ (hkp.mono (fun b e => ⟨_,hr,by rw [show b = r from e]; rfl⟩)) (fun b hb => .inl ⟨_,hr,hb⟩) (fun _ _ => ⟨?_,fN⟩)
 show (w1.heap.setIfInBounds r _)[r]? = _
 rw [Array.getElem?_setIfInBounds_self_of_lt hgl]
theorem y_entry (h : Has n T a) (m : MemOk X w0 M w) {d : Option Tmp} {x : Operand} {i i2 g mm r : Nat} {es : List MapEntry} {ck : Nat} {rows : List (List D)} {seen : Array Nat} {e : MapEntry} (hm : lk M i = some (.mpE g mm es ck rows)) (hr : lk M i2 = some (.obj r (.mapIter (some g) ck (seen.push e.born) ck))) (hx : evT T x = some (.pointer (some ⟨r,0,none⟩))) (he : e ∈ es) : Yl P a w ⟨d,.entry x,tt,pos,af,gd⟩ (.tuple #[e.key,e.val]) := by
 obtain ⟨e2,eN⟩ := m.ok i _ hm
 obtain ⟨f2,fN⟩ := m.ok i2 _ hr
 show (execOp _ _).run P w = _
 have := run_entry_at (P := P) w r g ck seen es.toArray ck e f2 e2.1 (by simpa using he) (by simpa using e2.2.1.bn)
 simp [execOp,h.ev hx,this]
/-! ### Looking up what is open -/
theorem MemOk.mpeAt (m : MemOk X w0 M w) {i g mm : Nat} {es : List MapEntry} {ck : Nat} {rows : List (List D)} (hm : lk M i = some (.mpE g mm es ck rows)) {j : Nat} {r : List D} (hr : rows[j]? = some r) : ∃ (e : MapEntry) (vs : List Value),es[j]? = some e ∧ e.val = .agg vs.toArray ∧ RdL (Free X M) w vs r ∧ vs.all (fun v => v.oneCell') = true ∧ vs.length = mm := by
 obtain ⟨⟨h2,h3,h4,h5,h6⟩,_⟩ := m.ok i _ hm
 have hj : j < es.length := by rw [h4]; exact (List.getElem?_eq_some_iff.1 hr).1
 have he : es[j]? = some es[j] := List.getElem?_eq_getElem hj
 obtain ⟨vs,a1,a2,a3,a4⟩ := h6 j _ r he hr
 exact ⟨_,vs,he,a1,RdL.of (by rw [a2,h5 r (List.mem_of_getElem? hr)]) a4,List.all_eq_true.2 a3,a2⟩
theorem mpKey {es : List MapEntry} {ks : List Value} (h : es.map (·.key) = ks) {j : Nat} {e : MapEntry} {k : Value} (he : es[j]? = some e) (hk : ks[j]? = some k) : e.key = k := by
 rw [← h,List.getElem?_map,he] at hk; injection hk
theorem mpKeys {es : List MapEntry} {ks : List Value} (h : es.map (·.key) = ks) {Q : Value → Prop} (hq : ∀ k ∈ ks,Q k) : ∀ e ∈ es,Q e.key := fun e he => hq _ (h ▸ List.mem_map.2 ⟨e,he,rfl⟩)
theorem y_lookE (h : Has n T a) (m : MemOk X w0 M w) {d : Option Tmp} {t kt et : TypeId} {x y : Operand} {i g mm : Nat} {es : List MapEntry} {ck : Nat} {rows : List (List D)} {k : Value} {K : Value → Prop} {j : Nat} {e : MapEntry} {vs : List Value} (hm : lk M i = some (.mpE g mm es ck rows)) (hx : evT T x = some (.map (some g))) (hy : evT T y = some k) (hu : P.underlying t = some (.map kt et)) (hK : KeyT P kt K) (hks : ∀ e ∈ es,K e.key) (he : es[j]? = some e) (hek : e.key = k) (hev : e.val = .agg vs.toArray) : Yl P a w ⟨d,.lookup t x y true,tt,pos,af,gd⟩ (.tuple #[.agg vs.toArray,.bool true]) := by
 obtain ⟨⟨h2,h3,_⟩,_⟩ := m.ok i _ hm
 have hkk : K k := hek ▸ hks e (List.mem_of_getElem? he)
 refine y_lookT h hx hy hu hK hkk h2 (j := j) ?_
 rw [← hev]
 exact (hK.fnd w k es hkk hks h3.nd).1 j e he hek
theorem y_lookE1 (h : Has n T a) (m : MemOk X w0 M w) {d : Option Tmp} {t kt et : TypeId} {x y : Operand} {i g mm : Nat} {es : List MapEntry} {ck : Nat} {rows : List (List D)} {k : Value} {K : Value → Prop} {j : Nat} {e : MapEntry} {vs : List Value} (hm : lk M i = some (.mpE g mm es ck rows)) (hx : evT T x = some (.map (some g))) (hy : evT T y = some k) (hu : P.underlying t = some (.map kt et)) (hK : KeyT P kt K) (hks : ∀ e ∈ es,K e.key) (he : es[j]? = some e) (hek : e.key = k) (hev : e.val = .agg vs.toArray) : Yl P a w ⟨d,.lookup t x y false,tt,pos,af,gd⟩ (.agg vs.toArray) := by
 obtain ⟨⟨h2,h3,_⟩,_⟩ := m.ok i _ hm
 have hkk : K k := hek ▸ hks e (List.mem_of_getElem? he)
 refine y_lookT1 h hx hy hu hK hkk h2 (j := j) ?_
 rw [← hev]
 exact (hK.fnd w k es hkk hks h3.nd).1 j e he hek
theorem y_lookN (h : Has n T a) (m : MemOk X w0 M w) {d : Option Tmp} {t kt et : TypeId} {x y : Operand} {i g mm : Nat} {es : List MapEntry} {ck : Nat} {rows : List (List D)} {k : Value} {K : Value → Prop} (z : Value) (hm : lk M i = some (.mpE g mm es ck rows)) (hx : evT T x = some (.map (some g))) (hy : evT T y = some k) (hu : P.underlying t = some (.map kt et)) (hz : (P.info? et).bind (·.zero) = some z) (hK : KeyT P kt K) (hks : ∀ e ∈ es,K e.key) (hkk : K k) (hno : ∀ e ∈ es,e.key ≠ k) : Yl P a w ⟨d,.lookup t x y true,tt,pos,af,gd⟩ (.tuple #[z,.bool false]) := by
 obtain ⟨⟨h2,h3,_⟩,_⟩ := m.ok i _ hm
 exact y_lookF h hx hy hu hz hK hkk h2 ((hK.fnd w k es hkk hks h3.nd).2 hno)
theorem e_nextU {Q : Exit → Act → World → Prop} {K : Act → World → Prop} (ha : Has n T a) (m : MemOk X w0 M w) {i i2 g mm r : Nat} {es : List MapEntry} {ck : Nat} {rows : List (List D)} {seen : Array Nat} {d : Tmp} {x : Operand} (hm : lk M i = some (.mpE g mm es ck rows)) (hr : lk M i2 = some (.obj r (.mapIter (some g) ck seen ck))) (hx : evT T x = some (.pointer (some ⟨r,0,none⟩))) (ht : Nat.blt d n = true)
   (h : ∀ (b : Bool) (tl : List Value) (o : Obj) a' w',Has n ((d,.tuple (.bool b :: tl).toArray) :: T) a' → MemOk X w0 ((i2,.obj r o) :: M) w' → ((b = false ∧ ∀ e ∈ es,e.born ∈ seen) ∨ (b = true ∧ ∃ e ∈ es,e.born ∉ seen ∧ o = .mapIter (some g) ck (seen.push e.born) ck)) → K a' w') : Oper.wp P ⟨some d,.next x false,tt,pos,af,gd⟩ a w K Q := by
 refine e_next ha m hm hr hx ht (fun h0 a' ha' =>?_) (fun e he hn a' w' ha' m' =>?_)
 · refine h false [] (.mapIter (some g) ck seen ck) a' w ha' (m.sub (fun j s hj =>?_)) (.inl ⟨rfl,h0⟩)
   rw [lk_cons] at hj
   split at hj
   · rename_i e; subst e; injection hj with hj; subst hj; exact hr
   exact hj
 exact h true [e.key,e.val] _ a' w' ha' m' (.inr ⟨rfl,e,he,hn,rfl⟩)
theorem y_entryK (h : Has n T a) (m : MemOk X w0 M w) {d : Option Tmp} {x : Operand} {i i2 g mm r : Nat} {es : List MapEntry} {ck : Nat} {rows : List (List D)} {seen : Array Nat} {e : MapEntry} {k : Value} (hm : lk M i = some (.mpE g mm es ck rows)) (hr : lk M i2 = some (.obj r (.mapIter (some g) ck (seen.push e.born) ck))) (hx : evT T x = some (.pointer (some ⟨r,0,none⟩))) (he : e ∈ es) (hk : e.key = k) : Yl P a w ⟨d,.entry x,tt,pos,af,gd⟩ (.tuple #[k,e.val]) := by
 rw [← hk]; exact y_entry h m hm hr hx he
theorem sub_len : ∀ {dn es : List MapEntry},(∀ e ∈ dn,e ∈ es) → (dn.map (·.born)).Nodup → dn.length ≤ es.length
 | [],es,_,_ => Nat.zero_le _
 | e :: t,es,h,hn => by
   obtain ⟨a,b,rfl⟩ := List.append_of_mem (h e List.mem_cons_self)
   rw [List.map_cons,List.nodup_cons] at hn
   have := sub_len (dn := t) (es := a ++ b) (fun x hx => by
     have h1 := h x (List.mem_cons_of_mem _ hx)
     rcases List.mem_append.1 h1 with h1 | h1
     · exact List.mem_append_left _ h1
     rcases List.mem_cons.1 h1 with rfl | h1
     · exact absurd (List.mem_map.2 ⟨x,hx,rfl⟩) hn.1
     exact List.mem_append_right _ h1) hn.2
   simp only [List.length_cons,List.length_append] at *
   omega
theorem perm_born : ∀ {dn es : List MapEntry},(∀ e ∈ dn,e ∈ es) → (dn.map (·.born)).Nodup → (es.map (·.born)).Nodup → (∀ e ∈ es,e.born ∈ dn.map (·.born)) → dn.Perm es
 | [],es,_,_,_,h => by
   cases es with
   | nil => exact List.Perm.refl _
   | cons e t => have := h e List.mem_cons_self; cases this
 | e :: t,es,h,hn,hm,ha => by
   obtain ⟨a,b,rfl⟩ := List.append_of_mem (h e List.mem_cons_self)
   rw [List.map_cons,List.nodup_cons] at hn
   have hm' : ((e :: (a ++ b)).map (·.born)).Nodup := (List.Perm.nodup_iff ((List.perm_middle (a := e) (l₁ := a) (l₂ := b)).map _)).1 hm
   rw [List.map_cons,List.nodup_cons] at hm'
   have h2 := perm_born (dn := t) (es := a ++ b) (fun x hx => by
     have h1 := h x (List.mem_cons_of_mem _ hx)
     rcases List.mem_append.1 h1 with h1 | h1
     · exact List.mem_append_left _ h1
     · rcases List.mem_cons.1 h1 with rfl | h1
       · exact absurd (List.mem_map.2 ⟨x,hx,rfl⟩) hn.1
       exact List.mem_append_right _ h1) hn.2 hm'.2 (fun x hx => by
     have hx' : x ∈ a ++ e :: b := by rcases List.mem_append.1 hx with h1 | h1
                                      · exact List.mem_append_left _ h1
                                      exact List.mem_append_right _ (List.mem_cons_of_mem _ h1)
     have h1 := ha x hx'
     rw [List.map_cons] at h1
     rcases List.mem_cons.1 h1 with h1 | h1
     · exact absurd (List.mem_map.2 ⟨x,hx,h1⟩) hm'.1
     exact h1)
   exact (h2.cons e).trans List.perm_middle.symm
end
end Go.Proofs.YtkehgingagggaaaGreat.K
end
namespace Go.Proofs.YtkehgingagggaaaGreat.K
open Go.ChangeShapes Go.WideShapes Go.ChangeAt Go.RowKit
set_option linter.unusedVariables false
set_option linter.unusedSimpArgs false
section
theorem fl38mrc : flatS Tryz.prog 38 [.int .i64 0,.int .i64 0,.int .i64 0,.int .i64 0,.int .i64 0,.slice none 0 0,.int .i64 0,.int .i64 0,.int .i64 0,.slice none 0 0] = true := by kernel_rfl
theorem fl87mne : flatS Tryz.prog 87 [.map none] = true := by kernel_rfl
def keyV (x : VolV) : Value := .int .i64 x.vo
theorem keyI {L : List VolV} : ∀ k ∈ L.map keyV,∃ z,k = .int .i64 z := fun k hk => by
 obtain ⟨x,_,rfl⟩ := List.mem_map.1 hk; exact ⟨_,rfl⟩
theorem keyV_get {L : List VolV} {j : Nat} {x : VolV} (h : L[j]? = some x) : (L.map keyV)[j]? = some (keyV x) := by rw [List.getElem?_map,h]; rfl
theorem keyV_eq {x : VolV} {id : Int} (h : x.vo = id) : keyV x = .int .i64 id := by rw [keyV,h]
theorem keyV_ne {L : List VolV} {id : Int} (h : ∀ x ∈ L,x.vo ≠ id) : ∀ k ∈ L.map keyV,k ≠ .int .i64 id := fun k hk e => by
 obtain ⟨x,hx,rfl⟩ := List.mem_map.1 hk
 injection e with _ e; exact h x hx e
theorem mpuK_new {L : List VolV} {vo bl sz pe to : Int} {place : List Int} : mpuK (L.map keyV) (.int .i64 vo) none = (L ++ [newV vo bl sz pe to place]).map keyV := by rw [List.map_append]; rfl
theorem mpuR_new {L : List VolV} {vo bl sz pe to : Int} {place : List Int} : mpuR (L.map volD) [.v (.int .i64 vo),.v (.int .i64 bl),.v (.int .i64 sz),.v (.int .i64 pe),.ns .i64 place,.v (.int .i64 to),.v (.int .i64 0),.v (.bool (decide (0 < to))),.v (.int .i64 0),.ns .i64 [],.l 2 []] none = (L ++ [newV vo bl sz pe to place]).map volD := by rw [List.map_append]; rfl
theorem doV_vo {x y : VolV} {c : Cm} {e : Int} (h : doV x c = (y,e)) : y.vo = x.vo := by
 unfold doV at h
 split at h
 · injection h with h _; rw [← h]
 split at h
 · injection h with h _; rw [← h]
 injection h with h _; rw [← h]
theorem CmdR.itok {x : Cm} (h : CmdR x) : ItsOk x.its := fun e he => by have := (h.ib e he).2; omega
theorem mbeq_y (xs : List Int) (p1 p2 : Option Addr) (c1 c2 : Nat) (w0 : World) (h1 : Rd (fun _ => True) w0 (.slice p1 xs.length c1) (.ns .u8 xs)) (h2 : Rd (fun _ => True) w0 (.slice p2 xs.length c2) (.ns .u8 xs)) (hb1 : BytesL xs) :
   Calls Tryz.prog 64 #[.slice p1 xs.length c1,.slice p2 xs.length c2] w0 fun e w' => e = .returned (.bool true) ∧ Below w0.heap.size w0 w' :=
 (mbeq xs xs p1 p2 c1 c2 w0 h1 h2 hb1 hb1).mono fun e w' h => ⟨by rw [h.1]; exact congrArg (fun b => Ending.returned (.bool b)) (decide_eq_true rfl),h.2⟩
theorem mbeq_z {xs ys : List Int} (h : xs = ys) (p1 p2 : Option Addr) (c1 c2 : Nat) (w0 : World) (h1 : Rd (fun _ => True) w0 (.slice p1 xs.length c1) (.ns .u8 xs)) (h2 : Rd (fun _ => True) w0 (.slice p2 ys.length c2) (.ns .u8 ys)) (hb1 : BytesL xs) :
   Calls Tryz.prog 64 #[.slice p1 xs.length c1,.slice p2 ys.length c2] w0 fun e w' => e = .returned (.bool true) ∧ Below w0.heap.size w0 w' := by
 subst h; exact mbeq_y xs p1 p2 c1 c2 w0 h1 h2 hb1
def remE (x : Cm) : Nat → List Int
 | 0 => enc x.kd ++ (enc x.vo ++ (enc x.bl ++ (enc x.sz ++ (enc x.pe ++ (enc x.to ++ (enc x.at0 ++ (enc x.ix ++ (enc (x.pl.length : Int) ++ (encs x.pl ++ (enc (x.its.length : Int) ++ itemsE x.its))))))))))
 | 1 => enc x.vo ++ (enc x.bl ++ (enc x.sz ++ (enc x.pe ++ (enc x.to ++ (enc x.at0 ++ (enc x.ix ++ (enc (x.pl.length : Int) ++ (encs x.pl ++ (enc (x.its.length : Int) ++ itemsE x.its)))))))))
 | 2 => enc x.bl ++ (enc x.sz ++ (enc x.pe ++ (enc x.to ++ (enc x.at0 ++ (enc x.ix ++ (enc (x.pl.length : Int) ++ (encs x.pl ++ (enc (x.its.length : Int) ++ itemsE x.its))))))))
 | 3 => enc x.sz ++ (enc x.pe ++ (enc x.to ++ (enc x.at0 ++ (enc x.ix ++ (enc (x.pl.length : Int) ++ (encs x.pl ++ (enc (x.its.length : Int) ++ itemsE x.its)))))))
 | 4 => enc x.pe ++ (enc x.to ++ (enc x.at0 ++ (enc x.ix ++ (enc (x.pl.length : Int) ++ (encs x.pl ++ (enc (x.its.length : Int) ++ itemsE x.its))))))
 | 5 => enc x.to ++ (enc x.at0 ++ (enc x.ix ++ (enc (x.pl.length : Int) ++ (encs x.pl ++ (enc (x.its.length : Int) ++ itemsE x.its)))))
 | 6 => enc x.at0 ++ (enc x.ix ++ (enc (x.pl.length : Int) ++ (encs x.pl ++ (enc (x.its.length : Int) ++ itemsE x.its))))
 | 7 => enc x.ix ++ (enc (x.pl.length : Int) ++ (encs x.pl ++ (enc (x.its.length : Int) ++ itemsE x.its)))
 | 8 => enc (x.pl.length : Int) ++ (encs x.pl ++ (enc (x.its.length : Int) ++ itemsE x.its))
 | _ => enc (x.its.length : Int) ++ itemsE x.its
theorem cmE_rem (x : Cm) : cmE x = remE x 0 := by simp [cmE,cmdE,encs,remE]
theorem cmE_by {x : Cm} (hR : CmdR x) (hb : ∀ e ∈ x.its,BytesL e.2) : BytesL (cmE x) := (hR.ok hb).bytes
theorem cmE_len {x : Cm} (hR : CmdR x) : (cmE x).length ≤ 1000000 := by have := cmE_sum hR; rw [sumLen,cmE_flat] at this; exact this
theorem rem_suf (x : Cm) : ∀ i,∃ t,cmE x = t ++ remE x i
 | 0 => ⟨[],cmE_rem x⟩
 | 1 => ⟨enc x.kd,by rw [cmE_rem]; rfl⟩
 | 2 => ⟨enc x.kd ++ enc x.vo,by rw [cmE_rem]; simp [remE]⟩
 | 3 => ⟨enc x.kd ++ enc x.vo ++ enc x.bl,by rw [cmE_rem]; simp [remE]⟩
 | 4 => ⟨enc x.kd ++ enc x.vo ++ enc x.bl ++ enc x.sz,by rw [cmE_rem]; simp [remE]⟩
 | 5 => ⟨enc x.kd ++ enc x.vo ++ enc x.bl ++ enc x.sz ++ enc x.pe,by rw [cmE_rem]; simp [remE]⟩
 | 6 => ⟨enc x.kd ++ enc x.vo ++ enc x.bl ++ enc x.sz ++ enc x.pe ++ enc x.to,by rw [cmE_rem]; simp [remE]⟩
 | 7 => ⟨enc x.kd ++ enc x.vo ++ enc x.bl ++ enc x.sz ++ enc x.pe ++ enc x.to ++ enc x.at0,by rw [cmE_rem]; simp [remE]⟩
 | 8 => ⟨enc x.kd ++ enc x.vo ++ enc x.bl ++ enc x.sz ++ enc x.pe ++ enc x.to ++ enc x.at0 ++ enc x.ix,by rw [cmE_rem]; simp [remE]⟩
 | i + 9 => ⟨enc x.kd ++ enc x.vo ++ enc x.bl ++ enc x.sz ++ enc x.pe ++ enc x.to ++ enc x.at0 ++ enc x.ix ++ enc (x.pl.length : Int) ++ encs x.pl,by rw [cmE_rem]; simp [remE]⟩
theorem rem_len {x : Cm} (hR : CmdR x) (i : Nat) : (remE x i).length ≤ 1000000 := by
 obtain ⟨t,ht⟩ := rem_suf x i
 exact len_r ht (cmE_len hR)
theorem rem_by {x : Cm} (hR : CmdR x) (hb : ∀ e ∈ x.its,BytesL e.2) (i : Nat) : BytesL (remE x i) := by
 obtain ⟨t,ht⟩ := rem_suf x i
 have := cmE_by hR hb
 rw [ht] at this
 exact bytes_r this
theorem rem_bd {x : Cm} (h : CmdR x) : (0 ≤ x.kd ∧ x.kd ≤ 1099511627776) ∧ (0 ≤ x.vo ∧ x.vo ≤ 1099511627776) ∧ (0 ≤ x.bl ∧ x.bl ≤ 1099511627776) ∧ (0 ≤ x.sz ∧ x.sz ≤ 1099511627776) ∧ (0 ≤ x.pe ∧ x.pe ≤ 1099511627776) ∧ (0 ≤ x.to ∧ x.to ≤ 1099511627776) ∧ (0 ≤ x.at0 ∧ x.at0 ≤ 1099511627776) ∧ 0 ≤ x.ix ∧ x.ix ≤ 1099511627776 := by
 have := h.kd; have := h.vo; have := h.t40; omega
theorem pb40 {x : Cm} (h : CmdR x) : ∀ k,k < x.pl.length → 0 ≤ x.pl.getD k 0 ∧ x.pl.getD k 0 ≤ 1099511627776 := fun k hk => by
 have := h.pb (x.pl.getD k 0) (by rw [List.getD,List.getElem?_eq_getElem hk]; exact List.getElem_mem hk); omega
theorem zv51 : (Tryz.prog.info? 51).bind (·.zero) = some (.agg #[.int .i64 0,.int .i64 0,.int .i64 0,.int .i64 0,.slice none 0 0,.int .i64 0,.int .i64 0,.bool false,.int .i64 0,.slice none 0 0,.slice none 0 0]) := by kernel_rfl
set_option maxRecDepth 100000
set_option maxHeartbeats 4000000
theorem readCmd_o (X : Cx) (x : Cm) (hR : CmdR x) (hby : ∀ e ∈ x.its,BytesL e.2) (p : Option Addr) (c : Nat) (w0 : World) (m0 : MemOk X w0 [(1,.dat (.slice p (cmE x).length c) (.ns .u8 (cmE x)))] w0) :
   Calls Tryz.prog 28 #[.slice p (cmE x).length c] w0 fun e w' => ∃ (pp pi : Option Addr) (cp ci : Nat),e = .returned (.tuple #[.agg #[.int .i64 x.kd,.int .i64 x.vo,.int .i64 x.bl,.int .i64 x.sz,.int .i64 x.pe,.slice pp x.pl.length cp,.int .i64 x.to,.int .i64 x.at0,.int .i64 x.ix,.slice pi (x.its.map itD).length ci],.int .i64 0]) ∧ MemOk X w0 [(1,.dat (.slice p (cmE x).length c) (.ns .u8 (cmE x))),(2,.dat (.slice pp x.pl.length cp) (.ns .i64 x.pl)),(3,.dat (.slice pi (x.its.map itD).length ci) (.l 2 (x.its.map itD)))] w' := by
 refine ent1 Tryz.func28 rfl Tryz.ntmps28 fun Y U =>?_
 have hlE := rem_len hR 0
 rw [cmE_rem] at m0 U
 refine zsr fun K0 hK0 =>?_
 refine plz (e_alloc U m0 40 fct23 rfl fun g1 Y w2 U m2 _ _ =>?_)
 refine gz hK0 U (.assign rfl .nil) fun Y U =>?_
 refine zsr fun K1 hK1 =>?_
 refine goCh U (.move rfl .nil) fun Y U =>?_
 refine plz (ecl U Tryz.func59 rfl (pnew_f _ (remE x 0) _ _ _ hlE (m2.into [(1,1)] (by decide) rfl)) ?_)
 rintro e w6 ⟨B,p6,c6,rfl,hm6⟩
 have mx6 := m2.back hm6 [(31,1),(32,2),(1,3)] (by decide); clear hm6 m2
 have m6 := mx6.oz [31,32,1,40]
 refine ⟨_,rfl,?_⟩; intro Y U
 refine gz hK1 U (.assign rfl .nil) fun Y U =>?_
 refine zsr fun K2 hK2 =>?_
 refine goCh U (.move rfl .nil) fun Y U =>?_
 refine plz (ecl U Tryz.func73 rfl (num_o _ _ _ _ _ _ x.kd (remE x 1) (rem_len hR 0) (rem_by hR hby 0) rfl (rem_bd hR).1 (m6.into [(1,31),(2,32)] (by decide) rfl)) ?_)
 rintro e w11 ⟨p11,c11,rfl,hm11⟩
 have mx11 := m6.back hm11 [(31,1),(32,2)] (by decide); clear hm11 m6
 have m11 := mx11.oz [31,32,1,40]
 refine ⟨_,rfl,?_⟩; intro Y U
 refine goCh U (.move rfl .nil) fun Y U =>?_
 refine plz (ecl U Tryz.func73 rfl (num_o _ _ _ _ _ _ x.vo (remE x 2) (rem_len hR 1) (rem_by hR hby 1) rfl (rem_bd hR).2.1 (m11.into [(1,31),(2,32)] (by decide) rfl)) ?_)
 rintro e w14 ⟨p14,c14,rfl,hm14⟩
 have mx14 := m11.back hm14 [(31,1),(32,2)] (by decide); clear hm14 m11
 have m14 := mx14.oz [31,32,1,40]
 refine ⟨_,rfl,?_⟩; intro Y U
 refine goCh U (.move rfl .nil) fun Y U =>?_
 refine plz (ecl U Tryz.func73 rfl (num_o _ _ _ _ _ _ x.bl (remE x 3) (rem_len hR 2) (rem_by hR hby 2) rfl (rem_bd hR).2.2.1 (m14.into [(1,31),(2,32)] (by decide) rfl)) ?_)
 rintro e w17 ⟨p17,c17,rfl,hm17⟩
 have mx17 := m14.back hm17 [(31,1),(32,2)] (by decide); clear hm17 m14
 have m17 := mx17.oz [31,32,1,40]
 refine ⟨_,rfl,?_⟩; intro Y U
 refine goCh U (.move rfl .nil) fun Y U =>?_
 refine plz (ecl U Tryz.func73 rfl (num_o _ _ _ _ _ _ x.sz (remE x 4) (rem_len hR 3) (rem_by hR hby 3) rfl (rem_bd hR).2.2.2.1 (m17.into [(1,31),(2,32)] (by decide) rfl)) ?_)
 rintro e w20 ⟨p20,c20,rfl,hm20⟩
 have mx20 := m17.back hm20 [(31,1),(32,2)] (by decide); clear hm20 m17
 have m20 := mx20.oz [31,32,1,40]
 refine ⟨_,rfl,?_⟩; intro Y U
 refine goCh U (.move rfl .nil) fun Y U =>?_
 refine plz (ecl U Tryz.func73 rfl (num_o _ _ _ _ _ _ x.pe (remE x 5) (rem_len hR 4) (rem_by hR hby 4) rfl (rem_bd hR).2.2.2.2.1 (m20.into [(1,31),(2,32)] (by decide) rfl)) ?_)
 rintro e w23 ⟨p23,c23,rfl,hm23⟩
 have mx23 := m20.back hm23 [(31,1),(32,2)] (by decide); clear hm23 m20
 have m23 := mx23.oz [31,32,1,40]
 refine ⟨_,rfl,?_⟩; intro Y U
 refine goCh U (.move rfl .nil) fun Y U =>?_
 refine plz (ecl U Tryz.func73 rfl (num_o _ _ _ _ _ _ x.to (remE x 6) (rem_len hR 5) (rem_by hR hby 5) rfl (rem_bd hR).2.2.2.2.2.1 (m23.into [(1,31),(2,32)] (by decide) rfl)) ?_)
 rintro e w26 ⟨p26,c26,rfl,hm26⟩
 have mx26 := m23.back hm26 [(31,1),(32,2)] (by decide); clear hm26 m23
 have m26 := mx26.oz [31,32,1,40]
 refine ⟨_,rfl,?_⟩; intro Y U
 refine goCh U (.move rfl .nil) fun Y U =>?_
 refine plz (ecl U Tryz.func74 rfl (time_o _ _ _ _ _ _ x.at0 (remE x 7) (rem_len hR 6) (rem_by hR hby 6) rfl (rem_bd hR).2.2.2.2.2.2.1 (m26.into [(1,31),(2,32)] (by decide) rfl)) ?_)
 rintro e w29 ⟨p29,c29,rfl,hm29⟩
 have mx29 := m26.back hm29 [(31,1),(32,2)] (by decide); clear hm29 m26
 have m29 := mx29.oz [31,32,1,40]
 refine ⟨_,rfl,?_⟩; intro Y U
 refine goCh U (.move rfl .nil) fun Y U =>?_
 refine plz (ecl U Tryz.func73 rfl (num_o _ _ _ _ _ _ x.ix (remE x 8) (rem_len hR 7) (rem_by hR hby 7) rfl (rem_bd hR).2.2.2.2.2.2.2 (m29.into [(1,31),(2,32)] (by decide) rfl)) ?_)
 rintro e w32 ⟨p32,c32,rfl,hm32⟩
 have mx32 := m29.back hm32 [(31,1),(32,2)] (by decide); clear hm32 m29
 have m32 := mx32.oz [31,32,1,40]
 refine ⟨_,rfl,?_⟩; intro Y U
 refine goCh U (.build rfl fct23 fl38mrc rfl (by dsimp only [setL,List.set] <;> rfl) .nil) fun Y U =>?_
 refine plz (e_alloc U m32 41 fct23 rfl fun g35 Y w36 U m36 _ _ =>?_)
 refine plz (stw U m36 41 fct18 fun w37 m37 _ =>?_)
 refine znl (hK2 _ _ ?_)
 replace U := U.oz [0,2,3,4,5]
 refine zsr fun K3 hK3 =>?_
 refine goCh U (.move rfl .nil) fun Y U =>?_
 refine plz (ecl U Tryz.func75 rfl (listI_o _ _ _ _ _ _ x.pl (remE x 9) (rem_len hR 8) (rem_by hR hby 8) rfl (by have := hR.pl; omega) (pb40 hR) (m37.into [(1,31),(2,32)] (by decide) rfl)) ?_)
 rintro e w41 ⟨p41,c41,p341,c341,rfl,hm41⟩
 have mx41 := m37.back hm41 [(31,1),(32,2),(42,3)] (by decide); clear hm41 m37
 have m41 := mx41.oz [31,32,42,1,40,41]
 refine ⟨_,rfl,?_⟩; intro Y U
 refine goCh U (.move rfl .nil) fun Y U =>?_
 refine plz (ecl U Tryz.func76 rfl (readItems_o _ _ _ _ _ _ x.its [] (rem_len hR 9) (rem_by hR hby 9) (by rw [List.append_nil]; rfl) (by have := hR.il; omega) hR.ib (m41.into [(1,31),(2,32)] (by decide) rfl)) ?_)
 rintro e w44 ⟨p44,c44,p344,c344,rfl,hm44⟩
 have mx44 := m41.back hm44 [(31,1),(32,2),(43,3)] (by decide); clear hm44 m41
 have m44 := mx44.oz [31,32,43,1,40,41,42]
 refine ⟨_,rfl,?_⟩; intro Y U
 refine goCh U (.fieldAddr (off := 5) rfl U38 rfl (s := 0) (by kernel_rfl) rfl .nil) fun Y U =>?_
 refine plz (st1 U m44 41 fct10 fun w47 m47 _ =>?_)
 refine goCh U (.fieldAddr (off := 9) rfl U38 rfl (s := 0) (by kernel_rfl) rfl .nil) fun Y U =>?_
 refine plz (st1 U m47 41 fct6 fun w49 m49 _ =>?_)
 refine znl (hK3 _ _ ?_)
 refine wsk fun K4 hK4 =>?_
 replace U := U.oz [0,2,3,4,5]
 refine zsr fun K5 hK5 =>?_
 refine goCh U (.move rfl .nil) fun Y U =>?_
 refine plz (ecl U Tryz.func62 rfl (perr_x _ _ _ _ _ _ _ (m49.into [(1,31),(2,32)] (by decide) rfl)) ?_)
 rintro e w53 ⟨rfl,hm53⟩
 have mx53 := m49.back hm53 [(31,1),(32,2)] (by decide); clear hm53 m49
 have m53 := mx53.oz [31,32,1,40,41,42,43]
 refine ⟨_,rfl,?_⟩; intro Y U
 refine gz hK5 U (.neq rfl rfl .nil) fun Y U =>?_
 refine bc U 35 ?_ ?_
 · intro hb _; exact absurd hb (by simp)
 clear U; intro _ U
 refine wcf U ?_
 refine zss (hK4 _ _ ?_)
 refine wsk fun K6 hK6 =>?_
 refine zsr fun K7 hK7 =>?_
 refine goCh U (.loadBR m53 (i := 41) rfl rfl U38 rfl fct18 (by simp) (by dsimp only [List.drop,List.take] <;> rfl) .nil) fun Y U =>?_
 refine plz (ecn U Tryz.func25 rfl m53 44 (putCmd_yes x hR _ _ _ _ _ _ ((m53.rd (i := 42) rfl).any) ((m53.rd (i := 43) rfl).any)) fun p59 c59 Y w59 U m60 =>?_)
 refine gz hK7 U (.move rfl<|.extract rfl rfl<|.extract rfl rfl<|.assign rfl<|.assign rfl<|.nil) fun Y U =>?_
 replace U := U.oz [0,2,3,5,38,6,7]
 refine zsr fun K8 hK8 =>?_
 refine goCh U (.move rfl<|.neq rfl rfl<|.move rfl .nil) fun Y U =>?_
 refine bc U 44 ?_ ?_
 · intro hb _; exact absurd hb (by simp)
 clear U; intro _ U
 refine goCh U (.moveZ rfl<|.moveZ rfl .nil) fun Y U =>?_
 have m77 := m60.freezeN 44 rfl
 refine stz U (ecb U Tryz.func64 rfl m77 (mbeq_z (cmE_rem x) _ _ _ _ _ ((m77.rd (i := 44) rfl).any) ((m77.rd (i := 1) rfl).any) (cmE_by hR hby)) fun Y w78 U m79 =>?_)
 refine gz hK8 U (.notZ rfl<|.pickF rfl rfl<|.nil) fun Y U =>?_
 refine wcf U ?_
 refine zss (hK6 _ _ ?_)
 replace U := U.oz [2,3,5,38]
 refine zsr fun K9 hK9 =>?_
 refine goCh U (.loadBR m79 (i := 41) rfl rfl U38 rfl fct18 (by simp) (by dsimp only [List.drop,List.take] <;> rfl) .nil) fun Y U =>?_
 refine plz (stw U m79 40 fct18 fun w86 m86 _ =>?_)
 refine gz hK9 U (.assign rfl .nil) fun Y U =>?_
 refine rtd (retCT (fn := Tryz.f28) U m86 (i := 40) rfl rfl rfl rfl U38 rfl fct18 ?_)
 rw [cmE_rem]
 exact ⟨_,_,_,_,rfl,m86.ren [(1,1),(2,42),(3,43)] (by decide)⟩
theorem mnew_x (X : Cx) (w0 : World) (m9 : MemOk X w0 [] w0) :
   Calls Tryz.prog 9 #[] w0 fun e w' => ∃ B G,e = .returned (.pointer (some ⟨B,0,none⟩)) ∧ MemOk X w0 [(1,.box B 87 [.map (some G)]),(2,.mp G 11 ((([] : List VolV)).map keyV) ((([] : List VolV)).map volD))] w' := by
 refine ent0 Tryz.func9 rfl Tryz.ntmps9 fun Y U =>?_
 have m0 := m9
 refine regS U (.assign rfl .nil) fun Y U =>?_
 refine zsr fun K0 hK0 =>?_
 refine plz (e_makeMap U m0 20 11 rfl fun g2 Y w3 U m3 _ _ =>?_)
 refine goCh U (.build rfl fct33 fl87mne rfl (by dsimp only [setL,List.set] <;> rfl) .nil) fun Y U =>?_
 refine plz (e_box U m3 21 (cs := [_]) rfl rfl rfl fun g5 Y w6 U m6 _ _ =>?_)
 refine gz hK0 U (.assign rfl .nil) fun Y U =>?_
 refine rt1 U ?_
 exact ⟨_,_,rfl,m6.ren [(1,21),(2,20)] (by decide)⟩
theorem create_ex (X : Cx) (B G : Nat) (L : List VolV) (x : Cm) (hR : CmdR x) (pp pi : Option Addr) (cp ni ci : Nat) (w0 : World) (j : Nat) (y : VolV) (hj : L[j]? = some y) (hy : y.vo = x.vo) (m0 : MemOk X w0 [(1,.box B 87 [.map (some G)]),(2,.mp G 11 ((L).map keyV) ((L).map volD)),(3,.dat (.slice pp x.pl.length cp) (.ns .i64 x.pl)),(4,.dat (.slice pi ni ci) (.l 2 (x.its.map itD)))] w0) :
   Calls Tryz.prog 47 #[.pointer (some ⟨B,0,none⟩),.agg #[.int .i64 x.kd,.int .i64 x.vo,.int .i64 x.bl,.int .i64 x.sz,.int .i64 x.pe,.slice pp x.pl.length cp,.int .i64 x.to,.int .i64 x.at0,.int .i64 x.ix,.slice pi ni ci]] w0 fun e w' => e = .returned (.int .i64 29) ∧ MemOk X w0 [(1,.box B 87 [.map (some G)]),(2,.mp G 11 ((L).map keyV) ((L).map volD))] w' := by
 refine ent2 Tryz.func47 rfl Tryz.ntmps47 fun Y U =>?_
 refine zsr fun K0 hK0 =>?_
 refine plz (e_box U m0 20 (cs := [_,_,_,_,_,_,_,_,_,_]) rfl rfl rfl fun g1 Y w2 U m2 _ _ =>?_)
 refine gz hK0 U (.assign rfl .nil) fun Y U =>?_
 refine wsk fun K1 hK1 =>?_
 refine wsk fun K2 hK2 =>?_
 obtain ⟨es4,ck4,hks4,hel4,hmk4,m4⟩ := m2.mpOpen (i := 2) rfl
 clear m2 hel4 hmk4
 have hki4 := mpKeys hks4 keyI
 obtain ⟨e4,vs4,he4,hev4,hR4,ho4,hvl4⟩ := m4.mpeAt (i := 2) rfl (r := [.v (.int .i64 y.vo),.v (.int .i64 y.bl),.v (.int .i64 y.sz),.v (.int .i64 y.pe),.ns .i64 y.place,.v (.int .i64 y.to),.v (.int .i64 y.ne),.v (.bool y.hi),.v (.int .i64 y.fl),.ns .i64 y.pins,.l 2 (y.ws.map wrD)]) (volD_get hj)
 have hek4 := mpKey hks4 he4 (keyV_get hj)
 clear ho4 hvl4
 revert U
 rcases hR4 with _ | ⟨hd4_0,_ | ⟨hd4_1,_ | ⟨hd4_2,_ | ⟨hd4_3,_ | ⟨hd4_4,_ | ⟨hd4_5,_ | ⟨hd4_6,_ | ⟨hd4_7,_ | ⟨hd4_8,_ | ⟨hd4_9,_ | ⟨hd4_10,_ | _⟩⟩⟩⟩⟩⟩⟩⟩⟩⟩⟩
 obtain rfl := hd4_0.v_out
 clear hd4_0
 obtain rfl := hd4_1.v_out
 clear hd4_1
 obtain rfl := hd4_2.v_out
 clear hd4_2
 obtain rfl := hd4_3.v_out
 clear hd4_3
 obtain ⟨p5,c5,hv5,hc5⟩ := hd4_4.ns_shape; subst hv5
 intro U
 have m5 := m4.dat 21 rfl (hd4_4.cast (fun _ h => h)); clear m4 hd4_4
 revert U
 obtain rfl := hd4_5.v_out
 clear hd4_5
 obtain rfl := hd4_6.v_out
 clear hd4_6
 obtain rfl := hd4_7.v_out
 clear hd4_7
 obtain rfl := hd4_8.v_out
 clear hd4_8
 obtain ⟨p6,c6,hv6,hc6⟩ := hd4_9.ns_shape; subst hv6
 intro U
 have m6 := m5.dat 22 rfl (hd4_9.cast (fun _ h => (free_add rfl h))); clear m5 hd4_9
 revert U
 obtain ⟨p7,c7,hv7,hc7⟩ := hd4_10.l_shape; subst hv7
 intro U
 have m7 := m6.dat 23 rfl (hd4_10.cast (fun _ h => (free_add rfl (free_add rfl h)))); clear m6 hd4_10
 have m8 := m7.oz [1,2,3,4,20,21,22,23]
 refine region_p 11 (B := [(1,_),(2,_),(3,_),(4,_),(20,_),(21,_),(22,_),(23,_)]) (m8.to ⟨il,il,il,il,il,il,il,il,trivial⟩) m8 (by kernel_rfl) (fun w9 hP9 m9 =>?_); clear m8
 refine goR hP9 [0,1,2,3,4,5,6,7,8,9] [3,5,6] 10 0 1023 U (m9.to ⟨il,il,il,il,il,il,il,il,trivial⟩) (.move rfl<|.nilCheck rfl<|.fa 0 rfl U87<|.lb hh 1 U85 rfl rfl rfl<|.fa 1 rfl U38<|.lb hh 20 U3 rfl rfl rfl<|.c (fun _ hW _ h_ => y_lookE h_ hW (i := 2) rfl rfl rfl U85 (KeyT.int (q := .i64) U3) hki4 he4 (hek4.trans (keyV_eq hy)) hev4)<|.move rfl<|.extract rfl rfl<|.extract rfl rfl .nil) fun Y U =>?_
 refine so 10 ?_
 refine e_alloc U m9 24 fct14 rfl fun g20 Y w21 U m21 _ _ =>?_
 refine ⟨m21.to ⟨il,il,il,il,il,il,il,il,trivial⟩,?_⟩
 refine se 11 ?_
 refine stw U m21 24 fct13 fun w22 m22 _ =>?_
 refine goB hP9 [12] 1 4095 8191 U (.assign rfl .nil) fun Y U =>?_
 refine wpAnyE_done (by kernel_rfl) ?_ _
 refine hK2 _ _ ?_
 replace U := U.oz [0,3,4,6]
 refine regS U (.move rfl .nil) fun Y U =>?_
 refine wct U ?_
 refine regS U (.assign rfl .nil) fun Y U =>?_
 refine rt1 U ?_
 have m27 := m22.mpClose (i := 2) rfl
 rw [hks4] at m27
 exact ⟨rfl,m27.only [1,2]⟩
theorem create_ok (X : Cx) (B G : Nat) (L : List VolV) (x : Cm) (hR : CmdR x) (pp pi : Option Addr) (cp ni ci : Nat) (w0 : World) (hno : ∀ y ∈ L,y.vo ≠ x.vo) (hN : NewOk x.vo x.bl x.sz x.pe x.to x.pl) (m0 : MemOk X w0 [(1,.box B 87 [.map (some G)]),(2,.mp G 11 ((L).map keyV) ((L).map volD)),(3,.dat (.slice pp x.pl.length cp) (.ns .i64 x.pl)),(4,.dat (.slice pi ni ci) (.l 2 (x.its.map itD)))] w0) :
   Calls Tryz.prog 47 #[.pointer (some ⟨B,0,none⟩),.agg #[.int .i64 x.kd,.int .i64 x.vo,.int .i64 x.bl,.int .i64 x.sz,.int .i64 x.pe,.slice pp x.pl.length cp,.int .i64 x.to,.int .i64 x.at0,.int .i64 x.ix,.slice pi ni ci]] w0 fun e w' => e = .returned (.int .i64 0) ∧ MemOk X w0 [(1,.box B 87 [.map (some G)]),(2,.mp G 11 ((L ++ [newV x.vo x.bl x.sz x.pe x.to x.pl]).map keyV) ((L ++ [newV x.vo x.bl x.sz x.pe x.to x.pl]).map volD))] w' := by
 refine ent2 Tryz.func47 rfl Tryz.ntmps47 fun Y U =>?_
 refine zsr fun K0 hK0 =>?_
 refine plz (e_box U m0 20 (cs := [_,_,_,_,_,_,_,_,_,_]) rfl rfl rfl fun g1 Y w2 U m2 _ _ =>?_)
 refine gz hK0 U (.assign rfl .nil) fun Y U =>?_
 refine wsk fun K1 hK1 =>?_
 refine wsk fun K2 hK2 =>?_
 obtain ⟨es4,ck4,hks4,hel4,hmk4,m4⟩ := m2.mpOpen (i := 2) rfl
 clear m2 hel4 hmk4
 have hki4 := mpKeys hks4 keyI
 have m5 := m4.oz [1,2,3,4,20]
 refine region_p 11 (B := [(1,_),(2,_),(3,_),(4,_),(20,_)]) (m5.to ⟨il,il,il,il,il,trivial⟩) m5 (by kernel_rfl) (fun w6 hP6 m6 =>?_); clear m5
 refine goR hP6 [0,1,2,3,4,5,6,7,8,9] [3,5,6] 10 0 1023 U (m6.to ⟨il,il,il,il,il,trivial⟩) (.move rfl<|.nilCheck rfl<|.fa 0 rfl U87<|.lb hh 1 U85 rfl rfl rfl<|.fa 1 rfl U38<|.lb hh 20 U3 rfl rfl rfl<|.c (fun _ hW _ h_ => y_lookN h_ hW (.agg #[.int .i64 0,.int .i64 0,.int .i64 0,.int .i64 0,.slice none 0 0,.int .i64 0,.int .i64 0,.bool false,.int .i64 0,.slice none 0 0,.slice none 0 0]) (i := 2) rfl rfl rfl U85 zv51 (KeyT.int (q := .i64) U3) hki4 ⟨_,rfl⟩ (mpKeys hks4 (keyV_ne hno)))<|.move rfl<|.extract rfl rfl<|.extract rfl rfl .nil) fun Y U =>?_
 refine so 10 ?_
 refine e_alloc U m6 21 fct14 rfl fun g17 Y w18 U m18 _ _ =>?_
 refine ⟨m18.to ⟨il,il,il,il,il,trivial⟩,?_⟩
 refine se 11 ?_
 refine stw U m18 21 fct13 fun w19 m19 _ =>?_
 refine goB hP6 [12] 1 4095 8191 U (.assign rfl .nil) fun Y U =>?_
 refine wpAnyE_done (by kernel_rfl) ?_ _
 refine hK2 _ _ ?_
 replace U := U.oz [0,3,4,6]
 refine regS U (.move rfl .nil) fun Y U =>?_
 refine wcf U ?_
 refine zss (hK1 _ _ ?_)
 refine zsr fun K3 hK3 =>?_
 refine goCh U (.loadBR m19 (i := 20) rfl rfl U38 rfl fct18 (by simp) (by dsimp only [List.drop,List.take] <;> rfl) .nil) fun Y U =>?_
 refine plz (ecl U Tryz.func95 rfl (vnewY _ _ _ _ _ _ _ _ x.pl _ _ _ _ _ _ ((m19.rd (i := 3) rfl).any) (by have := hR.pl; omega) hN) ?_)
 rintro e w25 ⟨p25,c25,rfl,ho25,hb25⟩
 have m26 := m19.callF 22 rfl hb25 ho25
 refine ⟨_,rfl,?_⟩; intro Y U
 refine goCh U (.move rfl<|.extract rfl rfl<|.extract rfl rfl .nil) fun Y U =>?_
 refine plz (e_alloc U m26 23 fct14 rfl fun g31 Y w32 U m32 _ _ =>?_)
 refine plz (stw U m32 23 fct13 fun w33 m33 _ =>?_)
 refine gz hK3 U (.assign rfl .nil) fun Y U =>?_
 refine wsk fun K4 hK4 =>?_
 replace U := U.oz [0,3,4,7,8]
 refine regS U (.move rfl<|.eql rfl rfl .nil) fun Y U =>?_
 refine bc U 26 ?_ ?_
 rotate_left
 · intro hb _; exact absurd hb (by simp)
 clear U; intro _ U
 refine wct U ?_
 have m39 := m33.mpClose (i := 2) rfl
 rw [hks4] at m39
 have m40 := m39.oz [1,2,3,4,20,21,22,23]
 refine region_p 7 (B := [(1,_),(2,_),(3,_),(4,_),(20,_),(21,_),(22,_),(23,_)]) (m40.to ⟨il,il,il,il,il,il,il,il,trivial⟩) m40 (by kernel_rfl) (fun w41 hP41 m41 =>?_); clear m40
 refine goR hP41 [0,1,2,3,4,5,6] [3,5,6] 7 0 127 U (m41.to ⟨il,il,il,il,il,il,il,il,trivial⟩) (.move rfl<|.nilCheck rfl<|.fa 0 rfl U87<|.lb hh 1 U85 rfl rfl rfl<|.fa 1 rfl U38<|.lb hh 20 U3 rfl rfl rfl<|.loadBR hh (i := 23) rfl rfl U51 rfl fct13 (by simp) (by dsimp only [List.drop,List.take] <;> rfl) .nil) fun Y U =>?_
 refine se 7 ?_
 refine e_mapUpdate (Q := _) U m41 2 rfl rfl rfl rfl U85 (KeyT.int (q := .i64) U3) keyI ⟨_,rfl⟩ rfl rfl (.cons (.v _) (.cons (.v _) (.cons (.v _) (.cons (.v _) (.cons (m41.rd (i := 22) rfl) (.cons (.v _) (.cons (.v _) (.cons (.v _) (.cons (.v _) (.cons (Rd.nilN _ _ .i64 _) (.cons (.l0 _ _ 2) .nil))))))))))) none (keyV_ne hno) fun w49 m49 _ =>?_
 refine wpAnyE_done (by kernel_rfl) ?_ _
 refine hK4 _ _ ?_
 replace U := U.oz [4,8]
 refine regS U (.move rfl<|.assign rfl .nil) fun Y U =>?_
 refine rt1 U ?_
 rw [mpuK_new,mpuR_new] at m49
 exact ⟨rfl,m49.only [1,2]⟩
theorem create_bad (X : Cx) (B G : Nat) (L : List VolV) (x : Cm) (hR : CmdR x) (pp pi : Option Addr) (cp ni ci : Nat) (w0 : World) (hno : ∀ y ∈ L,y.vo ≠ x.vo) (hN : ¬ NewOk x.vo x.bl x.sz x.pe x.to x.pl) (m0 : MemOk X w0 [(1,.box B 87 [.map (some G)]),(2,.mp G 11 ((L).map keyV) ((L).map volD)),(3,.dat (.slice pp x.pl.length cp) (.ns .i64 x.pl)),(4,.dat (.slice pi ni ci) (.l 2 (x.its.map itD)))] w0) :
   Calls Tryz.prog 47 #[.pointer (some ⟨B,0,none⟩),.agg #[.int .i64 x.kd,.int .i64 x.vo,.int .i64 x.bl,.int .i64 x.sz,.int .i64 x.pe,.slice pp x.pl.length cp,.int .i64 x.to,.int .i64 x.at0,.int .i64 x.ix,.slice pi ni ci]] w0 fun e w' => e = .returned (.int .i64 23) ∧ MemOk X w0 [(1,.box B 87 [.map (some G)]),(2,.mp G 11 ((L).map keyV) ((L).map volD))] w' := by
 refine ent2 Tryz.func47 rfl Tryz.ntmps47 fun Y U =>?_
 refine zsr fun K0 hK0 =>?_
 refine plz (e_box U m0 20 (cs := [_,_,_,_,_,_,_,_,_,_]) rfl rfl rfl fun g1 Y w2 U m2 _ _ =>?_)
 refine gz hK0 U (.assign rfl .nil) fun Y U =>?_
 refine wsk fun K1 hK1 =>?_
 refine wsk fun K2 hK2 =>?_
 obtain ⟨es4,ck4,hks4,hel4,hmk4,m4⟩ := m2.mpOpen (i := 2) rfl
 clear m2 hel4 hmk4
 have hki4 := mpKeys hks4 keyI
 have m5 := m4.oz [1,2,3,4,20]
 refine region_p 11 (B := [(1,_),(2,_),(3,_),(4,_),(20,_)]) (m5.to ⟨il,il,il,il,il,trivial⟩) m5 (by kernel_rfl) (fun w6 hP6 m6 =>?_); clear m5
 refine goR hP6 [0,1,2,3,4,5,6,7,8,9] [3,5,6] 10 0 1023 U (m6.to ⟨il,il,il,il,il,trivial⟩) (.move rfl<|.nilCheck rfl<|.fa 0 rfl U87<|.lb hh 1 U85 rfl rfl rfl<|.fa 1 rfl U38<|.lb hh 20 U3 rfl rfl rfl<|.c (fun _ hW _ h_ => y_lookN h_ hW (.agg #[.int .i64 0,.int .i64 0,.int .i64 0,.int .i64 0,.slice none 0 0,.int .i64 0,.int .i64 0,.bool false,.int .i64 0,.slice none 0 0,.slice none 0 0]) (i := 2) rfl rfl rfl U85 zv51 (KeyT.int (q := .i64) U3) hki4 ⟨_,rfl⟩ (mpKeys hks4 (keyV_ne hno)))<|.move rfl<|.extract rfl rfl<|.extract rfl rfl .nil) fun Y U =>?_
 refine so 10 ?_
 refine e_alloc U m6 21 fct14 rfl fun g17 Y w18 U m18 _ _ =>?_
 refine ⟨m18.to ⟨il,il,il,il,il,trivial⟩,?_⟩
 refine se 11 ?_
 refine stw U m18 21 fct13 fun w19 m19 _ =>?_
 refine goB hP6 [12] 1 4095 8191 U (.assign rfl .nil) fun Y U =>?_
 refine wpAnyE_done (by kernel_rfl) ?_ _
 refine hK2 _ _ ?_
 replace U := U.oz [0,3,4,6]
 refine regS U (.move rfl .nil) fun Y U =>?_
 refine wcf U ?_
 refine zss (hK1 _ _ ?_)
 refine zsr fun K3 hK3 =>?_
 refine goCh U (.loadBR m19 (i := 20) rfl rfl U38 rfl fct18 (by simp) (by dsimp only [List.drop,List.take] <;> rfl) .nil) fun Y U =>?_
 refine plz (ecb U Tryz.func95 rfl m19 (vnewN _ _ _ _ _ _ _ _ x.pl _ _ _ _ _ _ ((m19.rd (i := 3) rfl).any) (by have := hR.pl; omega) hN) fun Y w25 U m26 =>?_)
 refine goCh U (.move rfl<|.extract rfl rfl<|.extract rfl rfl .nil) fun Y U =>?_
 refine plz (e_alloc U m26 22 fct14 rfl fun g31 Y w32 U m32 _ _ =>?_)
 refine plz (stw U m32 22 fct13 fun w33 m33 _ =>?_)
 refine gz hK3 U (.assign rfl .nil) fun Y U =>?_
 refine wsk fun K4 hK4 =>?_
 replace U := U.oz [0,3,4,7,8]
 refine regS U (.move rfl<|.eql rfl rfl .nil) fun Y U =>?_
 refine bc U 26 ?_ ?_
 · intro hb _; exact absurd hb (by simp)
 clear U; intro _ U
 refine wcf U ?_
 refine zss (hK4 _ _ ?_)
 refine regS U (.move rfl<|.assign rfl .nil) fun Y U =>?_
 refine rt1 U ?_
 have m41 := m33.mpClose (i := 2) rfl
 rw [hks4] at m41
 exact ⟨rfl,m41.only [1,2]⟩
end
end Go.Proofs.YtkehgingagggaaaGreat.K
