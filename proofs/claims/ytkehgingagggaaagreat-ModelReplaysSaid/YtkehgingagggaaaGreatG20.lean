/- General laws of walks. -/
import Derived.Test.YtkehgingagggaaaGreatG19
import Derived.Test.YtkehgingagggaaaGreatG6
namespace Go.Proofs.YtkehgingagggaaaGreat.K
open Go.ChangeShapes Go.WideShapes Go.ChangeAt Go.RowKit
set_option linter.unusedVariables false
set_option linter.unusedSimpArgs false
section
theorem VolS.sm {n : Nat} {x : VolV} (h : VolS n x) : x.place.length ≤ 256 ∧ x.pins.length ≤ n ∧ x.ws.length ≤ n ∧ ∀ e ∈ x.ws,e.2.length ≤ 8 := by
 obtain ⟨h1,h2,h3,h4,-⟩ := h
 refine ⟨?_,h3,h4,h1.its.2⟩
 obtain ⟨⟨a1,a2,a3,a4,a5,a6,a7,a8,a9,a10,a11⟩,b1,b2,b3⟩ := h1
 have h9 := a9.2
 have : (x.bl + x.pe - 1) / x.pe ≤ x.bl + x.pe - 1 := Int.ediv_le_self _ (by omega)
 have h8 : (x.bl + x.pe - 1) / x.pe ≤ x.bl := by
   have := Int.ediv_lt_of_lt_mul (a := x.bl + x.pe - 1) (b := x.bl + 1) (c := x.pe) (by omega) (by
     have : x.bl * 1 ≤ x.bl * x.pe := Int.mul_le_mul_of_nonneg_left (by omega) (by omega)
     rw [Int.add_mul]; omega)
   omega
 omega
theorem pins_eq {P L : List Int} (h : P.Perm L) (h1 : P.Pairwise (· ≤ ·)) (h2 : L.Pairwise (· ≤ ·)) : P = L := h.eq_of_pairwise (le := (· ≤ ·)) (fun a b _ _ h1 h2 => by omega) h1 h2
def pinT (fl n : Int) (z : Int) : Int := fl + z % (n - fl + 1)
abbrev stZ (bl sz : Int) : List (List Int) := List.replicate bl.toNat (List.replicate sz.toNat 0)
abbrev stL (bl sz : Int) (ws : List PWr) (t : Nat) : List (List Int) := (ws.take t).foldl stW (stZ bl sz)
def wantF (i : Nat) (d : List Int) (x : PI) : List Int := if x.1 = (i : Int) then x.2 else d
theorem doR_put_yes {bl sz to ne fl at0 ix : Int} {hi : Bool} {pins : List Int} {ws : List PWr} {it : List PI} (h : hi = false) (hI : ItemsR bl sz it) : doR bl sz to ne fl hi pins ws 2 at0 ix it = (ne,hi,fl,ws ++ [((ws.length : Int) + 1,it)],0) := by
 subst h; simp [doR,putR,wrR,hI]
set_option maxRecDepth 100000
set_option maxHeartbeats 4000000
end
section
noncomputable def doV (x : VolV) (c : Cm) : VolV × Int :=
 if c.kd = 4 then ({ x with pins := (pinR x.hi x.fl c.at0 x.ws.length x.pins).1 },(pinR x.hi x.fl c.at0 x.ws.length x.pins).2)
 else if c.kd = 5 then ({ x with pins := (unpinR x.hi c.at0 x.pins).1 },(unpinR x.hi c.at0 x.pins).2)
 else ({ x with ne := (doR x.bl x.sz x.to x.ne x.fl x.hi x.pins x.ws c.kd c.at0 c.ix c.its).1,hi := (doR x.bl x.sz x.to x.ne x.fl x.hi x.pins x.ws c.kd c.at0 c.ix c.its).2.1,fl := (doR x.bl x.sz x.to x.ne x.fl x.hi x.pins x.ws c.kd c.at0 c.ix c.its).2.2.1,ws := (doR x.bl x.sz x.to x.ne x.fl x.hi x.pins x.ws c.kd c.at0 c.ix c.its).2.2.2.1 },(doR x.bl x.sz x.to x.ne x.fl x.hi x.pins x.ws c.kd c.at0 c.ix c.its).2.2.2.2)
def repV (y : VolV) (e : Int) : Int × Int × Int := if e = 0 then ((y.ws.length : Int),y.fl,y.ne) else (0,0,0)
theorem repV_of {y : VolV} {e rl rf rn : Int} (h : (e ≠ 0 ∧ rl = 0 ∧ rf = 0 ∧ rn = 0) ∨ (e = 0 ∧ rl = y.ws.length ∧ rf = y.fl ∧ rn = y.ne)) : repV y e = (rl,rf,rn) := by
 rcases h with ⟨h1,rfl,rfl,rfl⟩ | ⟨rfl,rfl,rfl,rfl⟩
 · rw [repV,if_neg h1]
 rw [repV,if_pos rfl]
theorem doV_s {n : Nat} {x : VolV} {c : Cm} (hx : VolS n x) (hb : ∀ e ∈ c.its,BytesL e.2) : VolS (n + 1) (doV x c).1 ∧ (doV x c).1.vo = x.vo := by
 obtain ⟨h1,h2,h3,h4,h5⟩ := hx
 unfold doV
 by_cases k4 : c.kd = 4
 · rw [if_pos k4]
   cases hd : pinR x.hi x.fl c.at0 x.ws.length x.pins with
   | mk pins' e9 =>
     obtain ⟨g1,g2,g3⟩ := h1.pin h2 hd
     exact ⟨⟨g1,g2,by simp only; omega,by simp only; omega,h5⟩,rfl⟩
 rw [if_neg k4]
 by_cases k5 : c.kd = 5
 · rw [if_pos k5]
   cases hd : unpinR x.hi c.at0 x.pins with
   | mk pins' e9 =>
     obtain ⟨g1,g2,g3⟩ := h1.unpin h2 hd
     exact ⟨⟨g1,g2,by simp only; omega,by simp only; omega,h5⟩,rfl⟩
 rw [if_neg k5]
 obtain ⟨ne',hi',fl',ws',e9,hd⟩ : ∃ a b d e f,doR x.bl x.sz x.to x.ne x.fl x.hi x.pins x.ws c.kd c.at0 c.ix c.its = (a,b,d,e,f) := ⟨_,_,_,_,_,rfl⟩
 obtain ⟨g1,g2,g3⟩ := h1.do h2 hd
 rw [hd]
 exact ⟨⟨g1,g2,by simp only; omega,by simp only; omega,doR_by hd h5 hb⟩,rfl⟩
set_option maxHeartbeats 4000000
theorem pDo_v (S : Nat → Prop) (x : VolV) (c : Cm) (n : Nat) (hx : VolS n x) (hn : n ≤ 800000) (hil : c.its.length ≤ 1000000) (hio : ItsOk c.its) (p1 p2 p3 q1 pi : Option Addr) (c1 c2 c3 nx n1 d1 ni ci : Nat) (v1 v2 v3 v4 v5 : Int) (w0 : World) (h1 : Rd S w0 (.slice p1 x.place.length c1) (.ns .i64 x.place)) (h2 : Rd S w0 (.slice p2 x.pins.length c2) (.ns .i64 x.pins)) (h3 : Rd S w0 (.slice p3 nx c3) (.l 2 (x.ws.map wrD))) (h4 : Rd S w0 (.slice pi ni ci) (.l 2 (c.its.map itD))) :
   Calls Tryz.prog 96 #[.agg #[.int .i64 x.vo,.int .i64 x.bl,.int .i64 x.sz,.int .i64 x.pe,.slice p1 x.place.length c1,.int .i64 x.to,.int .i64 x.ne,.bool x.hi,.int .i64 x.fl,.slice p2 x.pins.length c2,.slice p3 nx c3],.agg #[.int .i64 c.kd,.int .i64 v1,.int .i64 v2,.int .i64 v3,.int .i64 v4,.slice q1 n1 d1,.int .i64 v5,.int .i64 c.at0,.int .i64 c.ix,.slice pi ni ci]] w0 fun e w' => ∃ (y : VolV) (e9 rl rf rn : Int) (p1 p2 p3 : Option Addr) (d1 d2 d3 : Nat),e = .returned (.tuple #[.agg #[.int .i64 y.vo,.int .i64 y.bl,.int .i64 y.sz,.int .i64 y.pe,.slice p1 y.place.length d1,.int .i64 y.to,.int .i64 y.ne,.bool y.hi,.int .i64 y.fl,.slice p2 y.pins.length d2,.slice p3 (y.ws.map wrD).length d3],.agg #[.int .i64 e9,.int .i64 rl,.int .i64 rf,.int .i64 rn,.slice none 0 0]]) ∧ doV x c = (y,e9) ∧ repV y e9 = (rl,rf,rn) ∧ Rd (Out S w0) w' (.slice p1 y.place.length d1) (.ns .i64 y.place) ∧ Rd (Out S w0) w' (.slice p2 y.pins.length d2) (.ns .i64 y.pins) ∧ Rd (Out S w0) w' (.slice p3 (y.ws.map wrD).length d3) (.l 2 (y.ws.map wrD)) ∧ Below w0.heap.size w0 w' := by
 obtain rfl : nx = (x.ws.map wrD).length := by obtain ⟨pq,cq,hv,_⟩ := h3.l_shape; injection hv with _ e2 _
 obtain rfl : ni = c.its.length := by obtain ⟨pq,cq,hv,_⟩ := h4.l_shape; injection hv with _ e2 _; rw [List.length_map] at e2; exact e2
 have hF : ∀ (M : Mm),(∀ b,¬ Own M b) → ∀ b,S b → Free (cx S w0) M b := fun M hM b hb => ⟨fun _ => hb,hM b⟩
 have m1 := (MemOk.start S w0).dat 1 rfl (h1.cast (fun b hb => hF _ (by rintro b ⟨j,s,hj,_⟩; cases hj) b hb))
 have m2 := m1.dat 2 rfl (h2.cast (fun b hb => hF _ (by rintro b ⟨j,s,hj,hs⟩; rw [lk_cons] at hj; split at hj; (· cases hj; cases hs); cases hj) b hb))
 have m3 := m2.dat 3 rfl (h3.cast (fun b hb => hF _ (by rintro b ⟨j,s,hj,hs⟩; rw [lk_cons] at hj; split at hj; (· cases hj; cases hs); rw [lk_cons] at hj; split at hj; (· cases hj; cases hs); cases hj) b hb))
 have m4 := m3.dat 4 rfl (h4.cast (fun b hb => hF _ (by rintro b ⟨j,s,hj,hs⟩; rw [lk_cons] at hj; split at hj; (· cases hj; cases hs); rw [lk_cons] at hj; split at hj; (· cases hj; cases hs); rw [lk_cons] at hj; split at hj; (· cases hj; cases hs); cases hj) b hb))
 obtain ⟨vo,bl,sz,pe,place,to,ne,hi,fl,pins,ws⟩ := x
 obtain ⟨kd,cvo,cbl,csz,cpe,cpl,cto,at0,ix,its⟩ := c
 obtain ⟨g1,g2,g3,g4,g5⟩ := hx
 simp only at *
 have hne : -1000000000000000 ≤ ne ∧ ne ≤ 1000000000000000 := by
   obtain ⟨⟨a1,a2,a3,a4,a5,a6,a7,a8,a9,a10,a11⟩,b1,b2,b3⟩ := g1
   omega
 have hpl : place.length ≤ 1000000 := by
   have := (VolS.sm (x := ⟨vo,bl,sz,pe,place,to,ne,hi,fl,pins,ws⟩) ⟨g1,g2,g3,g4,g5⟩).1
   simp only at this; omega
 have hok : WrsOk ws := g1.its.1
 by_cases k4 : kd = 4
 · subst k4
   refine (yDo4 (cx S w0) vo bl sz pe to ne fl hi place pins ws p1 p2 p3 c1 c2 c3 v1 v2 v3 v4 v5 at0 ix q1 n1 d1 pi its.length ci w0 hpl (by omega) (by omega) hok (m4.only [1,2,3])).mono ?_
   rintro e w' ⟨pins',e9,rl,rf,rn,p1',d1',p2',d2',p3',d3',rfl,hd,hr,m⟩
   have ma := m.freezeSN 6 rfl (by intro b hb; cases hb)
   have mb := ma.freezeS 7 rfl (by intro b hb; cases hb)
   refine ⟨⟨vo,bl,sz,pe,place,to,ne,hi,fl,pins',ws⟩,e9,rl,rf,rn,_,_,_,_,_,_,rfl,?_,repV_of hr,mb.outD (i := 5) rfl,mb.outD (i := 6) rfl,mb.outD (i := 7) rfl,mb.below⟩
   simp only [doV,if_true,hd]
 by_cases k5 : kd = 5
 · subst k5
   refine (yDo5 (cx S w0) vo bl sz pe to ne fl hi place pins ws p1 p2 p3 c1 c2 c3 v1 v2 v3 v4 v5 at0 ix q1 n1 d1 pi its.length ci w0 hpl (by omega) (by omega) hok (m4.only [1,2,3])).mono ?_
   rintro e w' ⟨pins',e9,rl,rf,rn,p1',d1',p2',d2',p3',d3',rfl,hd,hr,m⟩
   have ma := m.freezeSN 6 rfl (by intro b hb; cases hb)
   have mb := ma.freezeS 7 rfl (by intro b hb; cases hb)
   refine ⟨⟨vo,bl,sz,pe,place,to,ne,hi,fl,pins',ws⟩,e9,rl,rf,rn,_,_,_,_,_,_,rfl,?_,repV_of hr,mb.outD (i := 5) rfl,mb.outD (i := 6) rfl,mb.outD (i := 7) rfl,mb.below⟩
   simp only [doV,hd]; rfl
 obtain ⟨ne',hi',fl',ws',e9,hd⟩ : ∃ a b d e f,doR bl sz to ne fl hi pins ws kd at0 ix its = (a,b,d,e,f) := ⟨_,_,_,_,_,rfl⟩
 refine (xDo_is (cx S w0) vo bl sz pe to ne fl hi place pins ws its p1 p2 p3 c1 c2 c3 pi ci kd v1 v2 v3 v4 v5 at0 ix q1 n1 d1 w0 ne' hi' fl' ws' e9 hd hpl k4 k5 hne (by omega) (by omega) hil hio hok (m4.only [1,2,3,4])).mono ?_
 rintro e w' ⟨rl,rf,rn,p1',d1',p2',d2',p3',d3',rfl,hr,m⟩
 have mb := m.freezeS 7 rfl (by intro b hb; cases hb)
 refine ⟨⟨vo,bl,sz,pe,place,to,ne',hi',fl',pins,ws'⟩,e9,rl,rf,rn,_,_,_,_,_,_,rfl,?_,repV_of hr,mb.outD (i := 5) rfl,mb.outD (i := 6) rfl,mb.outD (i := 7) rfl,mb.below⟩
 simp only [doV,if_neg k4,if_neg k5,hd]
theorem vnewY (kd vo bl sz pe to at0 ix : Int) (place : List Int) (pp pi : Option Addr) (cp ni ci : Nat) (w0 : World) (h0 : Rd (fun _ => True) w0 (.slice pp place.length cp) (.ns .i64 place)) (hn : place.length ≤ 1000000) (hN : NewOk vo bl sz pe to place) :
   Calls Tryz.prog 95 #[.agg #[.int .i64 kd,.int .i64 vo,.int .i64 bl,.int .i64 sz,.int .i64 pe,.slice pp place.length cp,.int .i64 to,.int .i64 at0,.int .i64 ix,.slice pi ni ci]] w0 fun e w' => ∃ p c,e = .returned (.tuple #[.agg #[.int .i64 vo,.int .i64 bl,.int .i64 sz,.int .i64 pe,.slice p place.length c,.int .i64 to,.int .i64 0,.bool (decide (0 < to)),.int .i64 0,.slice none 0 0,.slice none 0 0],.int .i64 0]) ∧ Rd (New w0) w' (.slice p place.length c) (.ns .i64 place) ∧ Below w0.heap.size w0 w' :=
 (vnew_any kd vo bl sz pe to at0 ix place pp pi cp ni ci w0 h0 hn).mono fun e w' h => h.elim (fun h => h.2) (fun h => absurd hN h.1)
theorem vnewN (kd vo bl sz pe to at0 ix : Int) (place : List Int) (pp pi : Option Addr) (cp ni ci : Nat) (w0 : World) (h0 : Rd (fun _ => True) w0 (.slice pp place.length cp) (.ns .i64 place)) (hn : place.length ≤ 1000000) (hN : ¬ NewOk vo bl sz pe to place) :
   Calls Tryz.prog 95 #[.agg #[.int .i64 kd,.int .i64 vo,.int .i64 bl,.int .i64 sz,.int .i64 pe,.slice pp place.length cp,.int .i64 to,.int .i64 at0,.int .i64 ix,.slice pi ni ci]] w0 fun e w' => e = .returned (.tuple #[.agg #[.int .i64 0,.int .i64 0,.int .i64 0,.int .i64 0,.slice none 0 0,.int .i64 0,.int .i64 0,.bool false,.int .i64 0,.slice none 0 0,.slice none 0 0],.int .i64 23]) ∧ Below w0.heap.size w0 w' :=
 (vnew_any kd vo bl sz pe to at0 ix place pp pi cp ni ci w0 h0 hn).mono fun e w' h => h.elim (fun h => absurd h.1 hN) (fun h => h.2)
end
end Go.Proofs.YtkehgingagggaaaGreat.K
section
namespace Go.Proofs.YtkehgingagggaaaGreat.K
open Go.ChangeShapes Go.WideShapes Go.ChangeAt Go.RowKit Go.MapKept
set_option linter.unusedVariables false
set_option linter.unusedSimpArgs false
theorem setSelf9 {α : Type} {l : List α} {j : Nat} {x : α} (h : l[j]? = some x) : l.set j x = l := by
 obtain ⟨h1,h2⟩ := List.getElem?_eq_some_iff.1 h
 rw [← h2]; exact List.set_getElem_self h1
section
variable {w w0 : World} {X : Cx} {M : Mm} {P : Program} {n : Nat} {T : List (Nat × Value)} {a : Act} {tt : TypeId} {pos : String} {af : Array Edge} {gd : Option (Nat × Bool)}
structure KeyT (P : Program) (kt : TypeId) (K : Value → Prop) : Prop where
 chk : ∀ (w : World) (k : Value) (e : Bool),K k → (Instr.checkKey e 10000 kt k).run P w = .ok () w
 fnd : ∀ (w : World) (k : Value) (es : List MapEntry),K k → (∀ e ∈ es,K e.key) → (es.map (·.key)).Nodup → (∀ j e,es[j]? = some e → e.key = k → (Instr.findKey kt k es).run P w = .ok (some (j,e.val)) w) ∧ ((∀ e ∈ es,e.key ≠ k) → (Instr.findKey kt k es).run P w = .ok none w)
 stay : ∀ (w : World) (k : Value),K k → (Instr.keyThatStays k k).run P w = .ok k w
theorem nodup_at {α : Type} {l : List α} {i j : Nat} {x : α} (h : l.Nodup) (h1 : l[i]? = some x) (h2 : l[j]? = some x) : i = j :=
 (List.getElem?_inj (List.getElem?_eq_some_iff.1 h1).1 h).1 (h1.trans h2.symm)
theorem KeyT.int {kt : TypeId} {q : IntKind} (hu : P.underlying kt = some (.int q)) : KeyT P kt (fun k => ∃ x,k = .int q x) where
 chk w k e h := by
   obtain ⟨x,rfl⟩ := h
   exact run_checkKey hu (by simp [IsKey]) e 9999
 fnd w k es h hes hnd := by
   obtain ⟨x,rfl⟩ := h
   have hk : IsKey (.int q) (.int q x) := by simp [IsKey]
   have hl : ∀ e ∈ es,IsKey (.int q) e.key := fun e he => by obtain ⟨y,hy⟩ := hes e he; rw [hy]; simp [IsKey]
   rcases findNow_spec hk es 0 hl with ⟨h1,h2⟩ | ⟨j,e,h1,h2,h3⟩
   · refine ⟨fun j e he hek => absurd hek (h2 e (List.mem_of_getElem? he)),fun _ => run_findKey hu h1⟩
   refine ⟨fun j' e' he' hek =>?_,fun hno => absurd h3 (hno e (List.mem_of_getElem? h2))⟩
   have a1 : (es.map (·.key))[j]? = some (.int q x) := by rw [List.getElem?_map,h2]; exact congrArg some h3
   have a2 : (es.map (·.key))[j']? = some (.int q x) := by rw [List.getElem?_map,he']; exact congrArg some hek
   obtain rfl := nodup_at hnd a1 a2
   rw [h2] at he'; injection he' with he'; subst he'
   have := run_findKey (w := w) hu h1
   rw [Nat.zero_add] at this
   exact this
 stay w k h := by
   obtain ⟨x,rfl⟩ := h
   have := sameBits_self (d := .int q) (k := .int q x) (by simp [IsKey]) 10000
   simp [Instr.keyThatStays,this,Sem.run]
/-! ### Looking up -/
theorem y_lookT (h : Has n T a) {d : Option Tmp} {t kt et : TypeId} {x y : Operand} {g : Nat} {k : Value} {K : Value → Prop} {es : Array MapEntry} {ck j : Nat} {v : Value} (hx : evT T x = some (.map (some g))) (hy : evT T y = some k) (hu : P.underlying t = some (.map kt et)) (hK : KeyT P kt K) (hkk : K k) (hb : w.heap[g]? = some (.map es ck)) (hf : (Instr.findKey kt k es.toList).run P w = .ok (some (j,v)) w) : Yl P a w ⟨d,.lookup t x y true,tt,pos,af,gd⟩ (.tuple #[v,.bool true]) := by
 show (execOp _ _).run P w = _
 simp [execOp,h.ev hx,h.ev hy,Instr.lookup,run_underlying hu,MapKept.run_getObj_map hb,hK.chk w k es.isEmpty hkk,hf,Result.andThen]
theorem y_lookT1 (h : Has n T a) {d : Option Tmp} {t kt et : TypeId} {x y : Operand} {g : Nat} {k : Value} {K : Value → Prop} {es : Array MapEntry} {ck j : Nat} {v : Value} (hx : evT T x = some (.map (some g))) (hy : evT T y = some k) (hu : P.underlying t = some (.map kt et)) (hK : KeyT P kt K) (hkk : K k) (hb : w.heap[g]? = some (.map es ck)) (hf : (Instr.findKey kt k es.toList).run P w = .ok (some (j,v)) w) : Yl P a w ⟨d,.lookup t x y false,tt,pos,af,gd⟩ v := by
 show (execOp _ _).run P w = _
 simp [execOp,h.ev hx,h.ev hy,Instr.lookup,run_underlying hu,MapKept.run_getObj_map hb,hK.chk w k es.isEmpty hkk,hf,Result.andThen]
theorem y_lookF (h : Has n T a) {d : Option Tmp} {t kt et : TypeId} {x y : Operand} {g : Nat} {k z : Value} {K : Value → Prop} {es : Array MapEntry} {ck : Nat} (hx : evT T x = some (.map (some g))) (hy : evT T y = some k) (hu : P.underlying t = some (.map kt et)) (hz : (P.info? et).bind (·.zero) = some z) (hK : KeyT P kt K) (hkk : K k) (hb : w.heap[g]? = some (.map es ck)) (hf : (Instr.findKey kt k es.toList).run P w = .ok none w) : Yl P a w ⟨d,.lookup t x y true,tt,pos,af,gd⟩ (.tuple #[z,.bool false]) := by
 show (execOp _ _).run P w = _
 cases hi : P.info? et with
 | none => simp [hi] at hz
 | some it =>
   have hzz : it.zero = some z := by simpa [hi] using hz
   simp [execOp,h.ev hx,h.ev hy,Instr.lookup,run_underlying hu,MapKept.run_getObj_map hb,hK.chk w k es.isEmpty hkk,hf,Result.andThen,zeroValue,typeInfo,hi,hzz]
/-! ### Making, writing -/
theorem Keep.setO (w : World) (g : Nat) (o : Obj) : Keep (fun b => b = g) w { w with heap := w.heap.setIfInBounds g o } :=
 ⟨rfl,rfl,rfl,by show _ ≤ (w.heap.setIfInBounds g o).size; rw [Array.size_setIfInBounds]; exact Nat.le_refl _,fun k hk hn => by show (w.heap.setIfInBounds g o)[k]? = _; rw [Array.getElem?_setIfInBounds]; rw [if_neg (fun e => hn e.symm)]⟩
theorem e_makeMap {Q : Exit → Act → World → Prop} {K : Act → World → Prop} (ha : Has n T a) (m : MemOk X w0 M w) (i : Nat) (mm : Nat) {d : Tmp} {t : TypeId} (ht : Nat.blt d n = true) (h : ∀ g a' w',Has n ((d,.map (some g)) :: T) a' → MemOk X w0 ((i,.mp g mm [] []) :: M) w' → Below w.heap.size w w' → g = w.heap.size → K a' w') : Oper.wp P ⟨some d,.makeMap t none,tt,pos,af,gd⟩ a w K Q := by
 have hr : (execOp a.eval ⟨some d,.makeMap t none,tt,pos,af,gd⟩).run P w = .ok (.value (.map (some w.heap.size))) (w.alloc (.map #[] 0)) := by
   simp [execOp,Instr.makeMap]
 show Oper.upon P _ a K Q _
 rw [hr]
 refine h _ _ _ (ha.put ht _) ?_ ((Below.refl _ w).alloc (Nat.le_refl _) _) rfl
 refine m.upd i _ (Keep.alloc _ _ _) (fun b hb => .inr (by injection hb with hb; omega)) (fun _ _ => ⟨⟨[],0,rfl,?_,⟨List.nodup_nil,List.nodup_nil,fun e he => by cases he⟩,rfl,(fun r hr => by cases hr),(fun j e r he => by cases he)⟩,.inl m.keep.size⟩)
 show (w.heap.push _)[w.heap.size]? = _
 simp
def mpuK (ks : List Value) (k : Value) : Option Nat → List Value
 | none => ks ++ [k]
 | some _ => ks
def mpuR (rows : List (List D)) (r : List D) : Option Nat → List (List D)
 | none => rows ++ [r]
 | some j => rows.set j r
theorem e_mapUpdate {Q : Exit → Act → World → Prop} {K9 : Act → World → Prop} (ha : Has n T a) (m : MemOk X w0 M w) (i : Nat) {t kt et : TypeId} {x y z : Operand} {g mm : Nat} {ks : List Value} {rows : List (List D)} {k : Value} {vs : List Value} {r : List D} {K : Value → Prop} (hm : lk M i = some (.mp g mm ks rows)) (hx : evT T x = some (.map (some g))) (hy : evT T y = some k) (hz : evT T z = some (.agg vs.toArray)) (hu : P.underlying t = some (.map kt et)) (hK : KeyT P kt K) (hks : ∀ x ∈ ks,K x) (hkk : K k) (h1 : vs.all (fun v => v.oneCell') = true) (hl : vs.length = mm) (hR : RdL (Free X M) w vs r)
   (jo : Option Nat) (hj : match jo with | none => ∀ x ∈ ks,x ≠ k | some j => ks[j]? = some k)
   (h : ∀ w',MemOk X w0 ((i,.mp g mm (mpuK ks k jo) (mpuR rows r jo)) :: M) w' → Keep (fun b => b = g) w w' → K9 a w') : Oper.wp P ⟨none,.mapUpdate t x y z,tt,pos,af,gd⟩ a w K9 Q := by
 obtain ⟨⟨es,ck,e1,e2,e3,e4,e5,e6⟩,eN⟩ := m.ok i _ hm
 subst e1
 have hfk := hK.fnd w k es hkk (fun e he => hks _ (List.mem_map.2 ⟨e,he,rfl⟩)) e3.nd
 have hgl : g < w.heap.size := (Array.getElem?_eq_some_iff.1 e2).1
 have hrl : r.length = mm := by rw [← hR.len,hl]
 have hset : ∀ (o : Obj),(setObj g o).run P w = .ok () { w with heap := w.heap.setIfInBounds g o } := fun o => MapKept.run_setObj_map o e2
 have hat : ∀ (o : Obj),({ w with heap := w.heap.setIfInBounds g o } : World).heap[g]? = some o := fun o => by
   show (w.heap.setIfInBounds g o)[g]? = some o
   rw [Array.getElem?_setIfInBounds_self_of_lt hgl]
 have hpast : ∀ (es' : List MapEntry) (ck' : Nat) (rows' : List (List D)),es'.map (·.key) = mpuK (es.map (·.key)) k jo → rows' = mpuR rows r jo → MapK es' ck' → es'.length = rows'.length → (∀ r ∈ rows',r.length = mm) →
     (∀ (j : Nat) (e : MapEntry) (r' : List D),es'[j]? = some e → rows'[j]? = some r' → (es[j]? = some e ∧ rows[j]? = some r') ∨ (e.val = .agg vs.toArray ∧ r' = r)) →
     (execOp a.eval ⟨none,.mapUpdate t x y z,tt,pos,af,gd⟩).run P w = .ok .skip { w with heap := w.heap.setIfInBounds g (.map es'.toArray ck') } → Oper.wp P ⟨none,.mapUpdate t x y z,tt,pos,af,gd⟩ a w K9 Q := by
   intro es' ck' rows' a1 a2 a3 a4 a5 a6 hrun
   show Oper.upon P _ a K9 Q _
   rw [hrun]
   have hkp := Keep.setO w g (.map es'.toArray ck')
   refine h _ (m.upd i _ (hkp.mono (fun b e => ⟨_,hm,by rw [show b = g from e]; rfl⟩)) (fun b hb => .inl ⟨_,hm,hb⟩) (fun hF _ =>?_)) hkp
   have hmv : ∀ {x : Value} {d : D},Rd (Free X M) w x d → Rd (Free X ((i,.mp g mm (mpuK (es.map (·.key)) k jo) (mpuR rows r jo)) :: M)) { w with heap := w.heap.setIfInBounds g (.map es'.toArray ck') } x d := fun hd => hd.mono hkp.size (fun b hb hS => ⟨hkp.2.2.2.2 b hb (fun e => hS.2 ⟨i,_,hm,by rw [e]; rfl⟩),hF b hb hS⟩)
   refine ⟨⟨es',ck',a1,hat _,a3,by rw [a4,a2],by rw [← a2]; exact a5,fun j e r' he hr =>?_⟩,eN⟩
   rw [← a2] at hr
   rcases a6 j e r' he hr with ⟨b1,b2⟩ | ⟨b1,b2⟩
   · obtain ⟨vs',c1,c2,c3,c4⟩ := e6 j e r' b1 b2
     exact ⟨vs',c1,c2,c3,fun q x d d1 d2 => hmv (c4 q x d d1 d2)⟩
   subst b2
   exact ⟨vs,b1,hl,List.all_eq_true.1 h1,fun q x d d1 d2 => hmv (hR.get q x d d1 d2)⟩
 cases jo with
 | none =>
   have hno : ∀ e ∈ es,e.key ≠ k := fun e he => hj _ (List.mem_map.2 ⟨e,he,rfl⟩)
   refine hpast (es ++ [{ key := k,val := .agg vs.toArray,born := ck }]) (ck + 1) _ (by rw [List.map_append]; rfl) rfl ⟨?_,?_,?_⟩ (by simp [mpuR,e4]) ?_ ?_ ?_
   · rw [List.map_append]
     refine List.nodup_append.2 ⟨e3.nd,by simp,fun a ha b hb =>?_⟩
     obtain ⟨e,he,rfl⟩ := List.mem_map.1 ha
     simp at hb; subst hb
     exact hno e he
   · rw [List.map_append]
     refine List.nodup_append.2 ⟨e3.bn,by simp,fun a ha b hb =>?_⟩
     obtain ⟨e,he,rfl⟩ := List.mem_map.1 ha
     simp at hb; subst hb
     have := e3.lt e he; omega
   · intro e he
     rcases List.mem_append.1 he with he | he
     · have := e3.lt e he; omega
     simp at he; subst he; exact Nat.lt_succ_self _
   · intro r' hr'
     rcases List.mem_append.1 hr' with hr' | hr'
     · exact e5 r' hr'
     simp at hr'; subst hr'; exact hrl
   · intro j e r' he hr'
     by_cases hjl : j < es.length
     · rw [List.getElem?_append_left hjl] at he
       rw [show mpuR rows r none = rows ++ [r] from rfl,List.getElem?_append_left (by omega)] at hr'
       exact .inl ⟨he,hr'⟩
     rw [List.getElem?_append_right (by omega)] at he
     rw [show mpuR rows r none = rows ++ [r] from rfl,List.getElem?_append_right (by omega)] at hr'
     have hj0 : j - es.length = 0 := by
       rcases Nat.eq_zero_or_pos (j - es.length) with h0 | h0
       · exact h0
       rw [List.getElem?_eq_none (by simp; omega)] at he; cases he
     rw [hj0] at he
     rw [show j - rows.length = 0 by omega] at hr'
     injection he with he; injection hr' with hr'
     exact .inr ⟨by rw [← he],hr'.symm⟩
   simp [execOp,ha.ev hx,ha.ev hy,ha.ev hz,Instr.mapUpdate,run_underlying hu,MapKept.run_getObj_map e2,hK.chk w k false hkk,hfk.2 hno,hset,Result.andThen]
 | some j =>
   have hjk : (es.map (·.key))[j]? = some k := hj
   rw [List.getElem?_map] at hjk
   cases hej : es[j]? with
   | none => rw [hej] at hjk; cases hjk
   | some e0 =>
     rw [hej] at hjk; injection hjk with hjk
     have hjl := (List.getElem?_eq_some_iff.1 hej).1
     have hset' : es.modify j (fun e => { e with key := k,val := .agg vs.toArray }) = es.set j { e0 with key := k,val := .agg vs.toArray } := by
       apply List.ext_getElem?
       intro q
       rw [List.getElem?_modify,List.getElem?_set]
       by_cases hq : j = q
       · subst hq; simp [hej,hjl]; rw [(List.getElem?_eq_some_iff.1 hej).2]
       simp [hq]
     refine hpast (es.set j { e0 with key := k,val := .agg vs.toArray }) ck _ ?_ rfl ⟨?_,?_,?_⟩ (by simp [mpuR,e4]) ?_ ?_ ?_
     · rw [List.map_set]
       show _ = es.map (·.key)
       exact setSelf9 (by rw [List.getElem?_map,hej]; exact congrArg some hjk)
     · rw [List.map_set,setSelf9 (by rw [List.getElem?_map,hej]; exact congrArg some hjk)]; exact e3.nd
     · rw [List.map_set,setSelf9 (by rw [List.getElem?_map,hej]; rfl)]; exact e3.bn
     · intro e he
       rcases List.mem_or_eq_of_mem_set he with he | he
       · exact e3.lt e he
       rw [he]; exact e3.lt e0 (List.mem_of_getElem? hej)
     · intro r' hr'
       rcases List.mem_or_eq_of_mem_set hr' with hr' | hr'
       · exact e5 r' hr'
       rw [hr']; exact hrl
     · intro q e r' he hr'
       by_cases hq : j = q
       · subst hq
         rw [List.getElem?_set_self hjl] at he
         rw [show mpuR rows r (some j) = rows.set j r from rfl,List.getElem?_set_self (by omega)] at hr'
         injection he with he; injection hr' with hr'
         exact .inr ⟨by rw [← he],hr'.symm⟩
       rw [List.getElem?_set_ne hq] at he
       rw [show mpuR rows r (some j) = rows.set j r from rfl,List.getElem?_set_ne hq] at hr'
       exact .inl ⟨he,hr'⟩
     have hst := hK.stay w k hkk
     have hkk0 : e0.key = k := hjk
     simp [execOp,ha.ev hx,ha.ev hy,ha.ev hz,Instr.mapUpdate,run_underlying hu,MapKept.run_getObj_map e2,hK.chk w k false hkk,hfk.1 j e0 hej hjk,hset,Result.andThen,hej,hkk0,hst,hset']
/-! ### Ranging -/
theorem MemOk.mpOpen (m : MemOk X w0 M w) {i g mm : Nat} {ks : List Value} {rows : List (List D)} (hm : lk M i = some (.mp g mm ks rows)) : ∃ es ck,es.map (·.key) = ks ∧ es.length = rows.length ∧ MapK es ck ∧ MemOk X w0 ((i,.mpE g mm es ck rows) :: M) w := by
 obtain ⟨⟨es,ck,e1,e2⟩,eN⟩ := m.ok i _ hm
 exact ⟨es,ck,e1,e2.2.2.1,e2.2.1,m.upd i _ (Keep.refl _ _) (fun b hb => .inl ⟨_,hm,hb⟩) (fun hF _ => ⟨e2.mono (Nat.le_refl _) (fun b hb hS => ⟨rfl,hF b hb hS⟩) rfl,eN⟩)⟩
theorem MemOk.mpClose (m : MemOk X w0 M w) {i g mm : Nat} {es : List MapEntry} {ck : Nat} {rows : List (List D)} (hm : lk M i = some (.mpE g mm es ck rows)) : MemOk X w0 ((i,.mp g mm (es.map (·.key)) rows) :: M) w := by
 obtain ⟨e2,eN⟩ := m.ok i _ hm
 exact m.upd i _ (Keep.refl _ _) (fun b hb => .inl ⟨_,hm,hb⟩) (fun hF _ => ⟨⟨es,ck,rfl,e2.mono (Nat.le_refl _) (fun b hb hS => ⟨rfl,hF b hb hS⟩) rfl⟩,eN⟩)
theorem e_range {Q : Exit → Act → World → Prop} {K : Act → World → Prop} (ha : Has n T a) (m : MemOk X w0 M w) (i2 : Nat) {i g mm : Nat} {es : List MapEntry} {ck : Nat} {rows : List (List D)} {d : Tmp} {t kt et : TypeId} {x : Operand} (hm : lk M i = some (.mpE g mm es ck rows)) (hx : evT T x = some (.map (some g))) (hu : P.underlying t = some (.map kt et)) (ht : Nat.blt d n = true)
   (h : ∀ r a' w',Has n ((d,.pointer (some ⟨r,0,none⟩)) :: T) a' → MemOk X w0 ((i2,.obj r (.mapIter (some g) ck #[] ck)) :: M) w' → K a' w') : Oper.wp P ⟨some d,.range t x,tt,pos,af,gd⟩ a w K Q := by
 obtain ⟨e2,eN⟩ := m.ok i _ hm
 have hr : (execOp a.eval ⟨some d,.range t x,tt,pos,af,gd⟩).run P w = .ok (.value (.pointer (some ⟨w.heap.size,0,none⟩))) (w.alloc (.mapIter (some g) ck #[] ck)) := by
   have := run_range_map (P := P) w t kt et g es.toArray ck hu e2.1
   simp [execOp,ha.ev hx,this]
 show Oper.upon P _ a K Q _
 rw [hr]
 refine h _ _ _ (ha.put ht _) (m.upd i2 _ (Keep.alloc _ _ _) (fun b hb => .inr (by injection hb with hb; omega)) (fun _ _ => ⟨?_,.inl m.keep.size⟩))
 show (w.heap.push _)[w.heap.size]? = _
 simp
theorem e_next {Q : Exit → Act → World → Prop} {K : Act → World → Prop} (ha : Has n T a) (m : MemOk X w0 M w) {i i2 g mm r : Nat} {es : List MapEntry} {ck : Nat} {rows : List (List D)} {seen : Array Nat} {d : Tmp} {x : Operand} (hm : lk M i = some (.mpE g mm es ck rows)) (hr : lk M i2 = some (.obj r (.mapIter (some g) ck seen ck))) (hx : evT T x = some (.pointer (some ⟨r,0,none⟩))) (ht : Nat.blt d n = true)
   (h0 : (∀ e ∈ es,e.born ∈ seen) → ∀ a',Has n ((d,.tuple #[.bool false]) :: T) a' → K a' w)
   (h1 : ∀ e ∈ es,e.born ∉ seen → ∀ a' w',Has n ((d,.tuple #[.bool true,e.key,e.val]) :: T) a' → MemOk X w0 ((i2,.obj r (.mapIter (some g) ck (seen.push e.born) ck)) :: M) w' → K a' w') : Oper.wp P ⟨some d,.next x false,tt,pos,af,gd⟩ a w K Q := by
 obtain ⟨e2,eN⟩ := m.ok i _ hm
 obtain ⟨f2,fN⟩ := m.ok i2 _ hr
 have hk := e2.2.1
 show Oper.upon P _ a K Q _
 rcases run_next_at (P := P) w tt r g ck ck seen es.toArray ck f2 e2.1 (fun e he => hk.lt e he) (Nat.le_refl _) with ⟨a1,a2⟩ | ⟨e,a1,w1,a2,a3⟩
 · have hrun : (execOp a.eval ⟨some d,.next x false,tt,pos,af,gd⟩).run P w = .ok (.value (.tuple #[.bool false])) w := by
     simp [execOp,ha.ev hx,a2]
   rw [hrun]
   refine h0 (fun e he =>?_) _ (ha.put ht _)
   have hn : leftOf es.toArray seen = #[] := Array.eq_empty_of_size_eq_zero a1
   unfold leftOf at hn
   rw [Array.filter_eq_empty_iff] at hn
   have := hn e (by simpa using he)
   simpa using this
 have hrun : (execOp a.eval ⟨some d,.next x false,tt,pos,af,gd⟩).run P w = .ok (.value (.tuple #[.bool true,e.key,e.val])) (ChangeMaps.setBlock w1 r (.mapIter (some g) ck (seen.push e.born) ck)) := by
   simp [execOp,ha.ev hx,a3]
 rw [hrun]
 unfold leftOf at a1
 have ha1 : e ∈ es ∧ e.born ∉ seen := by simpa using a1
 have hww : MemOk X w0 M w1 := by
   rcases a2 with rfl | rfl
   · exact m
   exact m.drew
 have f3 := hww.ok i2 _ hr
 have hgl : r < w1.heap.size := (Array.getElem?_eq_some_iff.1 f3.1).1
 refine h1 e ha1.1 ha1.2 _ _ (ha.put ht _) ?_
 have hkp := Keep.setO w1 r (.mapIter (some g) ck (seen.push e.born) ck)
 refine hww.upd i2 _ (hkp.mono (fun b e => ⟨_,hr,by rw [show b = r from e]; rfl⟩)) (fun b hb => .inl ⟨_,hr,hb⟩) (fun _ _ => ⟨?_,fN⟩)
 show (w1.heap.setIfInBounds r _)[r]? = _
 rw [Array.getElem?_setIfInBounds_self_of_lt hgl]
theorem y_entry (h : Has n T a) (m : MemOk X w0 M w) {d : Option Tmp} {x : Operand} {i i2 g mm r : Nat} {es : List MapEntry} {ck : Nat} {rows : List (List D)} {seen : Array Nat} {e : MapEntry} (hm : lk M i = some (.mpE g mm es ck rows)) (hr : lk M i2 = some (.obj r (.mapIter (some g) ck (seen.push e.born) ck))) (hx : evT T x = some (.pointer (some ⟨r,0,none⟩))) (he : e ∈ es) : Yl P a w ⟨d,.entry x,tt,pos,af,gd⟩ (.tuple #[e.key,e.val]) := by
 obtain ⟨e2,eN⟩ := m.ok i _ hm
 obtain ⟨f2,fN⟩ := m.ok i2 _ hr
 show (execOp _ _).run P w = _
 have := run_entry_at (P := P) w r g ck seen es.toArray ck e f2 e2.1 (by simpa using he) (by simpa using e2.2.1.bn)
 simp [execOp,h.ev hx,this]
/-! ### Looking up what is open -/
theorem MemOk.mpeAt (m : MemOk X w0 M w) {i g mm : Nat} {es : List MapEntry} {ck : Nat} {rows : List (List D)} (hm : lk M i = some (.mpE g mm es ck rows)) {j : Nat} {r : List D} (hr : rows[j]? = some r) : ∃ (e : MapEntry) (vs : List Value),es[j]? = some e ∧ e.val = .agg vs.toArray ∧ RdL (Free X M) w vs r ∧ vs.all (fun v => v.oneCell') = true ∧ vs.length = mm := by
 obtain ⟨⟨h2,h3,h4,h5,h6⟩,_⟩ := m.ok i _ hm
 have hj : j < es.length := by rw [h4]; exact (List.getElem?_eq_some_iff.1 hr).1
 have he : es[j]? = some es[j] := List.getElem?_eq_getElem hj
 obtain ⟨vs,a1,a2,a3,a4⟩ := h6 j _ r he hr
 exact ⟨_,vs,he,a1,RdL.of (by rw [a2,h5 r (List.mem_of_getElem? hr)]) a4,List.all_eq_true.2 a3,a2⟩
theorem mpKey {es : List MapEntry} {ks : List Value} (h : es.map (·.key) = ks) {j : Nat} {e : MapEntry} {k : Value} (he : es[j]? = some e) (hk : ks[j]? = some k) : e.key = k := by
 rw [← h,List.getElem?_map,he] at hk; injection hk
theorem mpKeys {es : List MapEntry} {ks : List Value} (h : es.map (·.key) = ks) {Q : Value → Prop} (hq : ∀ k ∈ ks,Q k) : ∀ e ∈ es,Q e.key := fun e he => hq _ (h ▸ List.mem_map.2 ⟨e,he,rfl⟩)
theorem y_lookE (h : Has n T a) (m : MemOk X w0 M w) {d : Option Tmp} {t kt et : TypeId} {x y : Operand} {i g mm : Nat} {es : List MapEntry} {ck : Nat} {rows : List (List D)} {k : Value} {K : Value → Prop} {j : Nat} {e : MapEntry} {vs : List Value} (hm : lk M i = some (.mpE g mm es ck rows)) (hx : evT T x = some (.map (some g))) (hy : evT T y = some k) (hu : P.underlying t = some (.map kt et)) (hK : KeyT P kt K) (hks : ∀ e ∈ es,K e.key) (he : es[j]? = some e) (hek : e.key = k) (hev : e.val = .agg vs.toArray) : Yl P a w ⟨d,.lookup t x y true,tt,pos,af,gd⟩ (.tuple #[.agg vs.toArray,.bool true]) := by
 obtain ⟨⟨h2,h3,_⟩,_⟩ := m.ok i _ hm
 have hkk : K k := hek ▸ hks e (List.mem_of_getElem? he)
 refine y_lookT h hx hy hu hK hkk h2 (j := j) ?_
 rw [← hev]
 exact (hK.fnd w k es hkk hks h3.nd).1 j e he hek
theorem y_lookE1 (h : Has n T a) (m : MemOk X w0 M w) {d : Option Tmp} {t kt et : TypeId} {x y : Operand} {i g mm : Nat} {es : List MapEntry} {ck : Nat} {rows : List (List D)} {k : Value} {K : Value → Prop} {j : Nat} {e : MapEntry} {vs : List Value} (hm : lk M i = some (.mpE g mm es ck rows)) (hx : evT T x = some (.map (some g))) (hy : evT T y = some k) (hu : P.underlying t = some (.map kt et)) (hK : KeyT P kt K) (hks : ∀ e ∈ es,K e.key) (he : es[j]? = some e) (hek : e.key = k) (hev : e.val = .agg vs.toArray) : Yl P a w ⟨d,.lookup t x y false,tt,pos,af,gd⟩ (.agg vs.toArray) := by
 obtain ⟨⟨h2,h3,_⟩,_⟩ := m.ok i _ hm
 have hkk : K k := hek ▸ hks e (List.mem_of_getElem? he)
 refine y_lookT1 h hx hy hu hK hkk h2 (j := j) ?_
 rw [← hev]
 exact (hK.fnd w k es hkk hks h3.nd).1 j e he hek
theorem y_lookN (h : Has n T a) (m : MemOk X w0 M w) {d : Option Tmp} {t kt et : TypeId} {x y : Operand} {i g mm : Nat} {es : List MapEntry} {ck : Nat} {rows : List (List D)} {k : Value} {K : Value → Prop} (z : Value) (hm : lk M i = some (.mpE g mm es ck rows)) (hx : evT T x = some (.map (some g))) (hy : evT T y = some k) (hu : P.underlying t = some (.map kt et)) (hz : (P.info? et).bind (·.zero) = some z) (hK : KeyT P kt K) (hks : ∀ e ∈ es,K e.key) (hkk : K k) (hno : ∀ e ∈ es,e.key ≠ k) : Yl P a w ⟨d,.lookup t x y true,tt,pos,af,gd⟩ (.tuple #[z,.bool false]) := by
 obtain ⟨⟨h2,h3,_⟩,_⟩ := m.ok i _ hm
 exact y_lookF h hx hy hu hz hK hkk h2 ((hK.fnd w k es hkk hks h3.nd).2 hno)
theorem e_nextU {Q : Exit → Act → World → Prop} {K : Act → World → Prop} (ha : Has n T a) (m : MemOk X w0 M w) {i i2 g mm r : Nat} {es : List MapEntry} {ck : Nat} {rows : List (List D)} {seen : Array Nat} {d : Tmp} {x : Operand} (hm : lk M i = some (.mpE g mm es ck rows)) (hr : lk M i2 = some (.obj r (.mapIter (some g) ck seen ck))) (hx : evT T x = some (.pointer (some ⟨r,0,none⟩))) (ht : Nat.blt d n = true)
   (h : ∀ (b : Bool) (tl : List Value) (o : Obj) a' w',Has n ((d,.tuple (.bool b :: tl).toArray) :: T) a' → MemOk X w0 ((i2,.obj r o) :: M) w' → ((b = false ∧ ∀ e ∈ es,e.born ∈ seen) ∨ (b = true ∧ ∃ e ∈ es,e.born ∉ seen ∧ o = .mapIter (some g) ck (seen.push e.born) ck)) → K a' w') : Oper.wp P ⟨some d,.next x false,tt,pos,af,gd⟩ a w K Q := by
 refine e_next ha m hm hr hx ht (fun h0 a' ha' =>?_) (fun e he hn a' w' ha' m' =>?_)
 · refine h false [] (.mapIter (some g) ck seen ck) a' w ha' (m.sub (fun j s hj =>?_)) (.inl ⟨rfl,h0⟩)
   rw [lk_cons] at hj
   split at hj
   · rename_i e; subst e; injection hj with hj; subst hj; exact hr
   exact hj
 exact h true [e.key,e.val] _ a' w' ha' m' (.inr ⟨rfl,e,he,hn,rfl⟩)
theorem y_entryK (h : Has n T a) (m : MemOk X w0 M w) {d : Option Tmp} {x : Operand} {i i2 g mm r : Nat} {es : List MapEntry} {ck : Nat} {rows : List (List D)} {seen : Array Nat} {e : MapEntry} {k : Value} (hm : lk M i = some (.mpE g mm es ck rows)) (hr : lk M i2 = some (.obj r (.mapIter (some g) ck (seen.push e.born) ck))) (hx : evT T x = some (.pointer (some ⟨r,0,none⟩))) (he : e ∈ es) (hk : e.key = k) : Yl P a w ⟨d,.entry x,tt,pos,af,gd⟩ (.tuple #[k,e.val]) := by
 rw [← hk]; exact y_entry h m hm hr hx he
theorem sub_len : ∀ {dn es : List MapEntry},(∀ e ∈ dn,e ∈ es) → (dn.map (·.born)).Nodup → dn.length ≤ es.length
 | [],es,_,_ => Nat.zero_le _
 | e :: t,es,h,hn => by
   obtain ⟨a,b,rfl⟩ := List.append_of_mem (h e List.mem_cons_self)
   rw [List.map_cons,List.nodup_cons] at hn
   have := sub_len (dn := t) (es := a ++ b) (fun x hx => by
     have h1 := h x (List.mem_cons_of_mem _ hx)
     rcases List.mem_append.1 h1 with h1 | h1
     · exact List.mem_append_left _ h1
     rcases List.mem_cons.1 h1 with rfl | h1
     · exact absurd (List.mem_map.2 ⟨x,hx,rfl⟩) hn.1
     exact List.mem_append_right _ h1) hn.2
   simp only [List.length_cons,List.length_append] at *
   omega
theorem perm_born : ∀ {dn es : List MapEntry},(∀ e ∈ dn,e ∈ es) → (dn.map (·.born)).Nodup → (es.map (·.born)).Nodup → (∀ e ∈ es,e.born ∈ dn.map (·.born)) → dn.Perm es
 | [],es,_,_,_,h => by
   cases es with
   | nil => exact List.Perm.refl _
   | cons e t => have := h e List.mem_cons_self; cases this
 | e :: t,es,h,hn,hm,ha => by
   obtain ⟨a,b,rfl⟩ := List.append_of_mem (h e List.mem_cons_self)
   rw [List.map_cons,List.nodup_cons] at hn
   have hm' : ((e :: (a ++ b)).map (·.born)).Nodup := (List.Perm.nodup_iff ((List.perm_middle (a := e) (l₁ := a) (l₂ := b)).map _)).1 hm
   rw [List.map_cons,List.nodup_cons] at hm'
   have h2 := perm_born (dn := t) (es := a ++ b) (fun x hx => by
     have h1 := h x (List.mem_cons_of_mem _ hx)
     rcases List.mem_append.1 h1 with h1 | h1
     · exact List.mem_append_left _ h1
     · rcases List.mem_cons.1 h1 with rfl | h1
       · exact absurd (List.mem_map.2 ⟨x,hx,rfl⟩) hn.1
       exact List.mem_append_right _ h1) hn.2 hm'.2 (fun x hx => by
     have hx' : x ∈ a ++ e :: b := by rcases List.mem_append.1 hx with h1 | h1
                                      · exact List.mem_append_left _ h1
                                      exact List.mem_append_right _ (List.mem_cons_of_mem _ h1)
     have h1 := ha x hx'
     rw [List.map_cons] at h1
     rcases List.mem_cons.1 h1 with h1 | h1
     · exact absurd (List.mem_map.2 ⟨x,hx,h1⟩) hm'.1
     exact h1)
   exact (h2.cons e).trans List.perm_middle.symm
end
end Go.Proofs.YtkehgingagggaaaGreat.K
end
