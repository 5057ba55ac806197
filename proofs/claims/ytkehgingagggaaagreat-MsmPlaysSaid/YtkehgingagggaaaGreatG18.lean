/- General laws of walks. -/
import Derived.Test.YtkehgingagggaaaGreatG6
import Derived.Test.YtkehgingagggaaaGreatG17
import Derived.Test.YtkehgingagggaaaGreatG9
section
namespace Go.Proofs.YtkehgingagggaaaGreat.K
set_option autoImplicit true
set_option relaxedAutoImplicit true
open Go.ChangeShapes Go.WideShapes Go.ChangeAt Go.RowKit Go.MapKept
set_option linter.unusedVariables false
set_option linter.unusedSimpArgs false
theorem lv{α:Type}{l:List α}{x:α}(h:l[j]? = some x):l.set j x=l:=by
 obtain⟨h1,h2⟩:=List.getElem?_eq_some_iff.1 h
 rw[← h2];exact List.set_getElem_self h1
section
variable {w w0:World} {X:Cx} {M:Mm} {P:Program} {n:Nat} {T:List (Nat×Value)} {a:Act} {tt:TypeId} {pos:String} {af:Array Edge} {gd:Option (Nat×Bool)}
structure KeyT (P:Program) (kt:TypeId) (K:Value→Prop):Prop where
 chk:∀ (w:World) (k:Value) (e:Bool),K k→(Instr.checkKey e 10000 kt k).run P w=.ok () w
 fnd:∀ (w:World) (k:Value) (es:List MapEntry),K k→(∀ e∈es,K e.key)→(es.map (·.key)).Nodup→(∀ j e,es[j]? = some e→e.key=k→(Instr.findKey kt k es).run P w=.ok (some (j,e.val)) w)∧((∀ e∈es,e.key≠k)→(Instr.findKey kt k es).run P w=.ok none w)
 stay:∀ (w:World) (k:Value),K k→(Instr.keyThatStays k k).run P w=.ok k w
theorem kQ{α:Type}{l:List α}{i j:Nat}{x:α}(h:l.Nodup)(h1:l[i]? = some x)(h2:l[j]? = some x):i=j:=
 (List.getElem?_inj (List.getElem?_eq_some_iff.1 h1).1 h).1 (h1.trans h2.symm)
theorem KeyT.int{q:IntKind}(hu:P.underlying kt=some (.int q)):KeyT P kt (fun k => ∃ x,k=.int q x) where
 chk w k e h:=by
   obtain⟨x,rfl⟩:=h
   exact run_checkKey hu (by simp [IsKey]) e 9999
 fnd w k es h hes hnd:=by
   obtain⟨x,rfl⟩:=h
   have hk:IsKey (.int q) (.int q x):=by simp [IsKey]
   have hl:∀ e∈es,IsKey (.int q) e.key:=fun e he=>by obtain⟨y,hy⟩:=hes e he;rw[hy];simp [IsKey]
   rcases findNow_spec hk es 0 hl with ⟨h1,h2⟩|⟨j,e,h1,h2,h3⟩
   · refine⟨fun j e he hek=>absurd hek (h2 e (List.mem_of_getElem? he)),fun _=>run_findKey hu h1⟩
   refine⟨fun j' e' he' hek =>?_,fun hno=>absurd h3 (hno e (List.mem_of_getElem? h2))⟩
   have a1:(es.map (·.key))[j]? = some (.int q x):=by rw[List.getElem?_map,h2];exact congrArg some h3
   have a2:(es.map (·.key))[j']? = some (.int q x):=by rw[List.getElem?_map,he'];exact congrArg some hek
   obtain rfl:=kQ hnd a1 a2
   rw[h2] at he';injection he' with he';subst he'
   have:=run_findKey (w:=w) hu h1
   rw[Nat.zero_add] at this
   exact this
 stay w k h:=by
   obtain⟨x,rfl⟩:=h
   have:=sameBits_self (d:=.int q) (k:=.int q x) (by simp [IsKey]) 10000
   simp [Instr.keyThatStays,this,Sem.run]
/-! ### Looking up -/
theorem uJ(h:Has n T a){K:Value→Prop}{es:Array MapEntry}(hx:evT T x=some (.map (some g)))(hy:evT T y=some k)(hu:P.underlying t=some (.map kt et))(hK:KeyT P kt K)(hkk:K k)(hb:w.heap[g]? = some (.map es ck))(hf:(Instr.findKey kt k es.toList).run P w=.ok (some (j,v)) w):Yl P a w ⟨d,.lookup t x y true,tt,pos,af,gd⟩ (.tuple #[v,.bool true]):=by
 show(execOp _ _).run P w=_
 simp [execOp,h.ev hx,h.ev hy,Instr.lookup,run_underlying hu,MapKept.run_getObj_map hb,hK.chk w k es.isEmpty hkk,hf,Result.andThen]
theorem sM(h:Has n T a){K:Value→Prop}{es:Array MapEntry}(hx:evT T x=some (.map (some g)))(hy:evT T y=some k)(hu:P.underlying t=some (.map kt et))(hK:KeyT P kt K)(hkk:K k)(hb:w.heap[g]? = some (.map es ck))(hf:(Instr.findKey kt k es.toList).run P w=.ok (some (j,v)) w):Yl P a w ⟨d,.lookup t x y false,tt,pos,af,gd⟩ v:=by
 show(execOp _ _).run P w=_
 simp [execOp,h.ev hx,h.ev hy,Instr.lookup,run_underlying hu,MapKept.run_getObj_map hb,hK.chk w k es.isEmpty hkk,hf,Result.andThen]
theorem uK(h:Has n T a){k z:Value}{K:Value→Prop}{es:Array MapEntry}(hx:evT T x=some (.map (some g)))(hy:evT T y=some k)(hu:P.underlying t=some (.map kt et))(hz:(P.info? et).bind (·.zero)=some z)(hK:KeyT P kt K)(hkk:K k)(hb:w.heap[g]? = some (.map es ck))(hf:(Instr.findKey kt k es.toList).run P w=.ok none w):Yl P a w ⟨d,.lookup t x y true,tt,pos,af,gd⟩ (.tuple #[z,.bool false]):=by
 show(execOp _ _).run P w=_
 cases hi:P.info? et with
 | none=>simp [hi] at hz
 | some it =>
   have hzz:it.zero=some z:=by simpa [hi] using hz
   simp [execOp,h.ev hx,h.ev hy,Instr.lookup,run_underlying hu,MapKept.run_getObj_map hb,hK.chk w k es.isEmpty hkk,hf,Result.andThen,zeroValue,typeInfo,hi,hzz]
theorem xe(h:Has n T a)(m:MemOk X w0 M w)(hm:lk M i=some (.mp g mm ks rows))(hx:evT T x=some (.map (some g)))(hu:P.underlying t=some (.map kt et)):Yl P a w ⟨d,.call { callee:=.builtin .len,args:=#[x],argTypes:=#[t] },tt,pos,af,gd⟩ (.int .i64 (ks.length:Nat)):=by
 obtain⟨⟨es,ck,h1,h2,_⟩,_⟩:=m.ok i _ hm
 show(execOp _ _).run P w=_
 have:=h.ev hx
 simp [execOp,resolve,invoke,builtin,this,Builtin.len_,run_underlying hu,MapKept.run_getObj_map h2,goInt,← h1]
/-! ### Making, writing -/
theorem Keep.setO(w:World)(g)(o:Obj):Keep (fun b=>b=g) w { w with heap:=w.heap.setIfInBounds g o }:=
 ⟨rfl,rfl,rfl,by show _≤(w.heap.setIfInBounds g o).size;rw[Array.size_setIfInBounds];exact Nat.le_refl _,fun k hk hn=>by show(w.heap.setIfInBounds g o)[k]? = _;rw[Array.getElem?_setIfInBounds];rw[if_neg (fun e=>hn e.symm)]⟩
theorem qO{Q:Exit→Act→World→Prop}{K:Act→World→Prop}(ha:Has n T a)(m:MemOk X w0 M w)(i mm)(ht:Nat.blt d n=true)(h:∀ g a' w',Has n ((d,.map (some g)) :: T) a'→MemOk X w0 ((i,.mp g mm [] []) :: M) w'→Below w.heap.size w w'→g=w.heap.size→K a' w'):Oper.wp P ⟨some d,.makeMap t none,tt,pos,af,gd⟩ a w K Q:=by
 have hr:(execOp a.eval ⟨some d,.makeMap t none,tt,pos,af,gd⟩).run P w=.ok (.value (.map (some w.heap.size))) (w.alloc (.map #[] 0)):=by
   simp [execOp,Instr.makeMap]
 show Oper.upon P _ a K Q _
 rw[hr]
 refine h _ _ _ (ha.put ht _) ?_ ((Below.refl _ w).alloc (Nat.le_refl _) _) rfl
 refine m.upd i _ (Keep.alloc _ _ _) (fun b hb=>.inr (by injection hb with hb;omega)) (fun _ _=>⟨⟨[],0,rfl,?_,⟨List.nodup_nil,List.nodup_nil,fun e he=>by cases he⟩,rfl,(fun r hr=>by cases hr),(fun j e r he=>by cases he)⟩,.inl m.keep.size⟩)
 show(w.heap.push _)[w.heap.size]? = _
 simp
def uL(ks:List Value)(k:Value):Option Nat→List Value
 | none=>ks++[k]
 | some _=>ks
def pY(rows:List (List D))(r:List D):Option Nat→List (List D)
 | none=>rows++[r]
 | some j=>rows.set j r
theorem jE{Q:Exit→Act→World→Prop}{K9:Act→World→Prop}(ha:Has n T a)(m:MemOk X w0 M w)(i){x y z:Operand}{vs:List Value}{r:List D}{K:Value→Prop}(hm:lk M i=some (.mp g mm ks rows))(hx:evT T x=some (.map (some g)))(hy:evT T y=some k)(hz:evT T z=some (.agg vs.toArray))(hu:P.underlying t=some (.map kt et))(hK:KeyT P kt K)(hks:∀ x∈ks,K x)(hkk:K k)(h1:vs.all (fun v=>v.oneCell')=true)(hl:vs.length=mm)(hR:RdL (jt X M) w vs r)(jo:Option Nat)(hj:match jo with|none => ∀ x∈ks,x≠k|some j=>ks[j]? = some k)(h:∀ w',MemOk X w0 ((i,.mp g mm (uL ks k jo) (pY rows r jo)) :: M) w'→Keep (fun b=>b=g) w w'→K9 a w'):Oper.wp P ⟨none,.mapUpdate t x y z,tt,pos,af,gd⟩ a w K9 Q:=by
 obtain⟨⟨es,ck,e1,e2,e3,e4,e5,e6⟩,eN⟩:=m.ok i _ hm
 subst e1
 have hfk:=hK.fnd w k es hkk (fun e he=>hks _ (List.mem_map.2 ⟨e,he,rfl⟩)) e3.nd
 have hgl:g<w.heap.size:=(Array.getElem?_eq_some_iff.1 e2).1
 have hrl:r.length=mm:=by rw[← hR.len,hl]
 have hset:∀ (o:Obj),(setObj g o).run P w=.ok () { w with heap:=w.heap.setIfInBounds g o }:=fun o=>MapKept.run_setObj_map o e2
 have hat:∀ (o:Obj),({ w with heap:=w.heap.setIfInBounds g o }:World).heap[g]? = some o:=fun o=>by
   show(w.heap.setIfInBounds g o)[g]? = some o
   rw[Array.getElem?_setIfInBounds_self_of_lt hgl]
 have hpast:∀ (es':List MapEntry) (ck':Nat) (rows':List (List D)),es'.map (·.key)=uL (es.map (·.key)) k jo→rows'=pY rows r jo→MapK es' ck'→es'.length=rows'.length→(∀ r∈rows',r.length=mm)→
     (∀ (j:Nat) (e:MapEntry) (r':List D),es'[j]? = some e→rows'[j]? = some r'→(es[j]? = some e∧rows[j]? = some r')∨(e.val=.agg vs.toArray∧r'=r))→
     (execOp a.eval ⟨none,.mapUpdate t x y z,tt,pos,af,gd⟩).run P w=.ok .skip { w with heap:=w.heap.setIfInBounds g (.map es'.toArray ck') }→Oper.wp P ⟨none,.mapUpdate t x y z,tt,pos,af,gd⟩ a w K9 Q:=by
   intro es' ck' rows' a1 a2 a3 a4 a5 a6 hrun
   show Oper.upon P _ a K9 Q _
   rw[hrun]
   have hkp:=Keep.setO w g (.map es'.toArray ck')
   refine h _ (m.upd i _ (hkp.mono (fun b e=>⟨_,hm,by rw[show b=g from e];rfl⟩)) (fun b hb=>.inl ⟨_,hm,hb⟩) (fun hF _ =>?_)) hkp
   have hmv:∀ {x:Value} {d:D},Rd (jt X M) w x d→Rd (jt X ((i,.mp g mm (uL (es.map (·.key)) k jo) (pY rows r jo)) :: M)) { w with heap:=w.heap.setIfInBounds g (.map es'.toArray ck') } x d:=fun hd=>hd.mono hkp.size (fun b hb hS=>⟨hkp.2.2.2.2 b hb (fun e=>hS.2 ⟨i,_,hm,by rw[e];rfl⟩),hF b hb hS⟩)
   refine⟨⟨es',ck',a1,hat _,a3,by rw[a4,a2],by rw[← a2];exact a5,fun j e r' he hr =>?_⟩,eN⟩
   rw[← a2] at hr
   rcases a6 j e r' he hr with ⟨b1,b2⟩|⟨b1,b2⟩
   · obtain⟨vs',c1,c2,c3,c4⟩:=e6 j e r' b1 b2
     exact⟨vs',c1,c2,c3,fun q x d d1 d2=>hmv (c4 q x d d1 d2)⟩
   subst b2
   exact⟨vs,b1,hl,List.all_eq_true.1 h1,fun q x d d1 d2=>hmv (hR.get q x d d1 d2)⟩
 cases jo with
 | none =>
   have hno:∀ e∈es,e.key≠k:=fun e he=>hj _ (List.mem_map.2 ⟨e,he,rfl⟩)
   refine hpast (es++[{ key:=k,val:=.agg vs.toArray,born:=ck }]) (ck+1) _ (by rw[List.map_append];rfl) rfl ⟨?_,?_,?_⟩ (by simp [pY,e4]) ?_ ?_ ?_
   · rw[List.map_append]
     refine List.nodup_append.2 ⟨e3.nd,by simp,fun a ha b hb =>?_⟩
     obtain⟨e,he,rfl⟩:=List.mem_map.1 ha
     simp at hb;subst hb
     exact hno e he
   · rw[List.map_append]
     refine List.nodup_append.2 ⟨e3.bn,by simp,fun a ha b hb =>?_⟩
     obtain⟨e,he,rfl⟩:=List.mem_map.1 ha
     simp at hb;subst hb
     have:=e3.lt e he;omega
   · intro e he
     rcases List.mem_append.1 he with he|he
     · have:=e3.lt e he;omega
     simp at he;subst he;exact Nat.lt_succ_self _
   · intro r' hr'
     rcases List.mem_append.1 hr' with hr'|hr'
     · exact e5 r' hr'
     simp at hr';subst hr';exact hrl
   · intro j e r' he hr'
     by_cases hjl:j<es.length
     · rw[List.getElem?_append_left hjl] at he
       rw[show pY rows r none=rows++[r] from rfl,List.getElem?_append_left (by omega)] at hr'
       exact .inl ⟨he,hr'⟩
     rw[List.getElem?_append_right (by omega)] at he
     rw[show pY rows r none=rows++[r] from rfl,List.getElem?_append_right (by omega)] at hr'
     have hj0:j - es.length=0:=by
       rcases Nat.eq_zero_or_pos (j - es.length) with h0|h0
       · exact h0
       rw[List.getElem?_eq_none (by simp;omega)] at he;cases he
     rw[hj0] at he
     rw[show j - rows.length=0 by omega] at hr'
     injection he with he;injection hr' with hr'
     exact .inr ⟨by rw[← he],hr'.symm⟩
   simp [execOp,ha.ev hx,ha.ev hy,ha.ev hz,Instr.mapUpdate,run_underlying hu,MapKept.run_getObj_map e2,hK.chk w k false hkk,hfk.2 hno,hset,Result.andThen]
 | some j =>
   have hjk:(es.map (·.key))[j]? = some k:=hj
   rw[List.getElem?_map] at hjk
   cases hej:es[j]? with
   | none=>rw[hej] at hjk;cases hjk
   | some e0 =>
     rw[hej] at hjk;injection hjk with hjk
     have hjl:=(List.getElem?_eq_some_iff.1 hej).1
     have hset':es.modify j (fun e => { e with key:=k,val:=.agg vs.toArray })=es.set j { e0 with key:=k,val:=.agg vs.toArray }:=by
       apply List.ext_getElem?
       intro q
       rw[List.getElem?_modify,List.getElem?_set]
       by_cases hq:j=q
       · subst hq;simp [hej,hjl];rw[(List.getElem?_eq_some_iff.1 hej).2]
       simp [hq]
     refine hpast (es.set j { e0 with key:=k,val:=.agg vs.toArray }) ck _ ?_ rfl ⟨?_,?_,?_⟩ (by simp [pY,e4]) ?_ ?_ ?_
     · rw[List.map_set]
       show _=es.map (·.key)
       exact lv (by rw[List.getElem?_map,hej];exact congrArg some hjk)
     · rw[List.map_set,lv (by rw[List.getElem?_map,hej];exact congrArg some hjk)];exact e3.nd
     · rw[List.map_set,lv (by rw[List.getElem?_map,hej];rfl)];exact e3.bn
     · intro e he
       rcases List.mem_or_eq_of_mem_set he with he|he
       · exact e3.lt e he
       rw[he];exact e3.lt e0 (List.mem_of_getElem? hej)
     · intro r' hr'
       rcases List.mem_or_eq_of_mem_set hr' with hr'|hr'
       · exact e5 r' hr'
       rw[hr'];exact hrl
     · intro q e r' he hr'
       by_cases hq:j=q
       · subst hq
         rw[List.getElem?_set_self hjl] at he
         rw[show pY rows r (some j)=rows.set j r from rfl,List.getElem?_set_self (by omega)] at hr'
         injection he with he;injection hr' with hr'
         exact .inr ⟨by rw[← he],hr'.symm⟩
       rw[List.getElem?_set_ne hq] at he
       rw[show pY rows r (some j)=rows.set j r from rfl,List.getElem?_set_ne hq] at hr'
       exact .inl ⟨he,hr'⟩
     have hst:=hK.stay w k hkk
     have hkk0:e0.key=k:=hjk
     simp [execOp,ha.ev hx,ha.ev hy,ha.ev hz,Instr.mapUpdate,run_underlying hu,MapKept.run_getObj_map e2,hK.chk w k false hkk,hfk.1 j e0 hej hjk,hset,Result.andThen,hej,hkk0,hst,hset']
/-! ### Ranging -/
theorem MemOk.mpOpen(m:MemOk X w0 M w){rows:List (List D)}(hm:lk M i=some (.mp g mm ks rows)):∃ es ck,es.map (·.key)=ks∧es.length=rows.length∧MapK es ck∧MemOk X w0 ((i,.mpE g mm es ck rows) :: M) w:=by
 obtain⟨⟨es,ck,e1,e2⟩,eN⟩:=m.ok i _ hm
 exact⟨es,ck,e1,e2.2.2.1,e2.2.1,m.upd i _ (Keep.refl _ _) (fun b hb=>.inl ⟨_,hm,hb⟩) (fun hF _=>⟨e2.mono (Nat.le_refl _) (fun b hb hS=>⟨rfl,hF b hb hS⟩) rfl,eN⟩)⟩
theorem MemOk.mpClose(m:MemOk X w0 M w){es:List MapEntry}(hm:lk M i=some (.mpE g mm es ck rows)):MemOk X w0 ((i,.mp g mm (es.map (·.key)) rows) :: M) w:=by
 obtain⟨e2,eN⟩:=m.ok i _ hm
 exact m.upd i _ (Keep.refl _ _) (fun b hb=>.inl ⟨_,hm,hb⟩) (fun hF _=>⟨⟨es,ck,rfl,e2.mono (Nat.le_refl _) (fun b hb hS=>⟨rfl,hF b hb hS⟩) rfl⟩,eN⟩)
theorem uM{Q:Exit→Act→World→Prop}{K:Act→World→Prop}(ha:Has n T a)(m:MemOk X w0 M w)(i2){es:List MapEntry}(hm:lk M i=some (.mpE g mm es ck rows))(hx:evT T x=some (.map (some g)))(hu:P.underlying t=some (.map kt et))(ht:Nat.blt d n=true)(h:∀ r a' w',Has n ((d,.pointer (some ⟨r,0,none⟩)) :: T) a'→MemOk X w0 ((i2,.obj r (.mapIter (some g) ck #[] ck)) :: M) w'→K a' w'):Oper.wp P ⟨some d,.range t x,tt,pos,af,gd⟩ a w K Q:=by
 obtain⟨e2,eN⟩:=m.ok i _ hm
 have hr:(execOp a.eval ⟨some d,.range t x,tt,pos,af,gd⟩).run P w=.ok (.value (.pointer (some ⟨w.heap.size,0,none⟩))) (w.alloc (.mapIter (some g) ck #[] ck)):=by
   have:=run_range_map (P:=P) w t kt et g es.toArray ck hu e2.1
   simp [execOp,ha.ev hx,this]
 show Oper.upon P _ a K Q _
 rw[hr]
 refine h _ _ _ (ha.put ht _) (m.upd i2 _ (Keep.alloc _ _ _) (fun b hb=>.inr (by injection hb with hb;omega)) (fun _ _=>⟨?_,.inl m.keep.size⟩))
 show(w.heap.push _)[w.heap.size]? = _
 simp
theorem xf{Q:Exit→Act→World→Prop}{K:Act→World→Prop}(ha:Has n T a)(m:MemOk X w0 M w){i i2 g mm r:Nat}{es:List MapEntry}{seen:Array Nat}(hm:lk M i=some (.mpE g mm es ck rows))(hr:lk M i2=some (.obj r (.mapIter (some g) ck seen ck)))(hx:evT T x=some (.pointer (some ⟨r,0,none⟩)))(ht:Nat.blt d n=true)(h0:(∀ e∈es,e.born∈seen)→∀ a',Has n ((d,.tuple #[.bool false]) :: T) a'→K a' w)(h1:∀ e∈es,e.born∉seen→∀ a' w',Has n ((d,.tuple #[.bool true,e.key,e.val]) :: T) a'→MemOk X w0 ((i2,.obj r (.mapIter (some g) ck (seen.push e.born) ck)) :: M) w'→K a' w'):Oper.wp P ⟨some d,.next x false,tt,pos,af,gd⟩ a w K Q:=by
 obtain⟨e2,eN⟩:=m.ok i _ hm
 obtain⟨f2,fN⟩:=m.ok i2 _ hr
 have hk:=e2.2.1
 show Oper.upon P _ a K Q _
 rcases run_next_at (P:=P) w tt r g ck ck seen es.toArray ck f2 e2.1 (fun e he=>hk.lt e he) (Nat.le_refl _) with ⟨a1,a2⟩|⟨e,a1,w1,a2,a3⟩
 · have hrun:(execOp a.eval ⟨some d,.next x false,tt,pos,af,gd⟩).run P w=.ok (.value (.tuple #[.bool false])) w:=by
     simp [execOp,ha.ev hx,a2]
   rw[hrun]
   refine h0 (fun e he =>?_) _ (ha.put ht _)
   have hn:leftOf es.toArray seen=#[]:=Array.eq_empty_of_size_eq_zero a1
   unfold leftOf at hn
   rw[Array.filter_eq_empty_iff] at hn
   have:=hn e (by simpa using he)
   simpa using this
 have hrun:(execOp a.eval ⟨some d,.next x false,tt,pos,af,gd⟩).run P w=.ok (.value (.tuple #[.bool true,e.key,e.val])) (ChangeMaps.setBlock w1 r (.mapIter (some g) ck (seen.push e.born) ck)):=by
   simp [execOp,ha.ev hx,a3]
 rw[hrun]
 unfold leftOf at a1
 have ha1:e∈es∧e.born∉seen:=by simpa using a1
 have hww:MemOk X w0 M w1:=by
   rcases a2 with rfl|rfl
   · exact m
   exact m.drew
 have f3:=hww.ok i2 _ hr
 have hgl:r<w1.heap.size:=(Array.getElem?_eq_some_iff.1 f3.1).1
 refine h1 e ha1.1 ha1.2 _ _ (ha.put ht _) ?_
 have hkp:=Keep.setO w1 r (.mapIter (some g) ck (seen.push e.born) ck)
 refine hww.upd i2 _ (hkp.mono (fun b e=>⟨_,hr,by rw[show b=r from e];rfl⟩)) (fun b hb=>.inl ⟨_,hr,hb⟩) (fun _ _=>⟨?_,fN⟩)
 show(w1.heap.setIfInBounds r _)[r]? = _
 rw[Array.getElem?_setIfInBounds_self_of_lt hgl]
theorem uN(h:Has n T a)(m:MemOk X w0 M w){i i2 g mm r:Nat}{es:List MapEntry}{seen:Array Nat}{e:MapEntry}(hm:lk M i=some (.mpE g mm es ck rows))(hr:lk M i2=some (.obj r (.mapIter (some g) ck (seen.push e.born) ck)))(hx:evT T x=some (.pointer (some ⟨r,0,none⟩)))(he:e∈es):Yl P a w ⟨d,.entry x,tt,pos,af,gd⟩ (.tuple #[e.key,e.val]):=by
 obtain⟨e2,eN⟩:=m.ok i _ hm
 obtain⟨f2,fN⟩:=m.ok i2 _ hr
 show(execOp _ _).run P w=_
 have:=run_entry_at (P:=P) w r g ck seen es.toArray ck e f2 e2.1 (by simpa using he) (by simpa using e2.2.1.bn)
 simp [execOp,h.ev hx,this]
/-! ### Looking up what is open -/
theorem MemOk.mpeAt(m:MemOk X w0 M w){i g mm:Nat}{es:List MapEntry}{ck:Nat}{rows:List (List D)}(hm:lk M i=some (.mpE g mm es ck rows)){j:Nat}{r:List D}(hr:rows[j]? = some r):∃ (e:MapEntry) (vs:List Value),es[j]? = some e∧e.val=.agg vs.toArray∧RdL (jt X M) w vs r∧vs.all (fun v=>v.oneCell')=true∧vs.length=mm:=by
 obtain⟨⟨h2,h3,h4,h5,h6⟩,_⟩:=m.ok i _ hm
 have hj:j<es.length:=by rw[h4];exact(List.getElem?_eq_some_iff.1 hr).1
 have he:es[j]? = some es[j]:=List.getElem?_eq_getElem hj
 obtain⟨vs,a1,a2,a3,a4⟩:=h6 j _ r he hr
 exact⟨_,vs,he,a1,RdL.of (by rw[a2,h5 r (List.mem_of_getElem? hr)]) a4,List.all_eq_true.2 a3,a2⟩
theorem qP{es:List MapEntry}{ks:List Value}(h:es.map (·.key)=ks){j:Nat}{e:MapEntry}{k:Value}(he:es[j]? = some e)(hk:ks[j]? = some k):e.key=k:=by
 rw[← h,List.getElem?_map,he] at hk;injection hk
theorem jL{es:List MapEntry}(h:es.map (·.key)=ks){Q:Value→Prop}(hq:∀ k∈ks,Q k):∀ e∈es,Q e.key:=fun e he=>hq _ (h ▸ List.mem_map.2 ⟨e,he,rfl⟩)
theorem n8(h:Has n T a)(m:MemOk X w0 M w){d:Option Tmp}{t kt et:TypeId}{x y:Operand}{i g mm:Nat}{es:List MapEntry}{ck:Nat}{rows:List (List D)}{k:Value}{K:Value→Prop}{j:Nat}{e:MapEntry}{vs:List Value}(hm:lk M i=some (.mpE g mm es ck rows))(hx:evT T x=some (.map (some g)))(hy:evT T y=some k)(hu:P.underlying t=some (.map kt et))(hK:KeyT P kt K)(hks:∀ e∈es,K e.key)(he:es[j]? = some e)(hek:e.key=k)(hev:e.val=.agg vs.toArray):Yl P a w ⟨d,.lookup t x y true,tt,pos,af,gd⟩ (.tuple #[.agg vs.toArray,.bool true]):=by
 obtain⟨⟨h2,h3,_⟩,_⟩:=m.ok i _ hm
 have hkk:K k:=hek ▸ hks e (List.mem_of_getElem? he)
 refine uJ h hx hy hu hK hkk h2 (j:=j) ?_
 rw[← hev]
 exact(hK.fnd w k es hkk hks h3.nd).1 j e he hek
theorem oZ(h:Has n T a)(m:MemOk X w0 M w){d:Option Tmp}{t kt et:TypeId}{x y:Operand}{i g mm:Nat}{es:List MapEntry}{ck:Nat}{rows:List (List D)}{k:Value}{K:Value→Prop}{j:Nat}{e:MapEntry}{vs:List Value}(hm:lk M i=some (.mpE g mm es ck rows))(hx:evT T x=some (.map (some g)))(hy:evT T y=some k)(hu:P.underlying t=some (.map kt et))(hK:KeyT P kt K)(hks:∀ e∈es,K e.key)(he:es[j]? = some e)(hek:e.key=k)(hev:e.val=.agg vs.toArray):Yl P a w ⟨d,.lookup t x y false,tt,pos,af,gd⟩ (.agg vs.toArray):=by
 obtain⟨⟨h2,h3,_⟩,_⟩:=m.ok i _ hm
 have hkk:K k:=hek ▸ hks e (List.mem_of_getElem? he)
 refine sM h hx hy hu hK hkk h2 (j:=j) ?_
 rw[← hev]
 exact(hK.fnd w k es hkk hks h3.nd).1 j e he hek
theorem mW(h:Has n T a)(m:MemOk X w0 M w){es:List MapEntry}{K:Value→Prop}(z:Value)(hm:lk M i=some (.mpE g mm es ck rows))(hx:evT T x=some (.map (some g)))(hy:evT T y=some k)(hu:P.underlying t=some (.map kt et))(hz:(P.info? et).bind (·.zero)=some z)(hK:KeyT P kt K)(hks:∀ e∈es,K e.key)(hkk:K k)(hno:∀ e∈es,e.key≠k):Yl P a w ⟨d,.lookup t x y true,tt,pos,af,gd⟩ (.tuple #[z,.bool false]):=by
 obtain⟨⟨h2,h3,_⟩,_⟩:=m.ok i _ hm
 exact uK h hx hy hu hz hK hkk h2 ((hK.fnd w k es hkk hks h3.nd).2 hno)
theorem uO{Q:Exit→Act→World→Prop}{K:Act→World→Prop}(ha:Has n T a)(m:MemOk X w0 M w){i i2 g mm r:Nat}{es:List MapEntry}{seen:Array Nat}(hm:lk M i=some (.mpE g mm es ck rows))(hr:lk M i2=some (.obj r (.mapIter (some g) ck seen ck)))(hx:evT T x=some (.pointer (some ⟨r,0,none⟩)))(ht:Nat.blt d n=true)(h:∀ (b:Bool) (tl:List Value) (o:Obj) a' w',Has n ((d,.tuple (.bool b :: tl).toArray) :: T) a'→MemOk X w0 ((i2,.obj r o) :: M) w'→((b=false∧∀ e∈es,e.born∈seen)∨(b=true∧∃ e∈es,e.born∉seen∧o=.mapIter (some g) ck (seen.push e.born) ck))→K a' w'):Oper.wp P ⟨some d,.next x false,tt,pos,af,gd⟩ a w K Q:=by
 refine xf ha m hm hr hx ht (fun h0 a' ha' =>?_) (fun e he hn a' w' ha' m' =>?_)
 · refine h false [] (.mapIter (some g) ck seen ck) a' w ha' (m.sub (fun j s hj =>?_)) (.inl ⟨rfl,h0⟩)
   rw[iD] at hj
   split at hj
   · rename_i e;subst e;injection hj with hj;subst hj;exact hr
   exact hj
 exact h true [e.key,e.val] _ a' w' ha' m' (.inr ⟨rfl,e,he,hn,rfl⟩)
theorem sN(h:Has n T a)(m:MemOk X w0 M w){i i2 g mm r:Nat}{es:List MapEntry}{seen:Array Nat}{e:MapEntry}(hm:lk M i=some (.mpE g mm es ck rows))(hr:lk M i2=some (.obj r (.mapIter (some g) ck (seen.push e.born) ck)))(hx:evT T x=some (.pointer (some ⟨r,0,none⟩)))(he:e∈es)(hk:e.key=k):Yl P a w ⟨d,.entry x,tt,pos,af,gd⟩ (.tuple #[k,e.val]):=by
 rw[← hk];exact uN h m hm hr hx he
theorem n9:∀ {dn es:List MapEntry},(∀ e∈dn,e∈es)→(dn.map (·.born)).Nodup→dn.length≤es.length
 | [],es,_,_=>Nat.zero_le _
 | e :: t,es,h,hn=>by
   obtain⟨a,b,rfl⟩:=List.append_of_mem (h e List.mem_cons_self)
   rw[List.map_cons,List.nodup_cons] at hn
   have:=n9 (dn:=t) (es:=a++b) (fun x hx=>by
     have h1:=h x (List.mem_cons_of_mem _ hx)
     rcases List.mem_append.1 h1 with h1|h1
     · exact List.mem_append_left _ h1
     rcases List.mem_cons.1 h1 with rfl|h1
     · exact absurd (List.mem_map.2 ⟨x,hx,rfl⟩) hn.1
     exact List.mem_append_right _ h1) hn.2
   simp only [List.length_cons,List.length_append] at *
   omega
theorem nE:∀ {dn es:List MapEntry},(∀ e∈dn,e∈es)→(dn.map (·.born)).Nodup→(es.map (·.born)).Nodup→(∀ e∈es,e.born∈dn.map (·.born))→dn.Perm es
 | [],es,_,_,_,h=>by
   cases es with
   | nil=>exact List.Perm.refl _
   | cons e t=>have:=h e List.mem_cons_self;cases this
 | e :: t,es,h,hn,hm,ha=>by
   obtain⟨a,b,rfl⟩:=List.append_of_mem (h e List.mem_cons_self)
   rw[List.map_cons,List.nodup_cons] at hn
   have hm':((e :: (a++b)).map (·.born)).Nodup:=(List.Perm.nodup_iff ((List.perm_middle (a:=e) (l₁:=a) (l₂:=b)).map _)).1 hm
   rw[List.map_cons,List.nodup_cons] at hm'
   have h2:=nE (dn:=t) (es:=a++b) (fun x hx=>by
     have h1:=h x (List.mem_cons_of_mem _ hx)
     rcases List.mem_append.1 h1 with h1|h1
     · exact List.mem_append_left _ h1
     · rcases List.mem_cons.1 h1 with rfl|h1
       · exact absurd (List.mem_map.2 ⟨x,hx,rfl⟩) hn.1
       exact List.mem_append_right _ h1) hn.2 hm'.2 (fun x hx=>by
     have hx':x∈a++e :: b:=by rcases List.mem_append.1 hx with h1|h1
                              · exact List.mem_append_left _ h1
                              exact List.mem_append_right _ (List.mem_cons_of_mem _ h1)
     have h1:=ha x hx'
     rw[List.map_cons] at h1
     rcases List.mem_cons.1 h1 with h1|h1
     · exact absurd (List.mem_map.2 ⟨x,hx,h1⟩) hm'.1
     exact h1)
   exact(h2.cons e).trans List.perm_middle.symm
end
end Go.Proofs.YtkehgingagggaaaGreat.K
end
namespace Go.Proofs.YtkehgingagggaaaGreat.K
open Go.ChangeShapes Go.WideShapes Go.ChangeAt Go.RowKit
set_option linter.unusedVariables false
set_option linter.unusedSimpArgs false
set_option maxRecDepth 100000
set_option maxHeartbeats 4000000
set_option autoImplicit true
set_option relaxedAutoImplicit true
section
theorem vQ:iO Tryz.prog 87 [.map none]=true:=by kernel_rfl
theorem vR:iO Tryz.prog 44 [.int .i64 0,.int .i64 0,.int .i64 0,.int .i64 0,.slice none 0 0]=true:=by kernel_rfl
def iU(x:VolV):Value:=.int .i64 x.vo
theorem ow{L:List VolV}:∀ k∈L.map iU,∃ z,k=.int .i64 z:=fun k hk=>by
 obtain⟨x,_,rfl⟩:=List.mem_map.1 hk;exact⟨_,rfl⟩
theorem j7{L:List VolV}{j:Nat}{x:VolV}(h:L[j]? = some x):(L.map iU)[j]? = some (iU x):=by rw[List.getElem?_map,h];rfl
theorem ld{x:VolV}{id:Int}(h:x.vo=id):iU x=.int .i64 id:=by rw[iU,h]
theorem rt{L:List VolV}{j:Nat}{x:VolV}{id:Int}(h:L[j]? = some x)(hv:x.vo=id):(L.map iU)[j]? = some (.int .i64 id):=(j7 h).trans (congrArg some (ld hv))
theorem kJ{L:List VolV}{id:Int}(h:∀ x∈L,x.vo≠id):∀ k∈L.map iU,k≠.int .i64 id:=fun k hk e=>by
 obtain⟨x,hx,rfl⟩:=List.mem_map.1 hk
 injection e with _ e;exact h x hx e
theorem tn{L:List VolV}{vo bl sz pe to:Int}:uL (L.map iU) (.int .i64 vo) none=(L++[i5 vo bl sz pe to place]).map iU:=by rw[List.map_append];rfl
theorem tp{L:List VolV}{vo bl sz pe to:Int}:pY (L.map ij) [.v (.int .i64 vo),.v (.int .i64 bl),.v (.int .i64 sz),.v (.int .i64 pe),.ns .i64 place,.v (.int .i64 to),.v (.int .i64 0),.v (.bool (decide (0<to))),.v (.int .i64 0),.ns .i64 [],.l 2 []] none=(L++[i5 vo bl sz pe to place]).map ij:=by rw[List.map_append];rfl
theorem vS{L:List VolV}{x y:VolV}(h:L[j]? = some x)(hv:y.vo=x.vo):(L.set j y).map iU=L.map iU:=by
 rw[List.map_set,show iU y=iU x from congrArg (Value.int .i64) hv]
 exact lv (j7 h)
theorem pA{L:List VolV}{x y:VolV}(h:L[j]? = some x)(hv:y.vo=x.vo):uL (L.map iU) k (some j)=(L.set j y).map iU:=(vS h hv).symm
theorem o9{x y:VolV}{c:Cm}{e:Int}(h:doV x c=(y,e)):y.vo=x.vo:=by
 unfold doV at h
 split at h
 · injection h with h _;rw[← h]
 split at h
 · injection h with h _;rw[← h]
 injection h with h _;rw[← h]
theorem CmdR.itok{x:Cm}(h:CmdR x):j3 x.its:=fun e he=>by have:=(h.ib e he).2;omega
theorem xU{w w' w0:World}(m:MemOk X w0 M w)(i j k)(hi:lk M i=none)(hj:lk ((i,.dat u d) :: M) j=none)(hk:lk ((j,.dat v e) :: (i,.dat u d) :: M) k=none)(hb:Below w.heap.size w w')(h1:Rd (Out (jt X M) w) w' u d)(h2:Rd (Out (jt X M) w) w' v e)(h3:Rd (Out (jt X M) w) w' t f):MemOk X w0 ((k,.dat t f) :: (j,.dat v e) :: (i,.dat u d) :: M) w':=by
 have m1:=m.callD i hi hb h1
 have m2:=m1.dat j hj (h2.cast (fun b hb=>ia rfl (m.free_out hb)))
 exact m2.dat k hk (h3.cast (fun b hb=>ia rfl (ia rfl (m.free_out hb))))
theorem xV(xs:List Int)(p1 p2 c1 c2)(w0:World)(h1:Rd (fun _=>True) w0 (.slice p1 xs.length c1) (.ns .u8 xs))(h2:Rd (fun _=>True) w0 (.slice p2 xs.length c2) (.ns .u8 xs))(hb1:BytesL xs) :
   Calls Tryz.prog 64 #[.slice p1 xs.length c1,.slice p2 xs.length c2] w0 fun e w'=>e=.returned (.bool true)∧Below w0.heap.size w0 w':=
 (yG xs xs p1 p2 c1 c2 w0 h1 h2 hb1 hb1).mono fun e w' h=>⟨by rw[h.1];exact congrArg (fun b=>Ending.returned (.bool b)) (decide_eq_true rfl),h.2⟩
theorem xB{xs ys:List Int}(h:xs=ys)(p1 p2 c1 c2)(w0:World)(h1:Rd (fun _=>True) w0 (.slice p1 xs.length c1) (.ns .u8 xs))(h2:Rd (fun _=>True) w0 (.slice p2 ys.length c2) (.ns .u8 ys))(hb1:BytesL xs) :
   Calls Tryz.prog 64 #[.slice p1 xs.length c1,.slice p2 ys.length c2] w0 fun e w'=>e=.returned (.bool true)∧Below w0.heap.size w0 w':=by
 subst h;exact xV xs p1 p2 c1 c2 w0 h1 h2 hb1
def yN(x:Cm):Nat→List Int
 | 0=>enc x.kd++(enc x.vo++(enc x.bl++(enc x.sz++(enc x.pe++(enc x.to++(enc x.at0++(enc x.ix++(enc (x.pl.length:Int)++(im x.pl++(enc (x.its.length:Int)++ir x.its))))))))))
 | 1=>enc x.vo++(enc x.bl++(enc x.sz++(enc x.pe++(enc x.to++(enc x.at0++(enc x.ix++(enc (x.pl.length:Int)++(im x.pl++(enc (x.its.length:Int)++ir x.its)))))))))
 | 2=>enc x.bl++(enc x.sz++(enc x.pe++(enc x.to++(enc x.at0++(enc x.ix++(enc (x.pl.length:Int)++(im x.pl++(enc (x.its.length:Int)++ir x.its))))))))
 | 3=>enc x.sz++(enc x.pe++(enc x.to++(enc x.at0++(enc x.ix++(enc (x.pl.length:Int)++(im x.pl++(enc (x.its.length:Int)++ir x.its)))))))
 | 4=>enc x.pe++(enc x.to++(enc x.at0++(enc x.ix++(enc (x.pl.length:Int)++(im x.pl++(enc (x.its.length:Int)++ir x.its))))))
 | 5=>enc x.to++(enc x.at0++(enc x.ix++(enc (x.pl.length:Int)++(im x.pl++(enc (x.its.length:Int)++ir x.its)))))
 | 6=>enc x.at0++(enc x.ix++(enc (x.pl.length:Int)++(im x.pl++(enc (x.its.length:Int)++ir x.its))))
 | 7=>enc x.ix++(enc (x.pl.length:Int)++(im x.pl++(enc (x.its.length:Int)++ir x.its)))
 | 8=>enc (x.pl.length:Int)++(im x.pl++(enc (x.its.length:Int)++ir x.its))
 | _=>enc (x.its.length:Int)++ir x.its
theorem vr(x):cmE x=yN x 0:=by simp [cmE,mh,im,yN]
theorem xQ{x:Cm}(hR:CmdR x)(hb:∀ e∈x.its,BytesL e.2):BytesL (cmE x):=(hR.ok hb).bytes
theorem pB{L:List VolV}{x y:VolV}(h:L[j]? = some x)(hv:y.vo=x.vo):pY (L.map ij) [.v (.int .i64 y.vo),.v (.int .i64 y.bl),.v (.int .i64 y.sz),.v (.int .i64 y.pe),.ns .i64 y.place,.v (.int .i64 y.to),.v (.int .i64 y.ne),.v (.bool y.hi),.v (.int .i64 y.fl),.ns .i64 y.pins,.l 2 (y.ws.map wrD)] (some j)=(L.set j y).map ij:=by rw[List.map_set];rfl
theorem yq:(Tryz.prog.info? 51).bind (·.zero)=some (.agg #[.int .i64 0,.int .i64 0,.int .i64 0,.int .i64 0,.slice none 0 0,.int .i64 0,.int .i64 0,.bool false,.int .i64 0,.slice none 0 0,.slice none 0 0]):=by kernel_rfl
theorem ms(X w0)(m9:MemOk X w0 [] w0) :
   Calls Tryz.prog 9 #[] w0 fun e w' => ∃ B G,e=.returned (.pointer (some ⟨B,0,none⟩))∧MemOk X w0 [(1,.box B 87 [.map (some G)]),(2,.mp G 11 ((([]:List VolV)).map iU) ((([]:List VolV)).map ij))] w':=by
 refine y8 Tryz.func9 rfl Tryz.ntmps9 fun Y U =>?_
 have m0:=m9
 refine hC U (.assign rfl .nil) fun Y U=>zsr fun K0 hK0=>plz<|qO U m0 20 11 rfl fun g2 Y w3 U m3 _ _=>g9 U (.build rfl yC vQ rfl (by dsimp only [iY,List.set] <;> rfl) .nil) fun Y U=>plz<|iu U m3 21 (cs:=[_]) rfl rfl rfl fun g5 Y w6 U m6 _ _=>gz hK0 U (.assign rfl .nil) fun Y U=>rt1 U ?_
 exact⟨_,_,rfl,m6.ren [(1,21),(2,20)] (by decide)⟩
theorem rD(X:Cx)(B G:Nat)(L:List VolV)(x:Cm)(hR:CmdR x)(pp pi:Option Addr)(cp ni ci:Nat)(w0:World)(j:Nat)(y:VolV)(hj:L[j]? = some y)(hy:y.vo=x.vo)(m0:MemOk X w0 [(1,.box B 87 [.map (some G)]),(2,.mp G 11 ((L).map iU) ((L).map ij)),(3,.dat (.slice pp x.pl.length cp) (.ns .i64 x.pl)),(4,.dat (.slice pi ni ci) (.l 2 (x.its.map itD)))] w0) :
   Calls Tryz.prog 47 #[.pointer (some ⟨B,0,none⟩),.agg #[.int .i64 x.kd,.int .i64 x.vo,.int .i64 x.bl,.int .i64 x.sz,.int .i64 x.pe,.slice pp x.pl.length cp,.int .i64 x.to,.int .i64 x.at0,.int .i64 x.ix,.slice pi ni ci]] w0 fun e w'=>e=.returned (.int .i64 29)∧MemOk X w0 [(1,.box B 87 [.map (some G)]),(2,.mp G 11 ((L).map iU) ((L).map ij))] w':=by
 refine iZ Tryz.func47 rfl Tryz.ntmps47 fun Y U=>zsr fun K0 hK0=>plz<|iu U m0 20 (cs:=[_,_,_,_,_,_,_,_,_,_]) rfl rfl rfl fun g1 Y w2 U m2 _ _=>gz hK0 U (.assign rfl .nil) fun Y U=>wsk fun K1 hK1=>wsk fun K2 hK2 =>?_
 obtain⟨es4,ck4,hks4,hel4,hmk4,m4⟩:=m2.mpOpen (i:=2) rfl
 clear m2 hel4 hmk4
 have hki4:=jL hks4 ow
 obtain⟨e4,vs4,he4,hev4,hR4,ho4,hvl4⟩:=m4.mpeAt (i:=2) rfl (r:=[.v (.int .i64 y.vo),.v (.int .i64 y.bl),.v (.int .i64 y.sz),.v (.int .i64 y.pe),.ns .i64 y.place,.v (.int .i64 y.to),.v (.int .i64 y.ne),.v (.bool y.hi),.v (.int .i64 y.fl),.ns .i64 y.pins,.l 2 (y.ws.map wrD)]) (iT hj)
 have hek4:=qP hks4 he4 (j7 hj)
 clear ho4 hvl4
 revert U
 rcases hR4 with _|⟨ad,_|⟨ae,_|⟨ag,_|⟨ah,_|⟨ab,_|⟨ai,_|⟨aj,_|⟨ak,_|⟨al,_|⟨ac,_|⟨aa,_|_⟩⟩⟩⟩⟩⟩⟩⟩⟩⟩⟩
 obtain rfl:=ad.v_out
 clear ad
 obtain rfl:=ae.v_out
 clear ae
 obtain rfl:=ag.v_out
 clear ag
 obtain rfl:=ah.v_out
 clear ah
 obtain⟨p5,c5,hv5,hc5⟩:=ab.ns_shape;subst hv5
 intro U
 have m5:=m4.dat 21 rfl (ab.cast (fun _ h=>h));clear m4 ab
 revert U
 obtain rfl:=ai.v_out
 clear ai
 obtain rfl:=aj.v_out
 clear aj
 obtain rfl:=ak.v_out
 clear ak
 obtain rfl:=al.v_out
 clear al
 obtain⟨p6,c6,hv6,hc6⟩:=ac.ns_shape;subst hv6
 intro U
 have m6:=m5.dat 22 rfl (ac.cast (fun _ h=>(ia rfl h)));clear m5 ac
 revert U
 obtain⟨p7,c7,hv7,hc7⟩:=aa.l_shape;subst hv7
 intro U
 have m7:=m6.dat 23 rfl (aa.cast (fun _ h=>(ia rfl (ia rfl h))));clear m6 aa
 have m8:=m7.oz [1,2,3,4,20,21,22,23]
 refine region_p 11 (B:=[(1,_),(2,_),(3,_),(4,_),(20,_),(21,_),(22,_),(23,_)]) (m8.to i8l) m8 (by kernel_rfl) (fun w9 hP9 m9 =>?_);clear m8
 refine goR hP9 [0,1,2,3,4,5,6,7,8,9] [3,5,6] 10 0 1023 U (m9.to i8l) (.move rfl<|.nilCheck rfl<|.fa 0 rfl U87<|.lb hh 1 U85 rfl rfl rfl<|.fa 1 rfl U38<|.lb hh 20 U3 rfl rfl rfl<|.c (fun _ hW _ h_=>n8 h_ hW (i:=2) rfl rfl rfl U85 (KeyT.int (q:=.i64) U3) hki4 he4 (hek4.trans (ld hy)) hev4)<|.move rfl<|.extract rfl rfl<|.extract rfl rfl .nil) fun Y U=>so 10 ?_
 refine hZ U m9 24 iA rfl fun ar Y au U ao _ _=>⟨ao.to i8l,?_⟩
 refine se 11 ?_
 refine stw U ao 24 hH fun av aq _ =>?_
 refine goB hP9 [12] 1 4095 8191 U (.assign rfl .nil) fun Y U=>wad<|hK2 _ _ ?_
 replace U:=U.oz [0,3,4,6]
 refine hC U (.move rfl .nil) fun Y U=>wct U<|hC U (.assign rfl .nil) fun Y U=>rt1 U ?_
 have ap:=aq.mpClose (i:=2) rfl
 rw[hks4] at ap
 exact⟨rfl,ap.only [1,2]⟩
theorem rE(X B G L)(x:Cm)(hR:CmdR x)(pp pi)(cp ni ci:Nat)(w0)(hno:∀ y∈L,y.vo≠x.vo)(hN:iQ x.vo x.bl x.sz x.pe x.to x.pl)(m0:MemOk X w0 [(1,.box B 87 [.map (some G)]),(2,.mp G 11 ((L).map iU) ((L).map ij)),(3,.dat (.slice pp x.pl.length cp) (.ns .i64 x.pl)),(4,.dat (.slice pi ni ci) (.l 2 (x.its.map itD)))] w0) :
   Calls Tryz.prog 47 #[.pointer (some ⟨B,0,none⟩),.agg #[.int .i64 x.kd,.int .i64 x.vo,.int .i64 x.bl,.int .i64 x.sz,.int .i64 x.pe,.slice pp x.pl.length cp,.int .i64 x.to,.int .i64 x.at0,.int .i64 x.ix,.slice pi ni ci]] w0 fun e w'=>e=.returned (.int .i64 0)∧MemOk X w0 [(1,.box B 87 [.map (some G)]),(2,.mp G 11 ((L++[i5 x.vo x.bl x.sz x.pe x.to x.pl]).map iU) ((L++[i5 x.vo x.bl x.sz x.pe x.to x.pl]).map ij))] w':=by
 refine iZ Tryz.func47 rfl Tryz.ntmps47 fun Y U=>zsr fun K0 hK0=>plz<|iu U m0 20 (cs:=[_,_,_,_,_,_,_,_,_,_]) rfl rfl rfl fun g1 Y w2 U m2 _ _=>gz hK0 U (.assign rfl .nil) fun Y U=>wsk fun K1 hK1=>wsk fun K2 hK2 =>?_
 obtain⟨es4,ck4,hks4,hel4,hmk4,m4⟩:=m2.mpOpen (i:=2) rfl
 clear m2 hel4 hmk4
 have hki4:=jL hks4 ow
 have m5:=m4.oz [1,2,3,4,20]
 refine region_p 11 (B:=[(1,_),(2,_),(3,_),(4,_),(20,_)]) (m5.to i5l) m5 (by kernel_rfl) (fun w6 hP6 m6 =>?_);clear m5
 refine goR hP6 [0,1,2,3,4,5,6,7,8,9] [3,5,6] 10 0 1023 U (m6.to i5l) (.move rfl<|.nilCheck rfl<|.fa 0 rfl U87<|.lb hh 1 U85 rfl rfl rfl<|.fa 1 rfl U38<|.lb hh 20 U3 rfl rfl rfl<|.c (fun _ hW _ h_=>mW h_ hW (.agg #[.int .i64 0,.int .i64 0,.int .i64 0,.int .i64 0,.slice none 0 0,.int .i64 0,.int .i64 0,.bool false,.int .i64 0,.slice none 0 0,.slice none 0 0]) (i:=2) rfl rfl rfl U85 yq (KeyT.int (q:=.i64) U3) hki4 ⟨_,rfl⟩ (jL hks4 (kJ hno)))<|.move rfl<|.extract rfl rfl<|.extract rfl rfl .nil) fun Y U=>so 10 ?_
 refine hZ U m6 21 iA rfl fun ap Y aq U ah _ _=>⟨ah.to i5l,?_⟩
 refine se 11 ?_
 refine stw U ah 21 hH fun ar aa _ =>?_
 refine goB hP6 [12] 1 4095 8191 U (.assign rfl .nil) fun Y U=>wad<|hK2 _ _ ?_
 replace U:=U.oz [0,3,4,6]
 refine hC U (.move rfl .nil) fun Y U=>wcf U<|zss<|hK1 _ _<|zsr fun K3 hK3=>g9 U (.loadBR aa (i:=20) rfl rfl U38 rfl ip (by simp) (by dsimp only [List.drop,List.take] <;> rfl) .nil) fun Y U=>plz (ecl U Tryz.func95 rfl (yU _ _ _ _ _ _ _ _ x.pl _ _ _ _ _ _ ((aa.rd (i:=3) rfl).any) (by have:=hR.pl;omega) hN) ?_)
 rintro e au ⟨av,aw,rfl,ab,ac⟩
 have ak:=aa.callF 22 rfl ac ab
 refine⟨_,rfl,?_⟩;intro Y U
 refine g9 U (.move rfl<|.extract rfl rfl<|.extract rfl rfl .nil) fun Y U=>plz<|hZ U ak 23 iA rfl fun ax Y ay U al _ _=>plz (stw U al 23 hH fun az ao _ =>?_)
 refine gz hK3 U (.assign rfl .nil) fun Y U=>wsk fun K4 hK4 =>?_
 replace U:=U.oz [0,3,4,7,8]
 refine hC U (.move rfl<|.eql rfl rfl .nil) fun Y U=>bcT U 26 fun U=>wct U ?_
 have ai:=ao.mpClose (i:=2) rfl
 rw[hks4] at ai
 have ad:=ai.oz [1,2,3,4,20,21,22,23]
 refine region_p 7 (B:=[(1,_),(2,_),(3,_),(4,_),(20,_),(21,_),(22,_),(23,_)]) (ad.to i8l) ad (by kernel_rfl) (fun aA ae ag =>?_);clear ad
 refine goR ae [0,1,2,3,4,5,6] [3,5,6] 7 0 127 U (ag.to i8l) (.move rfl<|.nilCheck rfl<|.fa 0 rfl U87<|.lb hh 1 U85 rfl rfl rfl<|.fa 1 rfl U38<|.lb hh 20 U3 rfl rfl rfl<|.loadBR hh (i:=23) rfl rfl U51 rfl hH (by simp) (by dsimp only [List.drop,List.take] <;> rfl) .nil) fun Y U=>se 7 ?_
 refine jE (Q:=_) U ag 2 rfl rfl rfl rfl U85 (KeyT.int (q:=.i64) U3) ow ⟨_,rfl⟩ rfl rfl (.cons (.v _) (.cons (.v _) (.cons (.v _) (.cons (.v _) (.cons (ag.rd (i:=22) rfl) (.cons (.v _) (.cons (.v _) (.cons (.v _) (.cons (.v _) (.cons (Rd.nilN _ _ .i64 _) (.cons (.l0 _ _ 2) .nil))))))))))) none (kJ hno) fun aB aj _=>wad<|hK4 _ _ ?_
 replace U:=U.oz [4,8]
 refine hC U (.move rfl<|.assign rfl .nil) fun Y U=>rt1 U ?_
 rw[tn,tp] at aj
 exact⟨rfl,aj.only [1,2]⟩
theorem qc(X:Cx)(B G:Nat)(L:List VolV)(x:Cm)(hR:CmdR x)(pp pi:Option Addr)(cp ni ci:Nat)(w0:World)(hno:∀ y∈L,y.vo≠x.vo)(hN:¬ iQ x.vo x.bl x.sz x.pe x.to x.pl)(m0:MemOk X w0 [(1,.box B 87 [.map (some G)]),(2,.mp G 11 ((L).map iU) ((L).map ij)),(3,.dat (.slice pp x.pl.length cp) (.ns .i64 x.pl)),(4,.dat (.slice pi ni ci) (.l 2 (x.its.map itD)))] w0) :
   Calls Tryz.prog 47 #[.pointer (some ⟨B,0,none⟩),.agg #[.int .i64 x.kd,.int .i64 x.vo,.int .i64 x.bl,.int .i64 x.sz,.int .i64 x.pe,.slice pp x.pl.length cp,.int .i64 x.to,.int .i64 x.at0,.int .i64 x.ix,.slice pi ni ci]] w0 fun e w'=>e=.returned (.int .i64 23)∧MemOk X w0 [(1,.box B 87 [.map (some G)]),(2,.mp G 11 ((L).map iU) ((L).map ij))] w':=by
 refine iZ Tryz.func47 rfl Tryz.ntmps47 fun Y U=>zsr fun K0 hK0=>plz<|iu U m0 20 (cs:=[_,_,_,_,_,_,_,_,_,_]) rfl rfl rfl fun g1 Y w2 U m2 _ _=>gz hK0 U (.assign rfl .nil) fun Y U=>wsk fun K1 hK1=>wsk fun K2 hK2 =>?_
 obtain⟨es4,ck4,hks4,hel4,hmk4,m4⟩:=m2.mpOpen (i:=2) rfl
 clear m2 hel4 hmk4
 have hki4:=jL hks4 ow
 have m5:=m4.oz [1,2,3,4,20]
 refine region_p 11 (B:=[(1,_),(2,_),(3,_),(4,_),(20,_)]) (m5.to i5l) m5 (by kernel_rfl) (fun w6 hP6 m6 =>?_);clear m5
 refine goR hP6 [0,1,2,3,4,5,6,7,8,9] [3,5,6] 10 0 1023 U (m6.to i5l) (.move rfl<|.nilCheck rfl<|.fa 0 rfl U87<|.lb hh 1 U85 rfl rfl rfl<|.fa 1 rfl U38<|.lb hh 20 U3 rfl rfl rfl<|.c (fun _ hW _ h_=>mW h_ hW (.agg #[.int .i64 0,.int .i64 0,.int .i64 0,.int .i64 0,.slice none 0 0,.int .i64 0,.int .i64 0,.bool false,.int .i64 0,.slice none 0 0,.slice none 0 0]) (i:=2) rfl rfl rfl U85 yq (KeyT.int (q:=.i64) U3) hki4 ⟨_,rfl⟩ (jL hks4 (kJ hno)))<|.move rfl<|.extract rfl rfl<|.extract rfl rfl .nil) fun Y U=>so 10 ?_
 refine hZ U m6 21 iA rfl fun ah Y ai U ab _ _=>⟨ab.to i5l,?_⟩
 refine se 11 ?_
 refine stw U ab 21 hH fun aj aa _ =>?_
 refine goB hP6 [12] 1 4095 8191 U (.assign rfl .nil) fun Y U=>wad<|hK2 _ _ ?_
 replace U:=U.oz [0,3,4,6]
 refine hC U (.move rfl .nil) fun Y U=>wcf U<|zss<|hK1 _ _<|zsr fun K3 hK3=>g9 U (.loadBR aa (i:=20) rfl rfl U38 rfl ip (by simp) (by dsimp only [List.drop,List.take] <;> rfl) .nil) fun Y U=>plz<|ecb U Tryz.func95 rfl aa (yV _ _ _ _ _ _ _ _ x.pl _ _ _ _ _ _ ((aa.rd (i:=3) rfl).any) (by have:=hR.pl;omega) hN) fun Y ak U ad=>g9 U (.move rfl<|.extract rfl rfl<|.extract rfl rfl .nil) fun Y U=>plz<|hZ U ad 22 iA rfl fun al Y ao U ae _ _=>plz (stw U ae 22 hH fun ap ag _ =>?_)
 refine gz hK3 U (.assign rfl .nil) fun Y U=>wsk fun K4 hK4 =>?_
 replace U:=U.oz [0,3,4,7,8]
 refine hC U (.move rfl<|.eql rfl rfl .nil) fun Y U=>bcF U 26 fun U=>wcf U<|zss<|hK4 _ _<|hC U (.move rfl<|.assign rfl .nil) fun Y U=>rt1 U ?_
 have ac:=ag.mpClose (i:=2) rfl
 rw[hks4] at ac
 exact⟨rfl,ac.only [1,2]⟩
theorem yW(X:Cx)(B G:Nat)(L:List VolV)(x:Cm)(hR:CmdR x)(pp pi:Option Addr)(cp ni ci:Nat)(w0:World)(hno:∀ y∈L,y.vo≠x.vo)(m0:MemOk X w0 [(1,.box B 87 [.map (some G)]),(2,.mp G 11 ((L).map iU) ((L).map ij)),(3,.dat (.slice pp x.pl.length cp) (.ns .i64 x.pl)),(4,.dat (.slice pi ni ci) (.l 2 (x.its.map itD)))] w0) :
   Calls Tryz.prog 48 #[.pointer (some ⟨B,0,none⟩),.agg #[.int .i64 x.kd,.int .i64 x.vo,.int .i64 x.bl,.int .i64 x.sz,.int .i64 x.pe,.slice pp x.pl.length cp,.int .i64 x.to,.int .i64 x.at0,.int .i64 x.ix,.slice pi ni ci]] w0 fun e w'=>e=.returned (.agg #[.int .i64 28,.int .i64 0,.int .i64 0,.int .i64 0,.slice none 0 0])∧MemOk X w0 [(1,.box B 87 [.map (some G)]),(2,.mp G 11 ((L).map iU) ((L).map ij))] w':=by
 refine iZ Tryz.func48 rfl Tryz.ntmps48 fun Y U=>zsr fun K0 hK0=>plz<|iu U m0 20 (cs:=[_,_,_,_,_,_,_,_,_,_]) rfl rfl rfl fun g1 Y w2 U m2 _ _=>plz<|hZ U m2 21 iL rfl fun g3 Y w4 U m4 _ _=>znl<|hK0 _ _<|wsk fun K1 hK1 =>?_
 obtain⟨es5,ck5,hks5,hel5,hmk5,m5⟩:=m4.mpOpen (i:=2) rfl
 clear m4 hel5 hmk5
 have hki5:=jL hks5 ow
 have m6:=m5.oz [1,2,3,4,20,21]
 refine region_p 11 (B:=[(1,_),(2,_),(3,_),(4,_),(20,_),(21,_)]) (m6.to i6l) m6 (by kernel_rfl) (fun w7 hP7 m7 =>?_);clear m6
 refine goR hP7 [0,1,2,3,4,5,6,7,8,9] [3,5,6] 10 0 1023 U (m7.to i6l) (.move rfl<|.nilCheck rfl<|.fa 0 rfl U87<|.lb hh 1 U85 rfl rfl rfl<|.fa 1 rfl U38<|.lb hh 20 U3 rfl rfl rfl<|.c (fun _ hW _ h_=>mW h_ hW (.agg #[.int .i64 0,.int .i64 0,.int .i64 0,.int .i64 0,.slice none 0 0,.int .i64 0,.int .i64 0,.bool false,.int .i64 0,.slice none 0 0,.slice none 0 0]) (i:=2) rfl rfl rfl U85 yq (KeyT.int (q:=.i64) U3) hki5 ⟨_,rfl⟩ (jL hks5 (kJ hno)))<|.move rfl<|.extract rfl rfl<|.extract rfl rfl .nil) fun Y U=>so 10 ?_
 refine hZ U m7 22 iA rfl fun ae Y ag U aa _ _=>⟨aa.to i6l,?_⟩
 refine se 11 ?_
 refine stw U aa 22 hH fun ah ad _ =>?_
 refine goB hP7 [12] 1 4095 8191 U (.assign rfl .nil) fun Y U=>wad<|hK1 _ _<|wsk fun K2 hK2 =>?_
 replace U:=U.oz [0,3,4,5,6]
 refine hC U (.move rfl<|.not rfl .nil) fun Y U=>wct U<|zsr fun K3 hK3=>g9 U (.build rfl iL vR rfl (by dsimp only [iY,List.set] <;> rfl) .nil) fun Y U=>plz (stw U ad 21 iz fun ai ab _ =>?_)
 refine znl<|hK3 _ _<|rtd (kG (fn:=Tryz.f48) U ab (i:=21) rfl rfl rfl U44 rfl iz ?_)
 have ac:=ab.mpClose (i:=2) rfl
 rw[hks5] at ac
 exact⟨rfl,ac.only [1,2]⟩
theorem yX(X:Cx)(B G:Nat)(L:List VolV)(x:Cm)(hR:CmdR x)(pp pi:Option Addr)(cp ni ci:Nat)(w0:World)(n:Nat)(hn:n≤800000)(hV:∀ y∈L,VolS n y)(j:Nat)(y:VolV)(hj:L[j]? = some y)(hy:y.vo=x.vo)(m0:MemOk X w0 [(1,.box B 87 [.map (some G)]),(2,.mp G 11 ((L).map iU) ((L).map ij)),(3,.dat (.slice pp x.pl.length cp) (.ns .i64 x.pl)),(4,.dat (.slice pi ni ci) (.l 2 (x.its.map itD)))] w0) :
   Calls Tryz.prog 48 #[.pointer (some ⟨B,0,none⟩),.agg #[.int .i64 x.kd,.int .i64 x.vo,.int .i64 x.bl,.int .i64 x.sz,.int .i64 x.pe,.slice pp x.pl.length cp,.int .i64 x.to,.int .i64 x.at0,.int .i64 x.ix,.slice pi ni ci]] w0 fun e w' => ∃ (z:VolV) (e9 rl rf rn:Int),e=.returned (.agg #[.int .i64 e9,.int .i64 rl,.int .i64 rf,.int .i64 rn,.slice none 0 0])∧doV y x=(z,e9)∧nu z e9=(rl,rf,rn)∧MemOk X w0 [(1,.box B 87 [.map (some G)]),(2,.mp G 11 ((L.set j z).map iU) ((L.set j z).map ij))] w':=by
 refine iZ Tryz.func48 rfl Tryz.ntmps48 fun Y U=>zsr fun K0 hK0=>plz<|iu U m0 20 (cs:=[_,_,_,_,_,_,_,_,_,_]) rfl rfl rfl fun g1 Y w2 U m2 _ _=>plz<|hZ U m2 21 iL rfl fun g3 Y w4 U m4 _ _=>znl<|hK0 _ _<|wsk fun K1 hK1 =>?_
 obtain⟨es5,ck5,hks5,hel5,hmk5,m5⟩:=m4.mpOpen (i:=2) rfl
 clear m4 hel5 hmk5
 have hki5:=jL hks5 ow
 obtain⟨e5,vs5,he5,hev5,hR5,ho5,hvl5⟩:=m5.mpeAt (i:=2) rfl (r:=[.v (.int .i64 y.vo),.v (.int .i64 y.bl),.v (.int .i64 y.sz),.v (.int .i64 y.pe),.ns .i64 y.place,.v (.int .i64 y.to),.v (.int .i64 y.ne),.v (.bool y.hi),.v (.int .i64 y.fl),.ns .i64 y.pins,.l 2 (y.ws.map wrD)]) (iT hj)
 have hek5:=qP hks5 he5 (j7 hj)
 clear ho5 hvl5
 revert U
 rcases hR5 with _|⟨ad,_|⟨ae,_|⟨ag,_|⟨ah,_|⟨ab,_|⟨ai,_|⟨aj,_|⟨ak,_|⟨al,_|⟨ac,_|⟨aa,_|_⟩⟩⟩⟩⟩⟩⟩⟩⟩⟩⟩
 obtain rfl:=ad.v_out
 clear ad
 obtain rfl:=ae.v_out
 clear ae
 obtain rfl:=ag.v_out
 clear ag
 obtain rfl:=ah.v_out
 clear ah
 obtain⟨p6,c6,hv6,hc6⟩:=ab.ns_shape;subst hv6
 intro U
 have m6:=m5.dat 22 rfl (ab.cast (fun _ h=>h));clear m5 ab
 revert U
 obtain rfl:=ai.v_out
 clear ai
 obtain rfl:=aj.v_out
 clear aj
 obtain rfl:=ak.v_out
 clear ak
 obtain rfl:=al.v_out
 clear al
 obtain⟨p7,c7,hv7,hc7⟩:=ac.ns_shape;subst hv7
 intro U
 have m7:=m6.dat 23 rfl (ac.cast (fun _ h=>(ia rfl h)));clear m6 ac
 revert U
 obtain⟨p8,c8,hv8,hc8⟩:=aa.l_shape;subst hv8
 intro U
 have m8:=m7.dat 24 rfl (aa.cast (fun _ h=>(ia rfl (ia rfl h))));clear m7 aa
 have m9:=m8.oz [1,2,3,4,20,21,22,23,24]
 refine region_p 11 (B:=[(1,_),(2,_),(3,_),(4,_),(20,_),(21,_),(22,_),(23,_),(24,_)]) (m9.to i9l) m9 (by kernel_rfl) (fun aF ap ay =>?_);clear m9
 refine goR ap [0,1,2,3,4,5,6,7,8,9] [3,5,6] 10 0 1023 U (ay.to i9l) (.move rfl<|.nilCheck rfl<|.fa 0 rfl U87<|.lb hh 1 U85 rfl rfl rfl<|.fa 1 rfl U38<|.lb hh 20 U3 rfl rfl rfl<|.c (fun _ hW _ h_=>n8 h_ hW (i:=2) rfl rfl rfl U85 (KeyT.int (q:=.i64) U3) hki5 he5 (hek5.trans (ld hy)) hev5)<|.move rfl<|.extract rfl rfl<|.extract rfl rfl .nil) fun Y U=>so 10 ?_
 refine hZ U ay 25 iA rfl fun aG Y aH U az _ _=>⟨az.to i9l,?_⟩
 refine se 11 ?_
 refine stw U az 25 hH fun aI ar _ =>?_
 refine goB ap [12] 1 4095 8191 U (.assign rfl .nil) fun Y U=>wad<|hK1 _ _<|wsk fun K2 hK2 =>?_
 replace U:=U.oz [0,3,4,5,6]
 refine hC U (.move rfl<|.not rfl .nil) fun Y U=>wcf U<|zss<|hK2 _ _<|zsr fun K3 hK3=>g9 U (.loadBR ar (i:=25) rfl rfl U51 rfl hH (by simp) (by dsimp only [List.drop,List.take] <;> rfl)<|.loadBR ar (i:=20) rfl rfl U38 rfl ip (by simp) (by dsimp only [List.drop,List.take] <;> rfl) .nil) fun Y U =>?_
 have ao:=ar.mpClose (i:=2) rfl
 rw[hks5] at ao
 refine plz (ecl U Tryz.func96 rfl (yT _ y x n (hV y (List.mem_of_getElem? hj)) hn (by have:=hR.il;omega) hR.itok _ _ _ _ _ _ _ _ _ _ _ _ _ _ _ _ _ _ _ (ao.rd (i:=22) rfl) (ao.rd (i:=23) rfl) (ao.rd (i:=24) rfl) (ao.rd (i:=4) rfl)) ?_)
 rintro e aJ ⟨z,e9,rl,rf,rn,pz1,pz2,pz3,dz1,dz2,dz3,rfl,hdo,hrp,ho1,ho2,ho3,au⟩
 have aB:=xU ao 26 27 28 rfl rfl rfl au ho1 ho2 ho3
 refine⟨_,rfl,?_⟩;intro Y U
 refine g9 U (.move rfl<|.extract rfl rfl<|.extract rfl rfl .nil) fun Y U=>plz<|hZ U aB 29 iL rfl fun aK Y aL U aC _ _=>plz (stw U aC 25 hH fun aM aD _ =>?_)
 refine plz (stw U aD 29 iz fun aN aE _ =>?_)
 refine znl<|hK3 _ _<|wsk fun K4 hK4 =>?_
 replace U:=U.oz [0,3,4,5,7]
 have av:=aE.oz [1,2,3,4,20,21,22,23,24,25,26,27,28,29]
 refine region_p 7 (B:=[(1,_),(2,_),(3,_),(4,_),(20,_),(21,_),(22,_),(23,_),(24,_),(25,_),(26,_),(27,_),(28,_),(29,_)]) (av.to o0) av (by kernel_rfl) (fun aO aw aq =>?_);clear av
 refine goR aw [0,1,2,3,4,5,6] [3,5,6] 7 0 127 U (aq.to o0) (.move rfl<|.nilCheck rfl<|.fa 0 rfl U87<|.lb hh 1 U85 rfl rfl rfl<|.fa 1 rfl U38<|.lb hh 20 U3 rfl rfl rfl<|.loadBR hh (i:=25) rfl rfl U51 rfl hH (by simp) (by dsimp only [List.drop,List.take] <;> rfl) .nil) fun Y U=>se 7 ?_
 refine jE (Q:=_) U aq 2 rfl rfl rfl rfl U85 (KeyT.int (q:=.i64) U3) ow ⟨_,rfl⟩ rfl rfl (.cons (.v _) (.cons (.v _) (.cons (.v _) (.cons (.v _) (.cons (aq.rd (i:=26) rfl) (.cons (.v _) (.cons (.v _) (.cons (.v _) (.cons (.v _) (.cons (aq.rd (i:=27) rfl) (.cons (aq.rd (i:=28) rfl) .nil))))))))))) (some j) (rt hj hy) fun aP aA _=>wad<|hK4 _ _ ?_
 replace U:=U.oz [4,7]
 refine zsr fun K5 hK5=>g9 U (.loadBR aA (i:=29) rfl rfl U44 rfl iz (by simp) (by dsimp only [List.drop,List.take] <;> rfl) .nil) fun Y U=>plz (stw U aA 21 iz fun aQ ax _ =>?_)
 refine znl<|hK5 _ _<|rtd (kG (fn:=Tryz.f48) U ax (i:=21) rfl rfl rfl U44 rfl iz ?_)
 rw[pA hj (o9 hdo),pB hj (o9 hdo)] at ax
 exact⟨z,e9,rl,rf,rn,rfl,hdo,hrp,ax.only [1,2]⟩
end
end Go.Proofs.YtkehgingagggaaaGreat.K
section
namespace Go.Proofs.YtkehgingagggaaaGreat.K
set_option autoImplicit true
set_option relaxedAutoImplicit true
open Go.ChangeShapes Go.WideShapes Go.ChangeAt Go.RowKit Go.Sort
set_option linter.unusedVariables false
set_option linter.unusedSimpArgs false
theorem vT:iO Tryz.prog 44 [.int .i64 0,.int .i64 0,.int .i64 0,.int .i64 0,.slice none 0 0]=true:=by kernel_rfl
def kc(L:List VolV):List Int:=(L.map (·.vo)).mergeSort fun x y=>decide (x≤y)
theorem lc{L:List VolV}:(kc L).length=(L.map (·.vo)).length:=by simp [kc]
theorem vU{id:Int}(h:id∈kc L):∃ y∈L,y.vo=id:=by
 have:=(List.mem_mergeSort).1 h
 obtain⟨y,h1,h2⟩:=List.mem_map.1 this
 exact⟨y,h1,h2⟩
def j4(L:List VolV):List VolV:=(kc L).map (fun id=>(L.find? (fun y=>decide (y.vo=id))).getD jM)
theorem lL  : (j4 L).length=(kc L).length:=by simp [j4]
theorem q9{L:List VolV}{k:Nat}{id:Int}(h:(kc L)[k]? = some id):∃ (j:Nat) (y:VolV),L[j]? = some y∧y.vo=id∧(j4 L)[k]? = some y:=by
 obtain⟨y,h1,h2⟩:=vU (List.mem_of_getElem? h)
 cases hf:L.find? (fun y=>decide (y.vo=id)) with
 | none=>exact absurd h2 (by simpa using List.find?_eq_none.1 hf y h1)
 | some z =>
   obtain⟨j,hj⟩:=List.getElem?_of_mem (List.mem_of_find?_eq_some hf)
   refine⟨j,z,hj,by simpa using List.find?_some hf,?_⟩
   rw[j4,List.getElem?_map,h]
   show some ((L.find? _).getD jM)=_
   rw[hf];rfl
theorem rF(h:(j4 L)[k]? = some y):((j4 L).take (k+1)).map ij=((j4 L).take k).map ij++[ij y]:=by
 rw[List.take_add_one,h,List.map_append];rfl
theorem VolS.cp{x:VolV}(h:VolS n x)(hn:n≤800000):x.place.length≤1000000∧x.pins.length≤1000000∧x.ws.length≤1000000∧kK x.ws:=by
 have h2:=h.sm
 obtain⟨g1,g2,g3,g4,g5⟩:=h
 exact⟨by omega,by omega,by omega,g1.its.1⟩
theorem lS{α:Type}{l:List α}{x:α}{Q:α→Prop}(h:∀ e∈l,Q e)(hx:Q x):∀ e∈l++[x],Q e:=fun e he=>by
 rcases List.mem_append.1 he with he|he
 · exact h e he
 simp at he;subst he;exact hx
theorem rG{dn:List MapEntry}{e:MapEntry}(h:(dn.map (·.born)).Nodup)(hn:e.born∉dn.map (·.born)):((dn++[e]).map (·.born)).Nodup:=by
 rw[List.map_append]
 refine List.nodup_append.2 ⟨h,by simp,fun a ha b hb =>?_⟩
 simp at hb;subst hb
 intro e9;subst e9;exact hn ha
theorem rH{dn:List MapEntry}{e:MapEntry}:(dn.map (·.born)).toArray.push e.born=((dn++[e]).map (·.born)).toArray:=by simp
theorem tu{dn es:List MapEntry}{zs:List Int}{L:List VolV}(h1:∀ e∈dn,e∈es)(h2:(dn.map (·.born)).Nodup)(h3:MapK es ck)(h4:∀ e∈es,e.born∈dn.map (·.born))(h5:dn.map (·.key)=zs.map (Value.int .i64))(h6:es.map (·.key)=L.map iU):zs.Perm (L.map (·.vo)):=by
 have hp:=(nE h1 h2 h3.bn h4).map (·.key)
 rw[h5,h6] at hp
 have hq:=hp.map (fun v=>match v with | .int _ z=>z|_=>0)
 simpa [List.map_map,Function.comp_def,iU] using hq
theorem tv{zs:List Int}{L:List VolV}(h:zs.Perm (L.map (·.vo))):zs.mergeSort (fun x y=>decide (x≤y))=kc L:=
 vV ((List.mergeSort_perm _ _).trans (h.trans (List.mergeSort_perm _ _).symm)) (jO _) (jO _)
open Classical in
noncomputable def kk(L:List VolV)(c:Cm):List VolV×Int×Int×Int×Int:=
 if c.kd=1 then (if (∃ y∈L,y.vo=c.vo) then (L,29,0,0,0) else if iQ c.vo c.bl c.sz c.pe c.to c.pl then (L++[i5 c.vo c.bl c.sz c.pe c.to c.pl],0,0,0,0) else (L,23,0,0,0))
 else match L.findIdx? (fun y=>decide (y.vo=c.vo)) with
   | none=>(L,28,0,0,0)
   | some j=>(L.set j (doV (L.getD j jM) c).1,(doV (L.getD j jM) c).2,(nu (doV (L.getD j jM) c).1 (doV (L.getD j jM) c).2).1,(nu (doV (L.getD j jM) c).1 (doV (L.getD j jM) c).2).2.1,(nu (doV (L.getD j jM) c).1 (doV (L.getD j jM) c).2).2.2)
theorem pv(X B G L)(x:Cm)(hR:CmdR x)(hk:x.kd=1)(pp pi)(cp ni ci:Nat)(w0)(m0:MemOk X w0 [(1,.box B 87 [.map (some G)]),(2,.mp G 11 ((L).map iU) ((L).map ij)),(3,.dat (.slice pp x.pl.length cp) (.ns .i64 x.pl)),(4,.dat (.slice pi ni ci) (.l 2 (x.its.map itD)))] w0) :
   Calls Tryz.prog 47 #[.pointer (some ⟨B,0,none⟩),.agg #[.int .i64 x.kd,.int .i64 x.vo,.int .i64 x.bl,.int .i64 x.sz,.int .i64 x.pe,.slice pp x.pl.length cp,.int .i64 x.to,.int .i64 x.at0,.int .i64 x.ix,.slice pi ni ci]] w0 fun e w' => ∃ (L':List VolV) (e9:Int),e=.returned (.int .i64 e9)∧kk L x=(L',e9,0,0,0)∧MemOk X w0 [(1,.box B 87 [.map (some G)]),(2,.mp G 11 ((L').map iU) ((L').map ij))] w':=by
 by_cases hex:∃ y∈L,y.vo=x.vo
 · obtain⟨y,hy,hv⟩:=hex
   obtain⟨j,hj⟩:=List.getElem?_of_mem hy
   exact(rD X B G L x hR pp pi cp ni ci w0 j y hj hv m0).mono fun e w' h=>⟨L,29,h.1,by rw[kk,if_pos hk,if_pos ⟨y,hy,hv⟩],h.2⟩
 have hno:∀ y∈L,y.vo≠x.vo:=fun y hy e=>hex ⟨y,hy,e⟩
 by_cases hN:iQ x.vo x.bl x.sz x.pe x.to x.pl
 · exact(rE X B G L x hR pp pi cp ni ci w0 hno hN m0).mono fun e w' h=>⟨_,0,h.1,by rw[kk,if_pos hk,if_neg hex,if_pos hN],h.2⟩
 exact(qc X B G L x hR pp pi cp ni ci w0 hno hN m0).mono fun e w' h=>⟨_,23,h.1,by rw[kk,if_pos hk,if_neg hex,if_neg hN],h.2⟩
theorem zw(X B G L)(x:Cm)(hR:CmdR x)(pp pi)(cp ni ci:Nat)(w0 n)(hn:n≤800000)(hV:∀ y∈L,VolS n y)(hk:¬ x.kd=1)(m0:MemOk X w0 [(1,.box B 87 [.map (some G)]),(2,.mp G 11 ((L).map iU) ((L).map ij)),(3,.dat (.slice pp x.pl.length cp) (.ns .i64 x.pl)),(4,.dat (.slice pi ni ci) (.l 2 (x.its.map itD)))] w0) :
   Calls Tryz.prog 48 #[.pointer (some ⟨B,0,none⟩),.agg #[.int .i64 x.kd,.int .i64 x.vo,.int .i64 x.bl,.int .i64 x.sz,.int .i64 x.pe,.slice pp x.pl.length cp,.int .i64 x.to,.int .i64 x.at0,.int .i64 x.ix,.slice pi ni ci]] w0 fun e w' => ∃ (L':List VolV) (e9 rl rf rn:Int),e=.returned (.agg #[.int .i64 e9,.int .i64 rl,.int .i64 rf,.int .i64 rn,.slice none 0 0])∧kk L x=(L',e9,rl,rf,rn)∧MemOk X w0 [(1,.box B 87 [.map (some G)]),(2,.mp G 11 ((L').map iU) ((L').map ij))] w':=by
 cases hf:L.findIdx? (fun y=>decide (y.vo=x.vo)) with
 | none =>
   have hno:∀ y∈L,y.vo≠x.vo:=fun y hy=>by simpa using List.findIdx?_eq_none_iff.1 hf y hy
   exact(yW X B G L x hR pp pi cp ni ci w0 hno m0).mono fun e w' h=>⟨_,_,_,_,_,h.1,by rw[kk,if_neg hk,hf],h.2⟩
 | some j =>
   obtain⟨hjl,hv,_⟩:=List.findIdx?_eq_some_iff_getElem.1 hf
   have hj:L[j]? = some L[j]:=List.getElem?_eq_getElem hjl
   have hv':L[j].vo=x.vo:=by simpa using hv
   refine(yX X B G L x hR pp pi cp ni ci w0 n hn hV j L[j] hj hv' m0).mono ?_
   rintro e w' ⟨z,e9,rl,rf,rn,he,hd,hr,hm⟩
   refine⟨_,_,_,_,_,he,?_,hm⟩
   have hg:L.getD j jM=L[j]:=by rw[List.getD,hj];rfl
   rw[kk,if_neg hk,hf]
   simp only [hg,hd,hr]
set_option maxRecDepth 100000
set_option maxHeartbeats 4000000
theorem vP(X B G L)(x:Cm)(hR:CmdR x)(hby:∀ e∈x.its,BytesL e.2)(n)(hn:n≤800000)(hV:∀ y∈L,VolS n y)(p)(c:Nat)(w0)(m0:MemOk X w0 [(1,.box B 87 [.map (some G)]),(2,.mp G 11 ((L).map iU) ((L).map ij)),(3,.dat (.slice p (cmE x).length c) (.ns .u8 (cmE x)))] w0) :
   Calls Tryz.prog 14 #[.pointer (some ⟨B,0,none⟩),.slice p (cmE x).length c] w0 fun e w' => ∃ (L':List VolV) (e9 rl rf rn:Int),e=.returned (.agg #[.int .i64 e9,.int .i64 rl,.int .i64 rf,.int .i64 rn,.slice none 0 0])∧kk L x=(L',e9,rl,rf,rn)∧MemOk X w0 [(1,.box B 87 [.map (some G)]),(2,.mp G 11 ((L').map iU) ((L').map ij))] w':=by
 refine iZ Tryz.func14 rfl Tryz.ntmps14 fun Y U=>zsr fun K0 hK0=>plz<|hZ U m0 20 iL rfl fun g1 Y w2 U m2 _ _=>znl<|hK0 _ _<|zsr fun K1 hK1=>g9 U (.move rfl .nil) fun Y U=>plz (ecl U Tryz.func28 rfl (lR _ x hR hby _ _ _ (m2.into [(1,3)] (by decide) rfl)) ?_)
 rintro e w5 ⟨pp5,pi5,cp5,ci5,rfl,hm5⟩
 have mx5:=m2.back hm5 [(3,1),(21,2),(22,3)] (by decide);clear hm5 m2
 have m5:=mx5.oz [3,21,22,1,2,20]
 refine⟨_,rfl,?_⟩;intro Y U
 refine g9 U (.move rfl<|.extract rfl rfl<|.extract rfl rfl .nil) fun Y U=>plz<|hZ U m5 23 i8 rfl fun ao Y ap U aj _ _=>plz (stw U aj 23 ip fun aq ab _ =>?_)
 refine gz hK1 U (.assign rfl .nil) fun Y U=>wsk fun K2 hK2 =>?_
 replace U:=U.oz [0,4,5,6]
 refine hC U (.move rfl<|.neq rfl rfl .nil) fun Y U=>bcF U 13 fun U=>wcf U<|zss<|hK2 _ _<|hC U (.fa 0 rfl U38<|.lb ab 23 U3 rfl rfl rfl .nil) fun Y U=>wp_block<|hC U (.eql rfl rfl<|.assign rfl .nil) fun Y U=>bc U 21 ?_ ?_
 ·
  intro aa U;try simp only [QQ,Qax] at aa
  have hk1:x.kd=1:=aa
  refine wct U ?_
  replace U:=U.oz [0,4,5]
  refine zsr fun K3 hK3=>g9 U (.move rfl<|.loadBR ab (i:=23) rfl rfl U38 rfl ip (by simp) (by dsimp only [List.drop,List.take] <;> rfl) .nil) fun Y U=>plz (ecl U Tryz.func47 rfl (pv _ _ _ L x hR hk1 _ _ _ _ _ _ (ab.into [(1,1),(2,2),(3,21),(4,22)] (by decide) rfl)) ?_)
  rintro e ar ⟨L',e9,rfl,hap,ac⟩
  have ae:=ab.back ac [(1,1),(2,2)] (by decide);clear ac ab
  have ak:=ae.oz [1,2,3,20,23]
  refine⟨_,rfl,?_⟩;intro Y U
  refine g9 U (.build rfl iL vT rfl (by dsimp only [iY,List.set] <;> rfl) .nil) fun Y U=>plz (stw U ak 20 iz fun au ah _ =>?_)
  refine znl<|hK3 _ _<|rtd (kG (fn:=Tryz.f14) U ah (i:=20) rfl rfl rfl U44 rfl iz ?_)
  exact⟨_,_,_,_,_,rfl,hap,ah.only [1,2]⟩
 intro aa U;try simp only [QQ,Qax] at aa
 have hk1:¬ x.kd=1:=aa
 refine wcf U ?_
 replace U:=U.oz [0,4,5]
 refine zsr fun K4 hK4=>g9 U (.move rfl<|.loadBR ab (i:=23) rfl rfl U38 rfl ip (by simp) (by dsimp only [List.drop,List.take] <;> rfl) .nil) fun Y U=>plz (ecl U Tryz.func48 rfl (zw _ _ _ L x hR _ _ _ _ _ _ n hn hV hk1 (ab.into [(1,1),(2,2),(3,21),(4,22)] (by decide) rfl)) ?_)
 rintro e av ⟨L',e9,rl,rf,rn,rfl,hap,ad⟩
 have ag:=ab.back ad [(1,1),(2,2)] (by decide);clear ad ab
 have al:=ag.oz [1,2,3,20,23]
 refine⟨_,rfl,?_⟩;intro Y U
 refine plz (stw U al 20 iz fun aw ai _ =>?_)
 refine znl<|hK4 _ _<|rtd (kG (fn:=Tryz.f14) U ai (i:=20) rfl rfl rfl U44 rfl iz ?_)
 exact⟨_,_,_,_,_,rfl,hap,ai.only [1,2]⟩
theorem tw(X p)(c:Nat)(zs:List Int)(w0)(hl:zs.length≤1000000)(m0:MemOk X w0 [(1,.seg (.slice p zs.length c) 3 1 (zs.map nD))] w0) :
   Calls Tryz.prog 98 #[.slice p zs.length c] w0 fun e w'=>e=.returned (.tuple #[])∧MemOk X w0 [(1,.seg (.slice p zs.length c) 3 1 ((zs.mergeSort fun x y=>decide (x≤y)).map nD))] w':=by
 have hs:=(kN (m0.ok 1 _ rfl).1).2
 rcases hs with ⟨e1,h0⟩|⟨g,off,cap,cur,e1,-,hb,hnc,hcm,hcs,htk⟩
 · obtain rfl:=List.length_eq_zero_iff.1 h0
   refine(AnyG.slices_Sort_int_none Tryz.sortI p c w0).mono ?_
   rintro e w' ⟨rfl,rfl⟩;exact⟨rfl,by simpa using m0⟩
 injection e1 with h1 h2 h3;subst h1;subst h3
 refine(AnyG.slices_Sort_int Tryz.sortI g off c zs w0 (mO hb htk (by omega)) (Array.getElem?_eq_some_iff.1 hb).1 (by omega)).mono ?_
 rintro e w' ⟨rfl,n,os,rfl⟩
 exact⟨rfl,(m0.putN 1 rfl (zs.mergeSort fun x y=>decide (x≤y)) (by simp) n os).only [1]⟩
theorem xr(X B G)(L:List VolV)(w0)(hL9:L.length≤1000)(m0:MemOk X w0 [(1,.box B 87 [.map (some G)]),(2,.mp G 11 ((L).map iU) ((L).map ij))] w0) :
   Calls Tryz.prog 51 #[.pointer (some ⟨B,0,none⟩)] w0 fun e w' => ∃ (p:Option Addr) (c:Nat),e=.returned (.slice p (kc L).length c)∧MemOk X w0 [(1,.box B 87 [.map (some G)]),(2,.mp G 11 ((L).map iU) ((L).map ij)),(3,.seg (.slice p (kc L).length c) 3 1 ((kc L).map nD))] w':=by
 refine i9 Tryz.func51 rfl Tryz.ntmps51 fun Y U=>hC U (.assign rfl .nil) fun Y U=>hC U (.assign rfl .nil) fun Y U=>wsk fun K0 hK0=>zsr fun K1 hK1=>g9 U (.move rfl<|.nilCheck rfl<|.fa 0 rfl U87<|.lb m0 1 U85 rfl rfl rfl .nil) fun Y U =>?_
 obtain⟨aa,ac,ad,ae,ag,av⟩:=m0.mpOpen (i:=2) rfl
 have ah:=jL ad ow
 refine plz<|uM U av 20 (i:=2) rfl rfl U85 rfl fun aA Y aB U aq=>znl<|hK1 _ _<|wp_block<|wp_loop_ghost (fun g a w => ∃ (dn:List MapEntry) (zs:List Int) (p:Option Addr) (c gi:Nat),(∀ e∈dn,e∈aa)∧(dn.map (·.born)).Nodup∧dn.map (·.key)=zs.map (Value.int .i64)∧g=aa.length - dn.length∧Has 21 [(0,.pointer (some ⟨B,0,none⟩)),(3,.slice p zs.length c),(9,.pointer (some ⟨gi,0,none⟩))] a∧MemOk X w0 [(1,.box B 87 [.map (some G)]),(2,.mpE G 11 aa ac (L.map ij)),(8,.obj gi (.mapIter (some G) ac (dn.map (·.born)).toArray ac)),(7,.num (.slice p zs.length c) 3 .i64 zs)] w) (aa.length) ?_ ?_
 · have mz:=aq.nilN 7 3 .i64
   exact⟨[],[],_,_,_,(fun e he=>by cases he),List.nodup_nil,rfl,rfl,U.only [0,3,9],mz.ren [(1,1),(2,2),(8,20),(7,7)] (by decide)⟩
 clear U aq
 rintro g Y aC ⟨dn,zs,p,c,gi,hds,hnb,hdk,hg,U,aw⟩
 refine zsr fun K2 hK2=>plz<|uO U aw (i:=2) (i2:=8) rfl rfl rfl rfl fun aD ax ay Y aE U al ai=>gz hK2 U (.extract rfl rfl .nil) fun Y U=>wsk fun K3 hK3=>bc U 11 ?_ ?_
 ·
  intro ab U;try simp only [QQ,Qax] at ab
  obtain⟨e9,he9,hb9,ho9⟩:∃ e∈aa,e.born∉(dn.map (·.born)).toArray∧ay=.mapIter (some G) ac ((dn.map (·.born)).toArray.push e.born) ac:=by
    rcases ai with ⟨h1,_⟩|⟨_,e,h1,h2,h3⟩
    · rw[h1] at ab;cases ab
    exact⟨e,h1,h2,h3⟩
  revert U
  subst ho9
  intro U
  obtain⟨z9,hz9⟩:=ah e9 he9
  have hb8:e9.born∉dn.map (·.born):=by simpa using hb9
  have hd2:∀ e∈dn++[e9],e∈aa:=lS hds he9
  have hn2:((dn++[e9]).map (·.born)).Nodup:=rG hnb hb8
  refine wct U<|zss<|hK3 _ _<|wp_block<|hC U (.c rfl (fun _ h_=>sN h_ al (i:=2) (i2:=8) rfl rfl rfl he9 hz9)<|.extract rfl rfl<|.assign rfl .nil) fun Y U=>wp_region_lit<|g9 U (.move rfl<|.move rfl .nil) fun Y U=>plz<|iv U al 100 (k:=.i64) rfl rfl U35 jI rfl rfl rfl rfl fun aF Y aG U ar=>plz<|iC U ar 7 rfl rfl rfl (ar.numsO (i:=100) rfl) U35 jI (by decide) (by have h8:=n9 hds hnb;have h9:=congrArg List.length hdk;have h7:=ae;rw[List.length_map] at h7;rw[List.length_map,List.length_map] at h9;try simp only [List.length_cons,List.length_nil];omega) rfl fun aH aI Y aJ U au=>g9 U (.assign rfl .nil) fun Y U=>wpList_nil ?_
  show ∃ n',n'<_∧_
  rw[rH] at au
  exact⟨aa.length - (dn.length+1),by have:=n9 hd2 hn2;rw[List.length_append,List.length_singleton] at this;omega,dn++[e9],zs++[z9],_,_,_,hd2,hn2,by rw[List.map_append,List.map_append,hdk];exact congrArg (_++[·]) hz9,by rw[List.length_append,List.length_singleton],U.only [0,3,9],au.only [1,2,8,7]⟩
 intro ab U;try simp only [QQ,Qax] at ab
 have hall:∀ e∈aa,e.born∈dn.map (·.born):=by
   rcases ai with ⟨_,h1⟩|⟨h1,_⟩
   · intro e he;simpa using h1 e he
   rw[h1] at ab;cases ab
 have hpm:zs.Perm (L.map (·.vo)):=tu hds hnb ag hall hdk ad
 refine wcf U<|wp_exit<|hK0 _ _<|zsr fun K4 hK4=>g9 U (.move rfl .nil) fun Y U =>?_
 have ao:=al.numS 7 rfl
 refine plz (ecl U Tryz.func98 rfl (tw _ _ _ zs _ (by rw[hpm.length_eq,List.length_map];omega) (ao.into [(1,7)] (by decide) rfl)) ?_)
 rintro e aK ⟨rfl,aj⟩
 have ap:=ao.back aj [(7,1)] (by decide);clear aj ao
 have az:=ap.oz [7,1,2,8]
 refine⟨_,rfl,?_⟩;intro Y U
 refine znl<|hK4 _ _<|hC U (.move rfl<|.assign rfl .nil) fun Y U=>rt1 U ?_
 have ak:=az.mpClose (i:=2) rfl
 rw[ad] at ak
 rw[tv hpm] at ak
 rw[hpm.length_eq,← lc]
 rw[hpm.length_eq,← lc] at ak
 exact⟨_,_,rfl,ak.ren [(1,1),(2,2),(3,7)] (by decide)⟩
def CpV(x:VolV):Prop:=x.place.length≤1000000∧x.pins.length≤1000000∧x.ws.length≤1000000∧kK x.ws
theorem rA(X B G)(L:List VolV)(w0)(hV:∀ y∈L,CpV y)(hL9:L.length≤1000)(m0:MemOk X w0 [(1,.box B 87 [.map (some G)]),(2,.mp G 11 ((L).map iU) ((L).map ij))] w0) :
   Calls Tryz.prog 17 #[.pointer (some ⟨B,0,none⟩)] w0 fun e w' => ∃ (p:Option Addr) (c:Nat),e=.returned (.slice p ((j4 L).map ij).length c)∧MemOk X w0 [(1,.box B 87 [.map (some G)]),(2,.mp G 11 ((L).map iU) ((L).map ij)),(3,.dat (.slice p ((j4 L).map ij).length c) (.l 11 ((j4 L).map ij)))] w':=by
 refine i9 Tryz.func17 rfl Tryz.ntmps17 fun Y U=>hC U (.assign rfl .nil) fun Y U=>hC U (.assign rfl .nil) fun Y U=>wsk fun K0 hK0=>zsr fun K1 hK1=>g9 U (.move rfl .nil) fun Y U=>plz (ecl U Tryz.func51 rfl (xr _ _ _ L _ hL9 (m0.into [(1,1),(2,2)] (by decide) rfl)) ?_)
 rintro e w5 ⟨p5,c5,rfl,hm5⟩
 have mx5:=m0.back hm5 [(1,1),(2,2),(9,3)] (by decide);clear hm5 m0
 have m5:=mx5.oz [1,2,9]
 refine⟨_,rfl,?_⟩;intro Y U
 refine gz hK1 U (.len rfl U35<|.move rfl<|.nil) fun Y U=>wp_block<|wp_loop_ghost (fun g a w => ∃ (k:Nat) (p q:Option Addr) (c d:Nat),k≤(kc L).length∧g=(kc L).length - k∧Has 25 [(0,.pointer (some ⟨B,0,none⟩)),(3,.slice p (((j4 L).take k).map ij).length c),(7,.slice q (kc L).length d),(8,.int .i64 (kc L).length),(9,.int .i64 k)] a∧MemOk X w0 [(1,.box B 87 [.map (some G)]),(2,.mp G 11 ((L).map iU) ((L).map ij)),(9,.seg (.slice q (kc L).length d) 3 1 ((kc L).map nD)),(8,.row (.slice p (((j4 L).take k).map ij).length c) 51 11 (((j4 L).take k).map ij))] w) ((kc L).length) ?_ ?_
 · have mz:=m5.nilR 8 51 11
   exact⟨0,_,_,_,_,Nat.zero_le _,rfl,U.only [0,3,7,8,9],mz.ren [(1,1),(2,2),(9,9),(8,8)] (by decide)⟩
 clear U m5
 rintro g Y w9 ⟨k,p,q,c,d,hkl,hg,U,m9⟩
 refine hC U (.lss rfl rfl .nil) fun Y U=>wsk fun K2 hK2=>bc U 10 ?_ ?_
 ·
  intro aq U;try simp only [QQ,Qax] at aq
  have hk:k<(kc L).length:=by omega
  obtain⟨id,hid⟩:∃ z,(kc L)[k]? = some z:=⟨_,List.getElem?_eq_getElem hk⟩
  obtain⟨j,y,hj,hy,hay⟩:=q9 hid
  have hys:=hV y (List.mem_of_getElem? hj)
  have hll:(kc L).length=L.length:=by rw[lc,List.length_map]
  refine wct U<|zss<|hK2 _ _<|wsk fun K3 hK3=>wp_block<|zsr fun K4 hK4 =>?_
  obtain⟨aU,aV,aW,aH,aX,aI,ar⟩:=m9.openS (i:=9) rfl (k) (r:=[.v (.int .i64 id)]) (by rw[List.getElem?_map,hid];rfl)
  revert U
  cases aH
  rcases aI with _|⟨ad,_|_⟩
  obtain rfl:=ad.v_out
  clear ad
  intro U
  refine gz hK4 U (.c rfl (fun _ h_=>ii h_ rfl rfl U35 iG (k) rfl (by omega))<|.loadAt1 ar (q:=0) rfl rfl rfl U3 rfl<|.assign rfl<|.nil) fun Y U=>wp_region_lit<|g9 U (.move rfl<|.move rfl<|.nilCheck rfl<|.fa 0 rfl U87<|.lb m9 1 U85 rfl rfl rfl<|.move rfl .nil) fun Y U =>?_
  obtain⟨aY,aZ,ae,au,av,aJ⟩:=m9.mpOpen (i:=2) rfl
  clear m9 au av
  have aw:=jL ae ow
  obtain⟨bd,a0,ax,ay,aK,aL,az⟩:=aJ.mpeAt (i:=2) rfl (r:=[.v (.int .i64 y.vo),.v (.int .i64 y.bl),.v (.int .i64 y.sz),.v (.int .i64 y.pe),.ns .i64 y.place,.v (.int .i64 y.to),.v (.int .i64 y.ne),.v (.bool y.hi),.v (.int .i64 y.fl),.ns .i64 y.pins,.l 2 (y.ws.map wrD)]) (iT hj)
  have aA:=qP ae ax (j7 hj)
  clear aL az
  revert U
  rcases aK with _|⟨ag,_|⟨ah,_|⟨ai,_|⟨aj,_|⟨ab,_|⟨ak,_|⟨al,_|⟨ao,_|⟨ap,_|⟨ac,_|⟨aa,_|_⟩⟩⟩⟩⟩⟩⟩⟩⟩⟩⟩
  obtain rfl:=ag.v_out
  clear ag
  obtain rfl:=ah.v_out
  clear ah
  obtain rfl:=ai.v_out
  clear ai
  obtain rfl:=aj.v_out
  clear aj
  obtain⟨be,bf,aM,a1⟩:=ab.ns_shape;subst aM
  intro U
  have aQ:=aJ.dat 100 rfl (ab.cast (fun _ h=>h));clear aJ ab
  revert U
  obtain rfl:=ak.v_out
  clear ak
  obtain rfl:=al.v_out
  clear al
  obtain rfl:=ao.v_out
  clear ao
  obtain rfl:=ap.v_out
  clear ap
  obtain⟨bg,bh,aN,a2⟩:=ac.ns_shape;subst aN
  intro U
  have aR:=aQ.dat 101 rfl (ac.cast (fun _ h=>(ia rfl h)));clear aQ ac
  revert U
  obtain⟨bi,bj,aO,a3⟩:=aa.l_shape;subst aO
  intro U
  have aB:=aR.dat 102 rfl (aa.cast (fun _ h=>(ia rfl (ia rfl h))));clear aR aa
  refine g9 U (.c rfl (fun _ h_=>oZ h_ aB (i:=2) rfl rfl rfl U85 (KeyT.int (q:=.i64) U3) aw ax (aA.trans (ld hy)) ay) .nil) fun Y U=>plz (ecl U Tryz.func52 rfl (kL y.vo y.bl y.sz y.pe y.to y.ne y.fl y.hi y.place y.pins y.ws _ _ _ _ _ _ _ _ ((aB.rd (i:=100) rfl).any) ((aB.rd (i:=101) rfl).any) ((aB.rd (i:=102) rfl).any) hys.1 hys.2.1 hys.2.2.1 hys.2.2.2) ?_)
  rintro e bk ⟨a4,a5,a6,a7,a8,a9,rfl,aC,aD,aE,aF⟩
  have aG:=aB.callF3 103 104 105 rfl rfl rfl aF aC aD aE
  clear aC aD aE aF
  refine⟨_,rfl,?_⟩;intro Y U
  refine plz (iN U aG 106 (mm:=11) rfl (.cons rfl rfl (.cons (.v _) (.cons (.v _) (.cons (.v _) (.cons (.v _) (.cons (aG.rd (i:=103) rfl) (.cons (.v _) (.cons (.v _) (.cons (.v _) (.cons (.v _) (.cons (aG.rd (i:=104) rfl) (.cons (aG.rd (i:=105) rfl) .nil))))))))))) .nil) U30 jD rfl rfl rfl rfl rfl fun bm Y bn U ba =>?_)
  have aS:=ba.freezeR 106 rfl
  refine plz<|iM U aS 8 rfl rfl rfl (aS.rd (i:=106) rfl) U30 jD rfl rfl (by decide) (by have h8:((j4 L).take k).length≤k:=List.length_take_le _ _;rw[List.length_map];try simp only [List.length_cons,List.length_nil];omega) rfl fun bo bp Y bq U bb=>gz hK3 U (.assign rfl .nil) fun Y U =>?_
  replace U:=U.oz [0,3,7,8,9]
  refine wp_region_lit<|g9 U (.inc (k+1)<|.move rfl .nil) fun Y U=>wpList_nil ?_
  show ∃ n',n'<_∧_
  have aP:=bb.mpClose (i:=2) rfl
  rw[ae] at aP
  have hE:((j4 L).take k).map ij++[[.v (.int .i64 y.vo),.v (.int .i64 y.bl),.v (.int .i64 y.sz),.v (.int .i64 y.pe),.ns .i64 y.place,.v (.int .i64 y.to),.v (.int .i64 y.ne),.v (.bool y.hi),.v (.int .i64 y.fl),.ns .i64 y.pins,.l 2 (y.ws.map wrD)]]=((j4 L).take (k+1)).map ij:=(rF hay).symm
  rw[hE] at aP U
  exact⟨(kc L).length - (k+1),by omega,k+1,_,_,_,_,by omega,rfl,U.only [0,3,7,8,9],aP.ren [(1,1),(2,2),(9,9),(8,8)] (by decide)⟩
 intro aq U;try simp only [QQ,Qax] at aq
 revert U
 obtain rfl:k=(kc L).length:=by omega
 intro U
 refine wcf U<|wp_exit<|hK0 _ _<|hC U (.move rfl<|.assign rfl .nil) fun Y U=>rt1 U ?_
 have aT:=m9.freezeR 8 rfl
 rw[show(j4 L).take (kc L).length=j4 L from List.take_of_length_le (by rw[lL];exact Nat.le_refl _)] at aT ⊢
 exact⟨_,_,rfl,aT.ren [(1,1),(2,2),(3,8)] (by decide)⟩
theorem yR(X B G)(L:List VolV)(w0 n)(hn:n≤800000)(hV:∀ y∈L,VolS n y)(hL9:L.length≤1000)(m0:MemOk X w0 [(1,.box B 87 [.map (some G)]),(2,.mp G 11 ((L).map iU) ((L).map ij))] w0) :
   Calls Tryz.prog 17 #[.pointer (some ⟨B,0,none⟩)] w0 fun e w' => ∃ (p:Option Addr) (c:Nat),e=.returned (.slice p ((j4 L).map ij).length c)∧MemOk X w0 [(1,.box B 87 [.map (some G)]),(2,.mp G 11 ((L).map iU) ((L).map ij)),(3,.dat (.slice p ((j4 L).map ij).length c) (.l 11 ((j4 L).map ij)))] w':=
 rA X B G L w0 (fun y hy=>(hV y hy).cp hn) hL9 m0
end Go.Proofs.YtkehgingagggaaaGreat.K
end
