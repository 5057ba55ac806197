/- General laws of walks. -/
import Derived.Test.YtkehgingagggaaaGreatG15
import Derived.Test.YtkehgingagggaaaGreatG18
import Derived.Test.YtkehgingagggaaaGreatG12
import Derived.Test.YtkehgingagggaaaGreatG17
namespace Go.Proofs.YtkehgingagggaaaGreat.K
open Go.ChangeShapes Go.WideShapes Go.ChangeAt Go.RowKit
set_option linter.unusedVariables false
set_option linter.unusedSimpArgs false
set_option maxRecDepth 100000
set_option maxHeartbeats 4000000
set_option autoImplicit true
set_option relaxedAutoImplicit true
section
section
variable {P:Program} {ops:Array Oper} {Q:Exit→Act→World→Prop} {md:Region.Mode} {listed:Array Bool} {fuel e:Nat} {S:World→Prop} {a:Act} {w:World}
structure Eff where
 op:Nat
 dst:Nat
 r:Nat
 N:Nat
 d:D
def Gd(b:Bool)(N:Nat)(d:D)(v:Value)(R:Res):Prop:=(b=true→∃ (p:Option Addr) (c:Nat),v=.slice p N c∧R=.dat (.slice p N c) d)∧(b=false→R=.gone)
def JL(m:Nat):(List (Nat×Value)→List (Nat×Res)→Prop)→List Eff→Prop
 | G,[]=>G [] []
 | G,x :: l => ∃ v R,Gd (m.testBit x.op) x.N x.d v R∧JL m (fun T M=>G ((x.dst,v) :: T) ((x.r,R) :: M)) l
theorem mX(m i):(m ||| (1 <<< i)).testBit i=true:=by simp [Nat.testBit_or,Nat.one_shiftLeft,Nat.testBit_two_pow_self]
theorem qQ(m:Nat)(h:i≠j):(m ||| (1 <<< i)).testBit j=m.testBit j:=by simp [Nat.testBit_or,Nat.one_shiftLeft,Nat.testBit_two_pow_of_ne h]
theorem Gd.keep{m i j N:Nat}{R:Res}(g:Gd (m.testBit j) N d v R)(h:Nat.beq i j=false:=by rfl):Gd ((m ||| (1 <<< i)).testBit j) N d v R:=by
 rw[qQ m (fun e=>by subst e;simp at h)];exact g
theorem Gd.new(m i){c:Nat}:Gd ((m ||| (1 <<< i)).testBit i) N d (.slice p N c) (.dat (.slice p N c) d):=by
 rw[mX];exact⟨fun _=>⟨p,c,rfl,rfl⟩,(fun h=>by cases h)⟩
theorem Gd.none{b:Bool}(h:b=false:=by rfl):Gd b N d v .gone:=by subst h;exact⟨(fun h=>by cases h),fun _=>rfl⟩
theorem oa:∀ (E:List Nat) (m j:Nat),(mV m E).testBit j=(m.testBit j || E.contains j)
 | [],m,j=>by simp [mV]
 | i :: E,m,j=>by
   rw[mV,oa E]
   by_cases h:i=j
   · subst h;rw[mX];simp
   rw[qQ m h]
   have:((i :: E).contains j)=E.contains j:=by rw[List.contains_cons];simp [Ne.symm h]
   rw[this]
def yF(md:Region.Mode)(ops:Array Oper)(E:List Nat)(m0 m1:Nat):Bool:=
 (m1 == mV m0 E) && (E.all fun i => !(m0.testBit i) && Nat.blt i ops.size && match ops[i]? with
   | none=>false
   | some o=>o.after.all fun ed => !Region.binds md ed || (Nat.blt ed.on i && m1.testBit ed.on)) &&
 (List.range ops.size).all fun k=>m1.testBit k || (E.all fun i=>mU md ops k i)
theorem uP{J:Nat→Act→World→Prop}(E:List Nat)(m0 m1 k)(hE:yF md ops E m0 m1=true)(hc:jC md ops (lst ops.size m0)=true)(hnd:E.Nodup)(hJ:J m0 a w)(hS:∀ m a w,J m a w→S w)(hstep:∀ i∈E,∀ (m:Nat) (a:Act) (w:World) (oi:Oper),ops[i]? = some oi→m.testBit i=false→(∀ j,(oi.after.any fun ed=>Region.binds md ed && ed.on == j)=true→m.testBit j=true)→J m a w→Region.wanted oi (Go.yielded ops a.tmps)=true∧∀ K':Act→World→Prop,(∀ a' w',J (m ||| (1 <<< i)) a' w'→K' a' w')→Oper.wp P oi a w K' Q)(hend:∀ a w,J m1 a w→ik P md ops Q e S k (lst ops.size m1) a w)(hl:listed=lst ops.size m0:=by kernel_rfl)(hf:fuel=E.length+k:=by rfl):ik P md ops Q e S fuel listed a w:=by
 subst hl;subst hf
 simp only [yF,Bool.and_eq_true,beq_iff_eq,List.all_eq_true,List.mem_range] at hE
 obtain⟨⟨hm1,hEi⟩,hrest⟩:=hE
 have key:∀ (n m:Nat) (a:Act) (w:World),(E.filter fun i => !(m.testBit i)).length=n→Closed md ops (lst ops.size m)→(∀ j,j∉E→m.testBit j=m1.testBit j)→J m a w→ik P md ops Q e S (n+k) (lst ops.size m) a w:=by
   intro n
   induction n with
   | zero =>
     intro m a w hn _ hag hj
     have hall:∀ i∈E,m.testBit i=true:=fun i hi=>by
       cases h:m.testBit i with
       | true=>rfl
       | false =>
         have:i∈E.filter fun i => !(m.testBit i):=List.mem_filter.2 ⟨hi,by simp [h]⟩
         rw[List.length_eq_zero_iff.1 hn] at this;cases this
     have hmm:m=m1:=by
       apply Nat.eq_of_testBit_eq
       intro j
       by_cases hjE:j∈E
       · rw[hall j hjE,hm1,oa];simp [hjE]
       exact hag j hjE
     subst hmm
     rw[Nat.zero_add];exact hend a w hj
   | succ n ih =>
     intro m a w hn hcl hag hj
     have hsome:∃ i∈E,m.testBit i=false:=by
       rcases hq:E.filter fun i => !(m.testBit i) with _|⟨i,l⟩
       · rw[hq] at hn;cases hn
       have:i∈E.filter fun i => !(m.testBit i):=by rw[hq];exact List.mem_cons_self
       obtain⟨h1,h2⟩:=List.mem_filter.1 this
       exact⟨i,h1,by simpa using h2⟩
     -- the least of those that are left is ready
     have hready:∃ i,i∈Region.ready md ops (lst ops.size m):=by
       have hmin:∀ (b i:Nat),i≤b→i∈E→m.testBit i=false→∃ i,i∈E∧m.testBit i=false∧∀ j,j<i→j∈E→m.testBit j=true:=by
         intro b
         induction b with
         | zero=>exact fun i hi h1 h2=>⟨i,h1,h2,fun j hj=>by omega⟩
         | succ b ihb =>
           intro i hi h1 h2
           by_cases hex:∃ j,j<i∧j∈E∧m.testBit j=false
           · obtain⟨j,hj,h3,h4⟩:=hex;exact ihb j (by omega) h3 h4
           exact⟨i,h1,h2,fun j hj h3=>by
             cases h4:m.testBit j with
             | true=>rfl
             | false=>exact absurd ⟨j,hj,h3,h4⟩ hex⟩
       obtain⟨i0,h1,h2⟩:=hsome
       obtain⟨i,hiE,him,hlt⟩:=hmin i0 i0 (Nat.le_refl _) h1 h2
       obtain⟨⟨_,his⟩,hma⟩:=hEi i hiE
       rw[Nat.blt_eq] at his
       rw[Array.getElem?_eq_getElem his] at hma
       refine⟨i,oX (Array.getElem?_eq_getElem his) him (fun ed hed hb =>?_)⟩
       have h9:=(Array.all_eq_true_iff_forall_mem.1 hma) ed hed
       rw[hb] at h9
       simp only [Bool.not_true,Bool.false_or,Bool.and_eq_true,Nat.blt_eq] at h9
       refine⟨?_,by omega⟩
       by_cases hin:ed.on∈E
       · exact hlt _ h9.1 hin
       rw[hag _ hin];exact h9.2
     rw[show n+1+k=(n+k)+1 from by omega]
     refine⟨(fun h0=>by obtain⟨i,hi⟩:=hready;rw[h0] at hi;cases hi),fun i hi =>?_⟩
     obtain⟨hun,oi,hoi,hal⟩:=mem_ready.1 hi
     have his:i<ops.size:=(Array.getElem?_eq_some_iff.1 hoi).1
     have him:m.testBit i=false:=by rw[jy,if_pos his] at hun;exact hun
     have hiE:i∈E:=by
       by_cases h:i∈E
       · exact h
       exfalso
       obtain⟨j,hjE,hjm⟩:=hsome
       have h1:=hrest i his
       rw[← hag i h,him] at h1
       have h2:mU md ops i j=true:=by
         rcases Bool.or_eq_true_iff.1 h1 with h2|h2
         · cases h2
         exact List.all_eq_true.1 h2 j hjE
       have h3:=ll (hcl.set hi) h2 (by rw[k7,jy,if_pos his,mX])
       have hjs:j<ops.size:=by have:=(hEi j hjE).1.2;rwa [Nat.blt_eq] at this
       rw[k7,jy,if_pos hjs,qQ m (fun(hq:i=j)=>h (by rw[hq];exact hjE))] at h3
       rw[hjm] at h3;cases h3
     have hdep:∀ j,(oi.after.any fun ed=>Region.binds md ed && ed.on == j)=true→m.testBit j=true:=fun j hj=>by
       obtain⟨ed,hed,hb⟩:=Array.any_eq_true'.1 hj
       simp only [Bool.and_eq_true,beq_iff_eq] at hb
       have h1:=hal ed hed hb.1
       rw[hb.2] at h1
       by_cases hjs:j<ops.size
       · rw[jy,if_pos hjs] at h1;exact h1
       rw[jy,if_neg hjs] at h1;cases h1
     obtain⟨hw,hwp⟩:=hstep i hiE m a w oi hoi him hdep hj
     refine wpOp_step hoi (fun K' hK =>?_)
     rw[if_pos hw]
     refine hwp K' (fun a' w' hj'=>hK a' w' ⟨fun _=>hS _ _ _ hj',?_⟩)
     rw[k7]
     refine ih _ a' w' ?_ ?_ ?_ hj'
     · have hf:(E.filter fun j => !((m ||| (1 <<< i)).testBit j))=(E.filter fun j => !(m.testBit j)).erase i:=by
         rw[List.Nodup.erase_eq_filter (List.Pairwise.filter _ hnd),List.filter_filter]
         refine List.filter_congr (fun j hj =>?_)
         by_cases hij:i=j
         · subst hij;rw[mX];simp
         rw[qQ m hij];simp [Ne.symm hij]
       rw[hf,List.length_erase_of_mem (List.mem_filter.2 ⟨hiE,by simp [him]⟩),hn];rfl
     · rw[← k7];exact hcl.set hi
     intro j hj
     rw[qQ m (fun(hq:i=j)=>hj (by rw[← hq];exact hiE))];exact hag j hj
 refine key E.length m0 a w ?_ (jK hc) ?_ hJ
 · rw[List.filter_eq_self.2]
   intro i hi
   exact(hEi i hi).1.1
 intro j hj
 rw[hm1,oa];simp [hj]
theorem uQ{T:List (Nat×Value)}(effs:List Eff)(E:List Nat)(m0 m1 k)(ha:Has n T a)(hm:MemOk X w0 M w)(hE:yF md ops E m0 m1=true)(hc:jC md ops (lst ops.size m0)=true)(hnd:E.Nodup)(hJ:JL m0 (fun T' M'=>Has n (T'++T) a∧MemOk X w0 (M'++M) w) effs)(hS:∀ m a w,JL m (fun T' M'=>Has n (T'++T) a∧MemOk X w0 (M'++M) w) effs→S w)(hstep:∀ i∈E,∀ (m:Nat) (a:Act) (w:World) (oi:Oper),ops[i]? = some oi→m.testBit i=false→(∀ j,(oi.after.any fun ed=>Region.binds md ed && ed.on == j)=true→m.testBit j=true)→JL m (fun T' M'=>Has n (T'++T) a∧MemOk X w0 (M'++M) w) effs→Region.wanted oi (Go.yielded ops a.tmps)=true∧∀ K':Act→World→Prop,(∀ a' w',JL (m ||| (1 <<< i)) (fun T' M'=>Has n (T'++T) a'∧MemOk X w0 (M'++M) w') effs→K' a' w')→Oper.wp P oi a w K' Q)(hend:∀ a w,JL m1 (fun T' M'=>Has n (T'++T) a∧MemOk X w0 (M'++M) w) effs→ik P md ops Q e S k (lst ops.size m1) a w)(hl:listed=lst ops.size m0:=by kernel_rfl)(hf:fuel=E.length+k:=by rfl):ik P md ops Q e S fuel listed a w:=
 uP (J:=fun m a w=>JL m (fun T' M'=>Has n (T'++T) a∧MemOk X w0 (M'++M) w) effs) E m0 m1 k hE hc hnd hJ hS hstep hend hl hf
theorem JL.c{m:Nat}{G:List (Nat×Value)→List (Nat×Res)→Prop}{x:Eff}{l:List Eff}(v)(R:Res)(g:Gd (m.testBit x.op) x.N x.d v R)(h:JL m (fun T M=>G ((x.dst,v) :: T) ((x.r,R) :: M)) l):JL m G (x :: l):=⟨v,R,g,h⟩
theorem JL.z{G:List (Nat×Value)→List (Nat×Res)→Prop}(h:G [] []):JL m G []:=h
theorem JL.out{m:Nat}{G:List (Nat×Value)→List (Nat×Res)→Prop}{x:Eff}{l:List Eff}(h:JL m G (x :: l)):∃ v R,Gd (m.testBit x.op) x.N x.d v R∧JL m (fun T M=>G ((x.dst,v) :: T) ((x.r,R) :: M)) l:=h
theorem Gd.yes{b:Bool}{R:Res}(g:Gd b N d v R)(h:b=true):∃ (p:Option Addr) (c:Nat),v=.slice p N c∧R=.dat (.slice p N c) d:=g.1 h
theorem Has.own{T:List (Nat×Value)}(h:Has n T a)(d):Has n ((d,a.tmps.getD d undef) :: T) a:=⟨h.d,h.sz,fun t v hv=>by
 rw[iD] at hv
 split at hv
 · rename_i hq
   subst hq;cases hv;rfl
 exact h.h t v hv⟩
theorem MemOk.putGone(m:MemOk X w0 M w)(i):MemOk X w0 ((i,.gone) :: M) w:=
 m.upd i .gone (Keep.refl _ _) (fun b hb=>by cases hb) (fun _ _=>trivial)
end
end
section
def kS(b:Bool):Int:=if b then 1 else 0
theorem lJ(b:Bool):0≤kS b∧kS b≤1:=by cases b <;> decide
structure VP (x:VolV):Prop where
 h4:(0≤x.vo∧x.vo≤7)∧(0≤x.bl∧x.bl≤256)∧(0≤x.sz∧x.sz≤32)∧(0≤x.pe∧x.pe≤256)
 pl:x.place.length≤256∧∀ z∈x.place,0≤z∧z≤7
 h3:(0≤x.to∧x.to≤1099511627776)∧(0≤x.ne∧x.ne≤1099511627776)∧(0≤x.fl∧x.fl≤1099511627776)
 pn:x.pins.length≤60000∧∀ z∈x.pins,0≤z∧z≤1099511627776
 ws:x.ws.length≤60000
 it:∀ e∈x.ws,e.2.length≤8∧∀ y∈e.2,(0≤y.1∧y.1≤255)∧y.2.length≤32
def wE(w:PWr):List Int:=enc (w.2.length:Int)++ir w.2
def wsE(ws:List PWr):List Int:=ws.flatMap wE
def mc(x:VolV):List (List Int):=[im [x.vo,x.bl,x.sz,x.pe],im [(x.place.length:Int)]++im x.place,im [x.to,x.ne,kS x.hi,x.fl],im [(x.pins.length:Int)]++im x.pins,im [(x.ws.length:Int)]]
def jX(x:VolV):List Int:=(mc x).flatten
def ja(x:VolV):List Int:=jX x++wsE x.ws
def iR(L:List VolV):List Int:=im [(L.length:Int)]++L.flatMap ja
theorem q7(x):(mc x).flatten=jX x:=rfl
theorem kT(h:VP x):(jX x).length≤700000:=by
 have h1:=ic [x.vo,x.bl,x.sz,x.pe];have h2:=ic [(x.place.length:Int)];have h3:=ic x.place;have h4:=ic [x.to,x.ne,kS x.hi,x.fl];have h5:=ic [(x.pins.length:Int)];have h6:=ic x.pins;have h7:=ic [(x.ws.length:Int)]
 have h8:=h.pl.1;have h9:=h.pn.1
 simp only [jX,mc,List.flatten_cons,List.flatten_nil,List.length_append,List.length_cons,List.length_nil] at *
 omega
theorem sS(h:VP x):i4 (mc x)≤1000000:=by have:=kT h;unfold jX at this;unfold i4;omega
theorem pf{ws:List PWr}{xs:Int}{xl:List (Int×List Int)}(h:ws[k]? = some (xs,xl)):A++wsE (ws.take k)++(enc (xl.length:Int)++ir xl)=A++wsE (ws.take (k+1)):=by
 rw[List.take_add_one,h,List.append_assoc];simp [wsE,wE]
theorem ou{xl:List (Int×List Int)}(h:xl.length≤8∧∀ y∈xl,(0≤y.1∧y.1≤255)∧y.2.length≤32):(enc (xl.length:Int)++ir xl).length≤490:=by
 have h1:=kU xl h.2;have h2:=(i1 (xl.length:Int)).1;have:=h.1
 rw[List.length_append];omega
theorem ng:∀ {ws:List PWr},(∀ e∈ws,e.2.length≤8∧∀ y∈e.2,(0≤y.1∧y.1≤255)∧y.2.length≤32)→(wsE ws).length≤490*ws.length
 | [],_=>by simp [wsE]
 | e :: l,h=>by
   have h1:=ng (ws:=l) (fun x hx=>h x (List.mem_cons_of_mem _ hx));have h2:=ou (h e List.mem_cons_self)
   rw[show wsE (e :: l)=wE e++wsE l from List.flatMap_cons,List.length_append,List.length_cons]
   rw[show wE e=enc (e.2.length:Int)++ir e.2 from rfl];omega
theorem q8{x:VolV}(h:VP x)(k):(wsE (x.ws.take k)).length≤29400000:=by
 have h1:=ng (ws:=x.ws.take k) (fun e he=>h.it e (List.mem_of_mem_take he));have h2:=h.ws
 have h3:(x.ws.take k).length≤x.ws.length:=by rw[List.length_take];omega
 omega
theorem pg(h:VP x):(ja x).length≤30100000:=by
 have h1:=kT h;have h2:=ng h.it;have h3:=h.ws
 rw[ja,List.length_append];omega
theorem lK:∀ {l:List VolV},(∀ x∈l,VP x)→(l.flatMap ja).length≤30100000*l.length
 | [],_=>by simp
 | e :: l,h=>by
   have h1:=lK (l:=l) (fun x hx=>h x (List.mem_cons_of_mem _ hx));have h2:=pg (h e List.mem_cons_self)
   rw[List.flatMap_cons,List.length_append,List.length_cons];omega
theorem nh{Q:VolV→Prop}(h:∀ y∈L,Q y){z:VolV}(hz:z∈j4 L):Q z:=by
 obtain⟨k,hk⟩:=List.getElem?_of_mem hz
 have hk9:=(List.getElem?_eq_some_iff.1 hk).1
 rw[lL] at hk9
 obtain⟨j,y,h1,h2,h3⟩:=q9 (List.getElem?_eq_getElem hk9)
 rw[hk] at h3;cases h3
 exact h _ (List.mem_of_getElem? h1)
theorem nG{A:List VolV}(h:A[k]? = some y):B++((A.take k).flatMap ja++ja y)=B++(A.take (k+1)).flatMap ja:=by
 rw[List.take_add_one,h];simp
theorem zr{A:List PWr}{S:Nat→Prop}{w:World}{nn c:Nat}(h:Rd S w (.slice p nn c) (.l 2 (A.map wrD))):nn=A.length:=by obtain⟨pq,cq,hv,_⟩:=h.l_shape;injection hv with _ e2 _;rw[List.length_map] at e2;exact e2
theorem ov(l:List Int)(p)(c:Nat)(w0:World)(h0:Rd (fun _=>True) w0 (.slice p l.length c) (.ns .i64 l))(hl:l.length≤60000)(hb63:∀ z∈l,0≤z∧z≤9223372036854775807) :
   Calls Tryz.prog 105 #[.slice p l.length c] w0 fun e w' => ∃ (p:Option Addr) (c:Nat),e=.returned (.slice p (im [(l.length:Int)]++im l).length c)∧w'.ownsRow w0.heap.size 5 1 (.slice p (im [(l.length:Int)]++im l).length c) (im [(l.length:Int)]++im l).length ((im [(l.length:Int)]++im l).map (Value.int .u8))∧Below w0.heap.size w0 w':=by
 refine i9 Tryz.func105 rfl Tryz.ntmps105 fun Y U =>?_
 have m0:=MemOk.start (fun _=>False) w0
 refine hC U (.assign rfl .nil) fun Y U=>zsr fun K0 hK0=>g9 U (.move rfl<|.len rfl U48 .nil) fun Y U=>plz (iv U m0 20 (k:=.i64) rfl rfl U35 jI rfl rfl rfl rfl fun g6 Y w7 U m7 =>?_)
 have m8:=m7.freezeN 20 rfl
 refine plz<|ecn U Tryz.func57 rfl m8 21 (jS [(l.length:Int)] _ _ _ ((m8.rd (i:=20) rfl).any) (by simp) (l63 (fun z hz=>by simp at hz;subst hz;omega))) fun p9 c9 Y w9 U ab=>g9 U (.move rfl .nil) fun Y U=>plz (ecn U Tryz.func138 rfl ab 22 (vd l _ _ _ ((h0.now' ab rfl).any) (by omega) (l63 hb63)) fun ai aj Y ak U ae =>?_)
 have ag:=ae.freezeN 21 rfl
 have aa:=ag.freezeN 22 rfl
 refine plz (iN U aa 23 (mm:=1) rfl (.cons rfl rfl (.cons (aa.rd (i:=21) rfl) .nil)<|.cons rfl rfl (.cons (aa.rd (i:=22) rfl) .nil) .nil) U23 mS rfl rfl rfl rfl rfl fun al Y ao U ah =>?_)
 have ac:=ah.freezeR 23 rfl
 refine plz<|ecn U Tryz.func68 rfl ac 24 (j5 (ls:=[im [(l.length:Int)],im l]) (S:=im [(l.length:Int)]++im l) ((ac.rd (i:=23) rfl).any) (by simp) (by simp only [i4,List.flatten_cons,List.flatten_nil,List.length_append,List.length_nil];have:=ic [(l.length:Int)];have:=ic l;simp only [List.length_singleton] at *;omega) (by simp [j6,im])) fun ap aq Y ar U ad=>gz hK0 U (.assign rfl .nil) fun Y U=>rt1 U ?_
 exact⟨_,_,rfl,ad.ok 24 _ rfl,ad.below⟩
theorem yL(x:VolV)(hP:VP x)(pp pn pw:Option Addr)(cp cn9 nw cw:Nat)(w0:World)(h0:Rd (fun _=>True) w0 (.slice pp x.place.length cp) (.ns .i64 x.place))(h1:Rd (fun _=>True) w0 (.slice pn x.pins.length cn9) (.ns .i64 x.pins))(h2:Rd (fun _=>True) w0 (.slice pw nw cw) (.l 2 (x.ws.map wrD))) :
   Calls Tryz.prog 58 #[.agg #[.int .i64 x.vo,.int .i64 x.bl,.int .i64 x.sz,.int .i64 x.pe,.slice pp x.place.length cp,.int .i64 x.to,.int .i64 x.ne,.bool x.hi,.int .i64 x.fl,.slice pn x.pins.length cn9,.slice pw nw cw]] w0 fun e w' => ∃ (p:Option Addr) (c:Nat),e=.returned (.slice p (ja x).length c)∧w'.ownsRow w0.heap.size 5 1 (.slice p (ja x).length c) (ja x).length ((ja x).map (Value.int .u8))∧Below w0.heap.size w0 w':=by
 refine i9 Tryz.func58 rfl Tryz.ntmps58 fun Y U =>?_
 revert U
 obtain rfl:nw=x.ws.length:=zr h2
 intro U
 have m0:=MemOk.start (fun _=>False) w0
 refine zsr fun K0 hK0=>plz<|iu U m0 20 (cs:=[_,_,_,_,_,_,_,_,_,_,_]) rfl rfl rfl fun g1 Y w2 U m2 _ _=>gz hK0 U (.assign rfl .nil) fun Y U=>hC U (.assign rfl .nil) fun Y U=>wsk fun K1 hK1 =>?_
 have hC1:∀ (a:Act) (w:World),(∃ B1,Has 55 [(1,.pointer (some ⟨B1,0,none⟩)),(3,.int .i64 (kS x.hi))] a∧MemOk (cn w0) w0 [(7,.box B1 51 [.int .i64 x.vo,.int .i64 x.bl,.int .i64 x.sz,.int .i64 x.pe,.slice pp x.place.length cp,.int .i64 x.to,.int .i64 x.ne,.bool x.hi,.int .i64 x.fl,.slice pn x.pins.length cn9,.slice pw x.ws.length cw])] w)→K1 a w:=by
   clear U m2
   rintro Y w5 ⟨B1,U,m5⟩
   refine hK1 _ _<|wsk fun K2 hK2 =>?_
   have m6:=m5.oz [7]
   refine region_p 33 (B:=[(7,_)]) (m6.to i1l) m6 (by kernel_rfl) (fun w7 hP7 m7 =>?_);clear m6
   refine goR hP7 [0,1,2,3,4,5,6,7,10,11,13,14,15,16,17,18,19,22,23,25,26,27] [1,3,5,7,11,14,16,19,23,26] 22 0 248507647 U (m7.to i1l) (.fa 0 rfl U51<|.lb hh 7 U3 rfl rfl rfl<|.fa 1 rfl U51<|.lb hh 7 U3 rfl rfl rfl<|.fa 2 rfl U51<|.lb hh 7 U3 rfl rfl rfl<|.fa 3 rfl U51<|.lb hh 7 U3 rfl rfl rfl<|.fa 4 rfl U51<|.lb hh 7 U35 rfl rfl rfl<|.fa 5 rfl U51<|.lb hh 7 U3 rfl rfl rfl<|.fa 6 rfl U51<|.lb hh 7 U3 rfl rfl rfl<|.move rfl<|.fa 8 rfl U51<|.lb hh 7 U2 rfl rfl rfl<|.fa 9 rfl U51<|.lb hh 7 U48 rfl rfl rfl<|.fa 10 rfl U51<|.lb hh 7 U49 rfl rfl rfl<|.len rfl U49 .nil) fun Y U =>?_
   have Hzq:Has _ [(1,_),(3,_),(9,_),(10,_),(11,_),(12,_),(13,_),(14,_),(15,_),(16,_),(19,_),(20,_),(22,_),(23,_),(24,_),(25,_),(26,_),(27,_),(28,_),(31,_),(32,_),(34,_),(35,_),(36,_)] _:=U.only [1,3,9,10,11,12,13,14,15,16,19,20,22,23,24,25,26,27,28,31,32,34,35,36]
   have ay:MemOk _ _ [(7,_)] _:=m7.only [7]
   clear U m7
   refine uQ [⟨8,17,100,4,.ns .i64 [x.vo,x.bl,x.sz,x.pe]⟩,⟨9,18,101,(im [x.vo,x.bl,x.sz,x.pe]).length,.ns .u8 (im [x.vo,x.bl,x.sz,x.pe])⟩,⟨12,21,102,(im [(x.place.length:Int)]++im x.place).length,.ns .u8 (im [(x.place.length:Int)]++im x.place)⟩,⟨20,29,103,4,.ns .i64 [x.to,x.ne,kS x.hi,x.fl]⟩,⟨21,30,104,(im [x.to,x.ne,kS x.hi,x.fl]).length,.ns .u8 (im [x.to,x.ne,kS x.hi,x.fl])⟩,⟨24,33,105,(im [(x.pins.length:Int)]++im x.pins).length,.ns .u8 (im [(x.pins.length:Int)]++im x.pins)⟩,⟨28,37,106,1,.ns .i64 [(x.ws.length:Int)]⟩,⟨29,38,107,(im [(x.ws.length:Int)]).length,.ns .u8 (im [(x.ws.length:Int)])⟩] [8,9,12,20,21,24,28,29] 248507647 1073741823 3 Hzq ay (by kernel_rfl) (by kernel_rfl) (by decide) (JL.c _ _ (Gd.none (show Nat.testBit 248507647 8=false by kernel_rfl)) (JL.c _ _ (Gd.none (show Nat.testBit 248507647 9=false by kernel_rfl)) (JL.c _ _ (Gd.none (show Nat.testBit 248507647 12=false by kernel_rfl)) (JL.c _ _ (Gd.none (show Nat.testBit 248507647 20=false by kernel_rfl)) (JL.c _ _ (Gd.none (show Nat.testBit 248507647 21=false by kernel_rfl)) (JL.c _ _ (Gd.none (show Nat.testBit 248507647 24=false by kernel_rfl)) (JL.c _ _ (Gd.none (show Nat.testBit 248507647 28=false by kernel_rfl)) (JL.c _ _ (Gd.none (show Nat.testBit 248507647 29=false by kernel_rfl)) (JL.z ⟨((((((((Hzq.own 38).own 37).own 33).own 30).own 29).own 21).own 18).own 17),((((((((ay.putGone 107).putGone 106).putGone 105).putGone 104).putGone 103).putGone 102).putGone 101).putGone 100)⟩))))))))) (fun _ _ _ h9=>by obtain⟨_,_,_,_,_,_,_,_,_,_,_,_,_,_,_,_,_,_,_,_,_,_,_,_,_,Hm9⟩:=h9;exact Hm9.to i1l) (List.forall_mem_cons.2 ⟨?_,(List.forall_mem_cons.2 ⟨?_,(List.forall_mem_cons.2 ⟨?_,(List.forall_mem_cons.2 ⟨?_,(List.forall_mem_cons.2 ⟨?_,(List.forall_mem_cons.2 ⟨?_,(List.forall_mem_cons.2 ⟨?_,(List.forall_mem_cons.2 ⟨?_,(fun _ h9=>by cases h9)⟩)⟩)⟩)⟩)⟩)⟩)⟩)⟩) ?_
   ·
    clear Hzq ay
    rintro m9 Y bL oi9 ho9 hb9 hd9 ⟨va8,Ra8,ga8,va9,Ra9,ga9,ah,ai,aa,aj,ak,ab,al,ao,ac,ap,aq,ad,ar,au,ae,av,aw,ag,U,mq⟩
    cases ho9;clear hb9
    clear hd9;refine⟨rfl,fun K hK =>?_⟩
    refine iv U mq 108 (k:=.i64) rfl rfl U35 jI rfl rfl rfl rfl ?_
    clear U Y mq;intro bM Y bN U bj
    have bk:=bj.freezeN 108 rfl
    exact hK _ _ (JL.c _ _ (Gd.new _ 8) (JL.c _ _ ga9.keep (JL.c _ _ aa.keep (JL.c _ _ ab.keep (JL.c _ _ ac.keep (JL.c _ _ ad.keep (JL.c _ _ ae.keep (JL.c _ _ ag.keep (JL.z ⟨U.only [17,18,21,29,30,33,37,38,1,3,9,10,11,12,13,14,15,16,19,20,22,23,24,25,26,27,28,31,32,34,35,36],bk.ren [(100,108),(101,101),(102,102),(103,103),(104,104),(105,105),(106,106),(107,107),(7,7)] (by decide)⟩)))))))))
   ·
    clear Hzq ay
    rintro m9 Y bO oi9 ho9 hb9 hd9 ⟨va8,Ra8,ga8,va9,Ra9,ga9,ah,ai,aa,aj,ak,ab,al,ao,ac,ap,aq,ad,ar,au,ae,av,aw,ag,U,mq⟩
    cases ho9;clear hb9
    obtain⟨pa8,ca8,ea8,fa8⟩:=ga8.yes (hd9 8 (by kernel_rfl));subst ea8;subst fa8
    clear hd9;refine⟨rfl,fun K hK =>?_⟩
    refine iw U Tryz.func57 rfl rfl rfl rfl (jS [x.vo,x.bl,x.sz,x.pe] _ _ _ ((mq.rd (i:=100) rfl).any) (by simp) (l63 (fun z hz=>by simp at hz;have:=hP.h4;omega))) ?_
    rintro e bP ⟨bQ,bR,rfl,aH,aI⟩
    have bm:=mq.newN 108 aI aH
    clear mq
    refine⟨_,rfl,?_⟩;intro Y U
    have bn:=bm.freezeN 108 rfl
    exact hK _ _ (JL.c _ _ ga8.keep (JL.c _ _ (Gd.new _ 9) (JL.c _ _ aa.keep (JL.c _ _ ab.keep (JL.c _ _ ac.keep (JL.c _ _ ad.keep (JL.c _ _ ae.keep (JL.c _ _ ag.keep (JL.z ⟨U.only [17,18,21,29,30,33,37,38,1,3,9,10,11,12,13,14,15,16,19,20,22,23,24,25,26,27,28,31,32,34,35,36],bn.ren [(100,100),(101,108),(102,102),(103,103),(104,104),(105,105),(106,106),(107,107),(7,7)] (by decide)⟩)))))))))
   ·
    clear Hzq ay
    rintro m9 Y bS oi9 ho9 hb9 hd9 ⟨va8,Ra8,ga8,va9,Ra9,ga9,ah,ai,aa,aj,ak,ab,al,ao,ac,ap,aq,ad,ar,au,ae,av,aw,ag,U,mq⟩
    cases ho9;clear hb9
    obtain⟨pa9,ca9,ea9,fa9⟩:=ga9.yes (hd9 9 (by kernel_rfl));subst ea9;subst fa9
    clear hd9;refine⟨rfl,fun K hK =>?_⟩
    refine iw U Tryz.func69 rfl rfl rfl rfl (nH x.place _ _ _ ((h0.now' mq rfl).any) (by have:=hP.pl.1;omega) (fun z hz=>by have:=hP.pl.2 z hz;omega)) ?_
    rintro e bT ⟨bU,bV,rfl,aJ,aK⟩
    have bo:=mq.newN 108 aK aJ
    clear mq
    refine⟨_,rfl,?_⟩;intro Y U
    have bp:=bo.freezeN 108 rfl
    exact hK _ _ (JL.c _ _ ga8.keep (JL.c _ _ ga9.keep (JL.c _ _ (Gd.new _ 12) (JL.c _ _ ab.keep (JL.c _ _ ac.keep (JL.c _ _ ad.keep (JL.c _ _ ae.keep (JL.c _ _ ag.keep (JL.z ⟨U.only [17,18,21,29,30,33,37,38,1,3,9,10,11,12,13,14,15,16,19,20,22,23,24,25,26,27,28,31,32,34,35,36],bp.ren [(100,100),(101,101),(102,108),(103,103),(104,104),(105,105),(106,106),(107,107),(7,7)] (by decide)⟩)))))))))
   ·
    clear Hzq ay
    rintro m9 Y bW oi9 ho9 hb9 hd9 ⟨va8,Ra8,ga8,va9,Ra9,ga9,ah,ai,aa,aj,ak,ab,al,ao,ac,ap,aq,ad,ar,au,ae,av,aw,ag,U,mq⟩
    cases ho9;clear hb9
    clear hd9;refine⟨rfl,fun K hK =>?_⟩
    refine iv U mq 108 (k:=.i64) rfl rfl U35 jI rfl rfl rfl rfl ?_
    clear U Y mq;intro bX Y bY U bq
    have br:=bq.freezeN 108 rfl
    exact hK _ _ (JL.c _ _ ga8.keep (JL.c _ _ ga9.keep (JL.c _ _ aa.keep (JL.c _ _ (Gd.new _ 20) (JL.c _ _ ac.keep (JL.c _ _ ad.keep (JL.c _ _ ae.keep (JL.c _ _ ag.keep (JL.z ⟨U.only [17,18,21,29,30,33,37,38,1,3,9,10,11,12,13,14,15,16,19,20,22,23,24,25,26,27,28,31,32,34,35,36],br.ren [(100,100),(101,101),(102,102),(103,108),(104,104),(105,105),(106,106),(107,107),(7,7)] (by decide)⟩)))))))))
   ·
    clear Hzq ay
    rintro m9 Y bZ oi9 ho9 hb9 hd9 ⟨va8,Ra8,ga8,va9,Ra9,ga9,ah,ai,aa,aj,ak,ab,al,ao,ac,ap,aq,ad,ar,au,ae,av,aw,ag,U,mq⟩
    cases ho9;clear hb9
    obtain⟨aL,aM,aN,aO⟩:=ab.yes (hd9 20 (by kernel_rfl));subst aN;subst aO
    obtain⟨aP,aQ,aR,aS⟩:=aa.yes (hd9 12 (by kernel_rfl));subst aR;subst aS
    clear hd9;refine⟨rfl,fun K hK =>?_⟩
    refine iw U Tryz.func57 rfl rfl rfl rfl (jS [x.to,x.ne,kS x.hi,x.fl] _ _ _ ((mq.rd (i:=103) rfl).any) (by simp) (l63 (fun z hz=>by simp at hz;have:=hP.h3;have:=lJ x.hi;omega))) ?_
    rintro e b0 ⟨b1,b4,rfl,aT,aU⟩
    have bs:=mq.newN 108 aU aT
    clear mq
    refine⟨_,rfl,?_⟩;intro Y U
    have bt:=bs.freezeN 108 rfl
    exact hK _ _ (JL.c _ _ ga8.keep (JL.c _ _ ga9.keep (JL.c _ _ aa.keep (JL.c _ _ ab.keep (JL.c _ _ (Gd.new _ 21) (JL.c _ _ ad.keep (JL.c _ _ ae.keep (JL.c _ _ ag.keep (JL.z ⟨U.only [17,18,21,29,30,33,37,38,1,3,9,10,11,12,13,14,15,16,19,20,22,23,24,25,26,27,28,31,32,34,35,36],bt.ren [(100,100),(101,101),(102,102),(103,103),(104,108),(105,105),(106,106),(107,107),(7,7)] (by decide)⟩)))))))))
   ·
    clear Hzq ay
    rintro m9 Y b5 oi9 ho9 hb9 hd9 ⟨va8,Ra8,ga8,va9,Ra9,ga9,ah,ai,aa,aj,ak,ab,al,ao,ac,ap,aq,ad,ar,au,ae,av,aw,ag,U,mq⟩
    cases ho9;clear hb9
    obtain⟨aV,aW,aX,aY⟩:=ac.yes (hd9 21 (by kernel_rfl));subst aX;subst aY
    clear hd9;refine⟨rfl,fun K hK =>?_⟩
    refine iw U Tryz.func105 rfl rfl rfl rfl (ov x.pins _ _ _ ((h1.now' mq rfl).any) hP.pn.1 (fun z hz=>by have:=hP.pn.2 z hz;omega)) ?_
    rintro e b6 ⟨b7,b8,rfl,aZ,a0⟩
    have bu:=mq.newN 108 a0 aZ
    clear mq
    refine⟨_,rfl,?_⟩;intro Y U
    have bv:=bu.freezeN 108 rfl
    exact hK _ _ (JL.c _ _ ga8.keep (JL.c _ _ ga9.keep (JL.c _ _ aa.keep (JL.c _ _ ab.keep (JL.c _ _ ac.keep (JL.c _ _ (Gd.new _ 24) (JL.c _ _ ae.keep (JL.c _ _ ag.keep (JL.z ⟨U.only [17,18,21,29,30,33,37,38,1,3,9,10,11,12,13,14,15,16,19,20,22,23,24,25,26,27,28,31,32,34,35,36],bv.ren [(100,100),(101,101),(102,102),(103,103),(104,104),(105,108),(106,106),(107,107),(7,7)] (by decide)⟩)))))))))
   ·
    clear Hzq ay
    rintro m9 Y b9 oi9 ho9 hb9 hd9 ⟨va8,Ra8,ga8,va9,Ra9,ga9,ah,ai,aa,aj,ak,ab,al,ao,ac,ap,aq,ad,ar,au,ae,av,aw,ag,U,mq⟩
    cases ho9;clear hb9
    clear hd9;refine⟨rfl,fun K hK =>?_⟩
    refine iv U mq 108 (k:=.i64) rfl rfl U35 jI rfl rfl rfl rfl ?_
    clear U Y mq;intro ca Y cb U bw
    have bx:=bw.freezeN 108 rfl
    exact hK _ _ (JL.c _ _ ga8.keep (JL.c _ _ ga9.keep (JL.c _ _ aa.keep (JL.c _ _ ab.keep (JL.c _ _ ac.keep (JL.c _ _ ad.keep (JL.c _ _ (Gd.new _ 28) (JL.c _ _ ag.keep (JL.z ⟨U.only [17,18,21,29,30,33,37,38,1,3,9,10,11,12,13,14,15,16,19,20,22,23,24,25,26,27,28,31,32,34,35,36],bx.ren [(100,100),(101,101),(102,102),(103,103),(104,104),(105,105),(106,108),(107,107),(7,7)] (by decide)⟩)))))))))
   ·
    clear Hzq ay
    rintro m9 Y cc oi9 ho9 hb9 hd9 ⟨va8,Ra8,ga8,va9,Ra9,ga9,ah,ai,aa,aj,ak,ab,al,ao,ac,ap,aq,ad,ar,au,ae,av,aw,ag,U,mq⟩
    cases ho9;clear hb9
    obtain⟨a1,a2,a3,a4⟩:=ae.yes (hd9 28 (by kernel_rfl));subst a3;subst a4
    obtain⟨a5,a6,a7,a8⟩:=ad.yes (hd9 24 (by kernel_rfl));subst a7;subst a8
    clear hd9;refine⟨rfl,fun K hK =>?_⟩
    refine iw U Tryz.func57 rfl rfl rfl rfl (jS [(x.ws.length:Int)] _ _ _ ((mq.rd (i:=106) rfl).any) (by simp) (l63 (fun z hz=>by simp at hz;subst hz;have:=hP.ws;omega))) ?_
    rintro e cd ⟨ce,cf,rfl,a9,ba⟩
    have bz:=mq.newN 108 ba a9
    clear mq
    refine⟨_,rfl,?_⟩;intro Y U
    have bA:=bz.freezeN 108 rfl
    exact hK _ _ (JL.c _ _ ga8.keep (JL.c _ _ ga9.keep (JL.c _ _ aa.keep (JL.c _ _ ab.keep (JL.c _ _ ac.keep (JL.c _ _ ad.keep (JL.c _ _ ae.keep (JL.c _ _ (Gd.new _ 29) (JL.z ⟨U.only [17,18,21,29,30,33,37,38,1,3,9,10,11,12,13,14,15,16,19,20,22,23,24,25,26,27,28,31,32,34,35,36],bA.ren [(100,100),(101,101),(102,102),(103,103),(104,104),(105,105),(106,106),(107,108),(7,7)] (by decide)⟩)))))))))
   clear Hzq ay
   rintro Y cg ⟨va8,Ra8,ga8,va9,Ra9,ga9,ah,ai,aa,aj,ak,ab,al,ao,ac,ap,aq,ad,ar,au,ae,av,aw,ag,U,mq⟩
   revert U
   obtain⟨pa8,ca8,rfl,rfl⟩:=ga8.yes (show Nat.testBit 1073741823 8=true by kernel_rfl)
   obtain⟨pa9,ca9,rfl,rfl⟩:=ga9.yes (show Nat.testBit 1073741823 9=true by kernel_rfl)
   obtain⟨aP,aQ,rfl,rfl⟩:=aa.yes (show Nat.testBit 1073741823 12=true by kernel_rfl)
   obtain⟨aL,aM,rfl,rfl⟩:=ab.yes (show Nat.testBit 1073741823 20=true by kernel_rfl)
   obtain⟨aV,aW,rfl,rfl⟩:=ac.yes (show Nat.testBit 1073741823 21=true by kernel_rfl)
   obtain⟨a5,a6,rfl,rfl⟩:=ad.yes (show Nat.testBit 1073741823 24=true by kernel_rfl)
   obtain⟨a1,a2,rfl,rfl⟩:=ae.yes (show Nat.testBit 1073741823 28=true by kernel_rfl)
   obtain⟨bB,bC,rfl,rfl⟩:=ag.yes (show Nat.testBit 1073741823 29=true by kernel_rfl)
   intro U
   have aC:=mq
   refine so 30 ?_
   refine iN U aC 108 (mm:=1) rfl (.cons rfl rfl (.cons (aC.rd (i:=101) rfl) .nil)<|.cons rfl rfl (.cons (aC.rd (i:=102) rfl) .nil)<|.cons rfl rfl (.cons (aC.rd (i:=104) rfl) .nil)<|.cons rfl rfl (.cons (aC.rd (i:=105) rfl) .nil)<|.cons rfl rfl (.cons (aC.rd (i:=107) rfl) .nil) .nil) U23 mS rfl rfl rfl rfl rfl fun ch Y ci U bg=>⟨bg.to i1l,?_⟩
   have bh:=bg.freezeR 108 rfl
   refine so 31 ?_
   refine ecn U Tryz.func68 rfl bh 109 (j5 (ls:=mc x) (S:=jX x) ((bh.rd (i:=108) rfl).any) (by simp [mc]) (sS hP) (q7 x)) fun cj ck Y cl U aD=>⟨aD.to i1l,?_⟩
   refine goA hP7 [32] 1 4294967295 8589934591 U (aD.to i1l) (.assign rfl .nil) fun Y U=>wad<|hK2 _ _<|wsk fun K3 hK3 =>?_
   replace U:=U.oz [1,4]
   refine hC U (.fa 10 rfl U51<|.lb aD 7 U49 rfl rfl rfl<|.len rfl U49<|.move rfl .nil) fun Y U=>wp_block<|wp_loop_ghost (fun g a w => ∃ (k:Nat) (p:Option Addr) (c:Nat),k≤x.ws.length∧g=x.ws.length - k∧Has 55 [(4,.slice p (jX x++wsE (x.ws.take k)).length c),(42,.slice pw x.ws.length cw),(43,.int .i64 x.ws.length),(44,.int .i64 k)] a∧MemOk (cn w0) w0 [(8,.num (.slice p (jX x++wsE (x.ws.take k)).length c) 5 .u8 (jX x++wsE (x.ws.take k)))] w) (x.ws.length) ?_ ?_
   · rw[show jX x=jX x++wsE (x.ws.take 0) by simp [wsE]] at aD U
     exact⟨0,_,_,Nat.zero_le _,rfl,U.only [4,42,43,44],aD.ren [(8,109)] (by decide)⟩
   clear U aD
   rintro g Y cm ⟨k,p,c,hkl,hg,U,aE⟩
   refine hC U (.lss rfl rfl .nil) fun Y U=>wsk fun K4 hK4=>bc U 45 ?_ ?_
   ·
    intro aB U;try simp only [QQ,Qax] at aB
    have hk:k<x.ws.length:=by omega
    obtain⟨⟨xs,xl⟩,hes⟩:∃ e,x.ws[k]? = some e:=⟨_,List.getElem?_eq_getElem hk⟩
    have hx9:=hP.it _ (List.mem_of_getElem? hes)
    have hws:=hP.ws
    dsimp only at hx9
    refine wct U<|zss<|hK4 _ _<|wsk fun K5 hK5=>wp_block<|zsr fun K6 hK6 =>?_
    obtain⟨bE,bF,bG,bb,bH,bd,aF⟩:=h2.extA (k) (r:=[.v (.int .i64 xs),.l 2 (xl.map itD)]) (iI hes)
    revert U
    cases bb
    rcases bd with _|⟨az,_|⟨aA,_|_⟩⟩
    obtain rfl:=az.v_out
    clear az
    obtain⟨co,cq,be,bI⟩:=aA.l_shape;subst be
    intro U
    refine g9 U (.c rfl (fun _ h_=>ii h_ rfl rfl U49 jR (k) rfl hk)<|.loadAt (aF aE rfl) rfl j1 rfl jR .nil) fun Y U=>plz<|hZ U aE 201 qr rfl fun cr Y ct U bJ _ _=>plz (stw U bJ 201 jR fun cu bf _ =>?_)
    refine znl<|hK6 _ _<|wp_region_lit<|g9 U (.move rfl<|.fa 1 rfl j1<|.lb bf 201 U36 rfl rfl rfl .nil) fun Y U=>plz<|ecn U Tryz.func70 rfl bf 202 (ph xl _ _ _ _ ((aA.now' bf rfl).any) hx9.1 hx9.2) fun cv cy Y cz U bi=>plz<|iC U bi 8 rfl rfl rfl (bi.numsO (i:=202) rfl) U22 jU (by decide) (by have h8:=q8 hP k;have h9:=ou hx9;have h7:=kT hP;simp only [List.length_append] at *;omega) rfl fun cA cB Y bK U aG=>gz hK5 U (.assign rfl .nil) fun Y U =>?_
    replace U:=U.oz [4,42,43,44]
    refine wp_region_lit<|g9 U (.inc (k+1)<|.move rfl .nil) fun Y U=>wpList_nil ?_
    show ∃ n',n'<_∧_
    rw[pf hes] at aG U
    exact⟨x.ws.length - (k+1),by omega,k+1,_,_,by omega,rfl,U.only [4,42,43,44],aG.ren [(8,8)] (by decide)⟩
   intro aB U;try simp only [QQ,Qax] at aB
   revert U
   obtain rfl:k=x.ws.length:=by omega
   intro U
   refine wcf U<|wp_exit<|hK3 _ _<|hC U (.move rfl<|.assign rfl .nil) fun Y U=>rt1 U ?_
   rw[List.take_length] at aE
   rw[List.take_length]
   exact⟨_,_,rfl,aE.ok 8 _ rfl,aE.below⟩
 refine hC U (.fa 7 rfl U51<|.lb m2 20 U4 rfl rfl rfl .nil) fun Y U=>bc U 8 ?_ ?_
 ·
  intro ax U;try simp only [QQ,Qax] at ax
  have hhi:x.hi=true:=ax
  refine wct U<|wp_region_lit<|g9 U (.assign rfl .nil) fun Y U=>wpList_nil ?_
  show K1 _ _
  exact hC1 _ _ ⟨_,by have h9:=U.only [1,3];rw[show kS x.hi=1 by rw[hhi];rfl];exact h9,m2.ren [(7,20)] (by decide)⟩
 intro ax U;try simp only [QQ,Qax] at ax
 have hhi:x.hi=false:=ax
 refine wcf U<|wp_skip ?_
 show K1 _ _
 exact hC1 _ _ ⟨_,by have h9:=U.only [1,3];rw[show kS x.hi=0 by rw[hhi];rfl];exact h9,m2.ren [(7,20)] (by decide)⟩
theorem pj(X B G)(L:List VolV)(w0)(hV:∀ y∈L,VP y)(hL9:L.length≤8)(m0:MemOk X w0 [(1,.box B 87 [.map (some G)]),(2,.mp G 11 ((L).map iU) ((L).map ij))] w0) :
   Calls Tryz.prog 22 #[.pointer (some ⟨B,0,none⟩)] w0 fun e w' => ∃ (p:Option Addr) (c:Nat),e=.returned (.slice p (iR (j4 L)).length c)∧MemOk X w0 [(1,.box B 87 [.map (some G)]),(2,.mp G 11 ((L).map iU) ((L).map ij)),(3,.dat (.slice p (iR (j4 L)).length c) (.ns .u8 (iR (j4 L))))] w':=by
 refine i9 Tryz.func22 rfl Tryz.ntmps22 fun Y U=>hC U (.assign rfl .nil) fun Y U=>zsr fun K0 hK0=>g9 U (.move rfl<|.nilCheck rfl<|.fa 0 rfl U87<|.lb m0 1 U85 rfl rfl rfl<|.c rfl (fun _ h_=>xe h_ m0 (i:=2) rfl rfl U85) .nil) fun Y U=>plz (iv U m0 20 (k:=.i64) rfl rfl U35 jI rfl rfl rfl rfl fun a7 Y a8 U aV =>?_)
 have aR:=aV.freezeN 20 rfl
 refine plz<|ecn U Tryz.func57 rfl aR 21 (jS [((L.map iU).length:Int)] _ _ _ ((aR.rd (i:=20) rfl).any) (by simp) (l63 (fun z hz=>by simp at hz;subst hz;omega))) fun a9 ba Y bb U aE=>gz hK0 U (.assign rfl .nil) fun Y U=>wsk fun K1 hK1 =>?_
 replace U:=U.oz [0,2,3]
 refine zsr fun K2 hK2=>g9 U (.move rfl .nil) fun Y U=>plz (ecl U Tryz.func51 rfl (xr _ _ _ L _ (by omega) (aE.into [(1,1),(2,2)] (by decide) rfl)) ?_)
 rintro e bd ⟨be,bf,rfl,ar⟩
 have aF:=aE.back ar [(1,1),(2,2),(9,3)] (by decide);clear ar aE
 have aG:=aF.oz [1,2,9,20,21]
 refine⟨_,rfl,?_⟩;intro Y U
 refine gz hK2 U (.len rfl U35<|.move rfl<|.nil) fun Y U=>wp_block<|wp_loop_ghost (fun g a w => ∃ (k:Nat) (p q:Option Addr) (c d:Nat),k≤(kc L).length∧g=(kc L).length - k∧Has 31 [(0,.pointer (some ⟨B,0,none⟩)),(3,.slice p (im [(L.length:Int)]++((j4 L).take k).flatMap ja).length c),(14,.slice q (kc L).length d),(15,.int .i64 (kc L).length),(16,.int .i64 k)] a∧MemOk X w0 [(1,.box B 87 [.map (some G)]),(2,.mp G 11 ((L).map iU) ((L).map ij)),(9,.seg (.slice q (kc L).length d) 3 1 ((kc L).map nD)),(8,.num (.slice p (im [(L.length:Int)]++((j4 L).take k).flatMap ja).length c) 5 .u8 (im [(L.length:Int)]++((j4 L).take k).flatMap ja))] w) ((kc L).length) ?_ ?_
 · rw[show im [((L.map iU).length:Int)]=im [(L.length:Int)]++((j4 L).take 0).flatMap ja by simp] at aG U
   exact⟨0,_,_,_,_,Nat.zero_le _,rfl,U.only [0,3,14,15,16],aG.ren [(1,1),(2,2),(9,9),(8,21)] (by decide)⟩
 clear U aG
 rintro g Y bg ⟨k,p,q,c,d,hkl,hg,U,au⟩
 refine hC U (.lss rfl rfl .nil) fun Y U=>wsk fun K3 hK3=>bc U 17 ?_ ?_
 ·
  intro aq U;try simp only [QQ,Qax] at aq
  have hk:k<(kc L).length:=by omega
  obtain⟨id,hid⟩:∃ z,(kc L)[k]? = some z:=⟨_,List.getElem?_eq_getElem hk⟩
  obtain⟨j,y,hj,hy,hay⟩:=q9 hid
  have hPy:=hV y (List.mem_of_getElem? hj)
  have hll:(kc L).length=L.length:=by rw[lc,List.length_map]
  refine wct U<|zss<|hK3 _ _<|wsk fun K4 hK4=>wp_block<|zsr fun K5 hK5 =>?_
  obtain⟨aW,aX,aY,aH,aZ,aI,av⟩:=au.openS (i:=9) rfl (k) (r:=[.v (.int .i64 id)]) (by rw[List.getElem?_map,hid];rfl)
  revert U
  cases aH
  rcases aI with _|⟨ad,_|_⟩
  obtain rfl:=ad.v_out
  clear ad
  intro U
  refine gz hK5 U (.c rfl (fun _ h_=>ii h_ rfl rfl U35 iG (k) rfl (by omega))<|.loadAt1 av (q:=0) rfl rfl rfl U3 rfl<|.assign rfl<|.nil) fun Y U=>wp_region_lit<|g9 U (.move rfl<|.move rfl<|.nilCheck rfl<|.fa 0 rfl U87<|.lb au 1 U85 rfl rfl rfl<|.move rfl .nil) fun Y U =>?_
  obtain⟨a0,a1,ae,aw,ax,aJ⟩:=au.mpOpen (i:=2) rfl
  clear au aw ax
  have ay:=jL ae ow
  obtain⟨bh,a2,az,aA,aK,aL,aB⟩:=aJ.mpeAt (i:=2) rfl (r:=[.v (.int .i64 y.vo),.v (.int .i64 y.bl),.v (.int .i64 y.sz),.v (.int .i64 y.pe),.ns .i64 y.place,.v (.int .i64 y.to),.v (.int .i64 y.ne),.v (.bool y.hi),.v (.int .i64 y.fl),.ns .i64 y.pins,.l 2 (y.ws.map wrD)]) (iT hj)
  have aC:=qP ae az (j7 hj)
  clear aL aB
  revert U
  rcases aK with _|⟨ag,_|⟨ah,_|⟨ai,_|⟨aj,_|⟨ab,_|⟨ak,_|⟨al,_|⟨ao,_|⟨ap,_|⟨ac,_|⟨aa,_|_⟩⟩⟩⟩⟩⟩⟩⟩⟩⟩⟩
  obtain rfl:=ag.v_out
  clear ag
  obtain rfl:=ah.v_out
  clear ah
  obtain rfl:=ai.v_out
  clear ai
  obtain rfl:=aj.v_out
  clear aj
  obtain⟨bi,bj,aM,a3⟩:=ab.ns_shape;subst aM
  intro U
  have aS:=aJ.dat 100 rfl (ab.cast (fun _ h=>h));clear aJ ab
  revert U
  obtain rfl:=ak.v_out
  clear ak
  obtain rfl:=al.v_out
  clear al
  obtain rfl:=ao.v_out
  clear ao
  obtain rfl:=ap.v_out
  clear ap
  obtain⟨bk,bm,aN,a4⟩:=ac.ns_shape;subst aN
  intro U
  have aT:=aS.dat 101 rfl (ac.cast (fun _ h=>(ia rfl h)));clear aS ac
  revert U
  obtain⟨bn,bo,aO,a5⟩:=aa.l_shape;subst aO
  intro U
  have aD:=aT.dat 102 rfl (aa.cast (fun _ h=>(ia rfl (ia rfl h))));clear aT aa
  refine g9 U (.c rfl (fun _ h_=>oZ h_ aD (i:=2) rfl rfl rfl U85 (KeyT.int (q:=.i64) U3) ay az (aC.trans (ld hy)) aA) .nil) fun Y U=>plz<|ecn U Tryz.func58 rfl aD 103 (yL y hPy _ _ _ _ _ _ _ _ ((aD.rd (i:=100) rfl).any) ((aD.rd (i:=101) rfl).any) ((aD.rd (i:=102) rfl).any)) fun bp bq Y br U aU=>plz<|iC U aU 8 rfl rfl rfl (aU.numsO (i:=103) rfl) U22 jU (by decide) (by have h8:=lK (l:=(j4 L).take k) (fun z hz=>nh hV (List.mem_of_mem_take hz));have h7:=pg hPy;have h6:((j4 L).take k).length≤k:=List.length_take_le _ _;have h5:=ic [(L.length:Int)];simp only [List.length_append,List.length_singleton] at *;omega) rfl fun bs bt Y bu U a6=>gz hK4 U (.assign rfl .nil) fun Y U =>?_
  replace U:=U.oz [0,3,14,15,16]
  refine wp_region_lit<|g9 U (.inc (k+1)<|.move rfl .nil) fun Y U=>wpList_nil ?_
  show ∃ n',n'<_∧_
  have aP:=a6.mpClose (i:=2) rfl
  rw[ae] at aP
  rw[List.append_assoc,nG hay] at aP U
  exact⟨(kc L).length - (k+1),by omega,k+1,_,_,_,_,by omega,rfl,U.only [0,3,14,15,16],aP.ren [(1,1),(2,2),(9,9),(8,8)] (by decide)⟩
 intro aq U;try simp only [QQ,Qax] at aq
 revert U
 obtain rfl:k=(kc L).length:=by omega
 intro U
 refine wcf U<|wp_exit<|hK1 _ _<|hC U (.move rfl<|.assign rfl .nil) fun Y U=>rt1 U ?_
 have aQ:=au.freezeN 8 rfl
 rw[show(j4 L).take (kc L).length=j4 L from List.take_of_length_le (by rw[lL];exact Nat.le_refl _)] at aQ ⊢
 rw[show(L.length:Int)=((j4 L).length:Int) by rw[lL,lc,List.length_map]] at aQ ⊢
 exact⟨_,_,rfl,aQ.ren [(1,1),(2,2),(3,8)] (by decide)⟩
end
section
def isE(l:List (Int×List Int)):List Int:=enc (l.length:Int)++ir l
def isD(l:List (Int×List Int)):List D:=[.l 2 (l.map itD)]
theorem ve(ws:List PWr):(ws.map (·.2)).flatMap isE=wsE ws:=by
 rw[List.flatMap_map];rfl
theorem xt(b:Bool):(decide (kS b=1))=b:=by cases b <;> rfl
def wsN(W:List (List (Int×List Int))):List PWr:=W.zipIdx.map (fun x=>((x.2:Int)+1,x.1))
theorem lf(W:List (List (Int×List Int))):(wsN W).length=W.length:=by simp [wsN]
theorem ra{W:List (List (Int×List Int))}{k:Nat}(h:W[k]? = some xl):(wsN W)[k]? = some ((k:Int)+1,xl):=by
 obtain⟨hk,e⟩:=List.getElem?_eq_some_iff.1 h
 simp [wsN,List.getElem?_map,List.getElem?_zipIdx,h]
theorem sT{W:List (List (Int×List Int))}{xl:List (Int×List Int)}(h:W[k]? = some xl):(((wsN W).take k).map wrD)++[[.v (.int .i64 ((k+1:Nat):Int)),.l 2 (xl.map itD)]]=((wsN W).take (k+1)).map wrD:=by
 rw[List.take_add_one,ra h,List.map_append];rfl
theorem rb{W:List (List (Int×List Int))}:(wsN W).take W.length=wsN W:=List.take_of_length_le (by rw[lf];exact Nat.le_refl _)
theorem re{W:List (List (Int×List Int))}(h:∀ xl∈W,xl.length≤1000000∧∀ e∈xl,BytesL e.2):(∀ e∈wsN W,e.2.length≤1000000)∧WBy (wsN W):=by
 have key:∀ e∈wsN W,e.2∈W:=fun e he=>by
   obtain⟨x,hx,rfl⟩:=List.mem_map.1 he
   exact(List.mem_zipIdx' hx).2 ▸ List.getElem_mem _
 exact⟨fun e he=>(h _ (key e he)).1,fun e he=>(h _ (key e he)).2⟩
theorem xu{W:List (List (Int×List Int))}{k:Nat}{xl:List (Int×List Int)}(h:W[k]? = some xl):(W.map isD)[k]? = some [.l 2 (xl.map itD)]:=by rw[List.getElem?_map,h];rfl
theorem vf(W:List (List (Int×List Int)))(x:List (Int×List Int)):(wsN (W++[x])).map wrD=(wsN W).map wrD++[[.v (.int .i64 ((W.length:Int)+1)),.l 2 (x.map itD)]]:=by
 rw[wsN,List.zipIdx_append,List.map_append,List.map_append];simp [wsN,wrD]
theorem xw{ws:List PWr}(h:∀ (k:Nat) (w:PWr),ws[k]? = some w→w.1=(k:Int)+1):wsN (ws.map (·.2))=ws:=by
 apply List.ext_getElem?;intro k
 cases hk:ws[k]? with
 | none=>rw[List.getElem?_eq_none];rw[lf,List.length_map];exact List.getElem?_eq_none_iff.1 hk
 | some w=>rw[ra (xl:=w.2) (by rw[List.getElem?_map,hk];rfl),← h k w hk]
theorem rg{b b1 b2 b3 b4 b5 b6 b7 b8 b9 b10 b11 pl l:List Int}{W:List (List (Int×List Int))}{er e1 e2 e3 e4 e5 e6 e7 e8 e9 e10 e11 u1 u2 u3 u4 u6 u7 u8 u9:Int}(h1:∀ z,0≤z→z≤8→XE b er (enc z) (u1=z) b1 e1)(h2:∀ z,0≤z→z≤256→XE b1 e1 (enc z) (u2=z) b2 e2)(h3:∀ z,0≤z→z≤32→XE b2 e2 (enc z) (u3=z) b3 e3)(h4:∀ z,0≤z→z≤256→XE b3 e3 (enc z) (u4=z) b4 e4)(h5:∀ z:List Int,z.length≤256→(∀ y∈z,(fun y:Int=>0≤y∧y≤8) y)→XE b4 e4 (enc z.length++z.flatMap enc) (pl=z) b5 e5)(h6:∀ z,0≤z→z≤1099511627776→XE b5 e5 (enc z) (u6=z) b6 e6)(h7:∀ z,0≤z→z≤1099511627776→XE b6 e6 (enc z) (u7=z) b7 e7)(h8:∀ z,0≤z→z≤1→XE b7 e7 (enc z) (u8=z) b8 e8)(h9:∀ z,0≤z→z≤1099511627776→XE b8 e8 (enc z) (u9=z) b9 e9)(h10:∀ z:List Int,z.length≤2147483648→(∀ y∈z,(fun y:Int=>0≤y∧y≤1099511627776) y)→XE b9 e9 (enc z.length++z.flatMap enc) (l=z) b10 e10)(h11:∀ z:List (List (Int×List Int)),z.length≤2147483648→(∀ y∈z,(fun x:List (Int×List Int)=>x.length≤8∧∀ y∈x,(0≤y.1∧y.1≤256)∧(y.2.length:Int)≤32) y)→XE b10 e10 (enc z.length++z.flatMap isE) (W=z) b11 e11):∀ y:VolV,VP y→(∀ (k:Nat) (w:PWr),y.ws[k]? = some w→w.1=(k:Int)+1)→XE b er (ja y) ((⟨u1,u2,u3,u4,pl,u6,u7,decide (u8=1),u9,l,wsN W⟩:VolV)=y) b11 e11:=fun y hP hS T h0 hb=>by
 have hd:=lJ y.hi
 have h:=((((((((((h1 y.vo (by have:=hP.h4;omega) (by have:=hP.h4;omega)).tr (h2 y.bl (by have:=hP.h4;omega) (by have:=hP.h4;omega))).tr (h3 y.sz (by have:=hP.h4;omega) (by have:=hP.h4;omega))).tr (h4 y.pe (by have:=hP.h4;omega) (by have:=hP.h4;omega))).tr (h5 y.place hP.pl.1 (fun z hz=>by have:=hP.pl.2 z hz;exact⟨this.1,by omega⟩))).tr (h6 y.to (by have:=hP.h3;omega) (by have:=hP.h3;omega))).tr (h7 y.ne (by have:=hP.h3;omega) (by have:=hP.h3;omega))).tr (h8 (kS y.hi) hd.1 hd.2)).tr (h9 y.fl (by have:=hP.h3;omega) (by have:=hP.h3;omega))).tr (h10 y.pins (by have:=hP.pn.1;omega) (fun z hz=>hP.pn.2 z hz))).tr (h11 (y.ws.map (·.2)) (by rw[List.length_map];have:=hP.ws;omega) (fun x hx=>by
   obtain⟨e,he,rfl⟩:=List.mem_map.1 hx
   exact⟨(hP.it e he).1,fun z hz=>by have:=(hP.it e he).2 z hz;exact⟨⟨this.1.1,by omega⟩,by omega⟩⟩))
 rw[ve,List.length_map] at h
 obtain⟨⟨⟨⟨⟨⟨⟨⟨⟨⟨⟨p1,p2⟩,p3⟩,p4⟩,p5⟩,p6⟩,p7⟩,p8⟩,p9⟩,p10⟩,p11⟩,hr⟩:=h T h0 (by rw[hb];simp [ja,jX,mc,im])
 exact⟨by rw[p1,p2,p3,p4,p5,p6,p7,p8,p9,p10,p11,xt,xw hS],hr⟩
end
section
theorem vZ:iO Tryz.prog 51 [.int .i64 0,.int .i64 0,.int .i64 0,.int .i64 0,.slice none 0 0,.int .i64 0,.int .i64 0,.bool false,.int .i64 0,.slice none 0 0,.slice none 0 0]=true:=by kernel_rfl
theorem tA:iO Tryz.prog 103 [.int .i64 0,.slice none 0 0]=true:=by kernel_rfl
theorem tB(X B)(b:List Int)(er p)(c:Nat)(w0)(hb:b.length≤1000000)(hbb:BytesL b)(m0:MemOk X w0 [(1,.box B 148 [.slice p (b).length c,.int .i64 er]),(2,.dat (.slice p (b).length c) (.ns .u8 (b)))] w0) :
   Calls Tryz.prog 108 #[.pointer (some ⟨B,0,none⟩),.func (.func 74) #[] #[]] w0 fun e w' => ∃ (l b':List Int) (er':Int) (p':Option Addr) (c':Nat) (p3:Option Addr) (c3:Nat),e=.returned (.slice p3 l.length c3)∧l.length≤b.length∧(∀ z∈l,0≤z∧z≤1099511627776)∧(∀ z:List Int,z.length≤2147483648→(∀ y∈z,(fun y:Int=>0≤y∧y≤1099511627776) y)→XE b er (enc z.length++z.flatMap enc) (l=z) b' er')∧RdN b er b' er'∧MemOk X w0 [(1,.box B 148 [.slice p' (b').length c',.int .i64 er']),(2,.dat (.slice p' (b').length c') (.ns .u8 (b'))),(3,.dat (.slice p3 l.length c3) (.ns .i64 l))] w':=by
 refine iZ Tryz.func108 rfl Tryz.ntmps108 fun Y U=>hC U (.assign rfl .nil) fun Y U=>hC U (.assign rfl .nil) fun Y U=>wsk fun K0 hK0=>zsr fun K1 hK1=>g9 U (.move rfl .nil) fun Y U=>plz (ecl U Tryz.func60 rfl (lV _ _ b er 1099511627776 _ _ _ hb hbb (m0.into [(1,1),(2,2)] (by decide) rfl)) ?_)
 rintro e w5 ⟨xq5,bq5,eq5,p5,c5,rfl,hxq5,hX5,hq5,hm5⟩
 have mx5:=m0.back hm5 [(1,1),(2,2)] (by decide);clear hm5 m0
 have m5:=mx5.oz [1,2]
 refine⟨_,rfl,?_⟩;intro Y U
 have hlq5:bq5.length≤1000000:=Nat.le_trans hq5.1 hb
 refine gz hK1 U (.move rfl .nil) fun Y U=>wp_block<|wp_loop_ghost (fun g a w => ∃ (k:Nat) (b1:List Int) (e1:Int) (l:List Int) (p1:Option Addr) (c1:Nat) (p3:Option Addr) (c3:Nat),l.length=k∧XL enc (fun y:Int=>0≤y∧y≤1099511627776) 2147483648 b er xq5 l b1 e1∧(k:Int)≤xq5∧l.length+b1.length≤b.length∧RdN b er b1 e1∧(∀ z∈l,0≤z∧z≤1099511627776)∧g=b1.length∧Has 23 [(0,.pointer (some ⟨B,0,none⟩)),(1,.func (.func 74) #[] #[]),(5,.slice p3 l.length c3),(8,.int .u64 xq5),(9,.int .u64 (k:Int))] a∧MemOk X w0 [(1,.box B 148 [.slice p1 (b1).length c1,.int .i64 e1]),(2,.dat (.slice p1 (b1).length c1) (.ns .u8 (b1))),(7,.num (.slice p3 l.length c3) 2 .i64 l)] w) (bq5.length) ?_ ?_
 · have mz:=m5.nilN 7 2 .i64
   exact⟨0,bq5,_,[],_,_,_,_,rfl,XL.start hX5,by omega,by simp;exact hq5.1,hq5,(fun z h=>by cases h),rfl,U.only [0,1,5,8,9],mz.ren [(1,1),(2,2),(7,7)] (by decide)⟩
 clear U m5
 rintro g Y w8 ⟨k,b1,e1,l,p1,c1,p3,c3,hlk,hxl,hkl,hlb,hR1,hall,hg,U,m8⟩
 refine hC U (.lss rfl rfl .nil) fun Y U=>wsk fun K2 hK2=>bc U 10 ?_ ?_
 ·
  intro ad U;try simp only [QQ,Qax] at ad
  have hk:(k:Int)<xq5:=by omega
  have hb1:b1.length≤1000000:=Nat.le_trans hR1.1 hb
  have hbb1:=hR1.2.1
  have h1le:=hR1.1
  refine wct U<|zss<|hK2 _ _<|wsk fun K3 hK3=>wp_block<|zsr fun K4 hK4=>g9 U (.move rfl<|.move rfl .nil) fun Y U=>plz (kE U rfl Tryz.func74 rfl rfl rfl rfl (rI _ _ b1 _ _ _ _ hb1 hbb1 (m8.into [(1,1),(2,2)] (by decide) rfl)) ?_)
  rintro e az ⟨av,ab,aj,aA,aB,rfl,ae,ag,ac,ah⟩
  have ak:=m8.back ah [(1,1),(2,2)] (by decide);clear ah m8
  have al:=ak.oz [1,2,7]
  refine⟨_,rfl,?_⟩;intro Y U
  have ap:ab.length≤1000000:=Nat.le_trans ac.1 hb1
  refine gz hK4 U (.assign rfl .nil) fun Y U=>wsk fun K5 hK5=>zsr fun K6 hK6=>g9 U (.move rfl .nil) fun Y U=>plz (ecl U Tryz.func62 rfl (lQ _ _ _ _ _ _ _ (al.into [(1,1),(2,2)] (by decide) rfl)) ?_)
  rintro e aC ⟨rfl,ai⟩
  have ao:=al.back ai [(1,1),(2,2)] (by decide);clear ai al
  have aq:=ao.oz [1,2,7]
  refine⟨_,rfl,?_⟩;intro Y U
  refine gz hK6 U (.neq rfl rfl .nil) fun Y U=>bc U 16 ?_ ?_
  ·
   intro aa U;try simp only [QQ,Qax] at aa
   have hne9:aj≠0:=by have:=aa;first|omega|(simp at this;omega)
   refine wct U<|wp_exit<|hK0 _ _ ?_
   replace U:=U.oz [0,1,5,8,9]
   refine hC U (.move rfl<|.assign rfl .nil) fun Y U=>rt1 U ?_
   have aw:=aq.freezeN 7 rfl
   exact⟨_,_,_,_,_,_,_,rfl,by have:=hR1.1;omega,hall,hxl.bad (by omega) (fun x hx=>ag x hx.1 hx.2) hne9,(hR1.tr ac),aw.ren [(1,1),(2,2),(3,7)] (by decide)⟩
  intro aa U;try simp only [QQ,Qax] at aa
  have ar:ab.length<b1.length:=(ac.2.2 (by have:=aa;first|omega|(simp at this;omega))).2
  refine wcf U<|zss (hK5 _ _ ?_)
  replace U:=U.oz [0,1,5,8,9,6]
  refine wp_region_lit<|g9 U (.move rfl<|.move rfl .nil) fun Y U=>plz<|iv U aq 100 (k:=.i64) rfl rfl U48 ki rfl rfl rfl rfl fun aD Y aE U au=>plz<|iC U au 7 rfl rfl rfl (au.numsO (i:=100) rfl) U48 ki (by decide) (by simp;omega) rfl fun aF aG Y aH U ax=>gz hK3 U (.assign rfl .nil) fun Y U=>wp_region_lit<|g9 U (.add rfl rfl (r:=((k+1:Nat):Int)) (by rw[IntWalk.u64_in _ (by omega)];omega)<|.move rfl .nil) fun Y U=>wpList_nil ?_
  show ∃ n',n'<_∧_
  exact⟨ab.length,by omega,k+1,ab,_,_,_,_,_,_,by rw[List.length_append,hlk];rfl,hxl.step (by omega) (fun x hx=>ag x hx.1 hx.2),by omega,by rw[List.length_append,List.length_singleton];omega,hR1.tr ac,mE hall ae,rfl,U.only [0,1,5,8,9],ax.ren [(1,1),(2,2),(7,7)] (by decide)⟩
 intro ad U;try simp only [QQ,Qax] at ad
 have hnk:¬ ((l.length:Int)<xq5∧e1=0):=by omega
 refine wcf U<|wp_exit<|hK0 _ _<|hC U (.move rfl<|.assign rfl .nil) fun Y U=>rt1 U ?_
 have ay:=m8.freezeN 7 rfl
 exact⟨_,_,_,_,_,_,_,rfl,by have:=hR1.1;omega,hall,hxl.fin hnk,hR1,ay.ren [(1,1),(2,2),(3,7)] (by decide)⟩
theorem wa(X B)(b:List Int)(er p)(c:Nat)(w0)(hb:b.length≤1000000)(hbb:BytesL b)(m0:MemOk X w0 [(1,.box B 148 [.slice p (b).length c,.int .i64 er]),(2,.dat (.slice p (b).length c) (.ns .u8 (b)))] w0) :
   Calls Tryz.prog 109 #[.pointer (some ⟨B,0,none⟩),.func (.func 76) #[] #[]] w0 fun e w' => ∃ (l:List (List (Int×List Int))) (b':List Int) (er':Int) (p':Option Addr) (c':Nat) (p3:Option Addr) (c3:Nat),e=.returned (.slice p3 (l.map isD).length c3)∧l.length≤b.length∧(∀ xl∈l,xl.length≤1000000∧∀ e∈xl,BytesL e.2)∧(∀ z:List (List (Int×List Int)),z.length≤2147483648→(∀ y∈z,(fun x:List (Int×List Int)=>x.length≤8∧∀ y∈x,(0≤y.1∧y.1≤256)∧(y.2.length:Int)≤32) y)→XE b er (enc z.length++z.flatMap isE) (l=z) b' er')∧RdN b er b' er'∧MemOk X w0 [(1,.box B 148 [.slice p' (b').length c',.int .i64 er']),(2,.dat (.slice p' (b').length c') (.ns .u8 (b'))),(3,.dat (.slice p3 (l.map isD).length c3) (.l 1 (l.map isD)))] w':=by
 refine iZ Tryz.func109 rfl Tryz.ntmps109 fun Y U=>hC U (.assign rfl .nil) fun Y U=>hC U (.assign rfl .nil) fun Y U=>wsk fun K0 hK0=>zsr fun K1 hK1=>g9 U (.move rfl .nil) fun Y U=>plz (ecl U Tryz.func60 rfl (lV _ _ b er 1099511627776 _ _ _ hb hbb (m0.into [(1,1),(2,2)] (by decide) rfl)) ?_)
 rintro e w5 ⟨xq5,bq5,eq5,p5,c5,rfl,hxq5,hX5,hq5,hm5⟩
 have mx5:=m0.back hm5 [(1,1),(2,2)] (by decide);clear hm5 m0
 have m5:=mx5.oz [1,2]
 refine⟨_,rfl,?_⟩;intro Y U
 have hlq5:bq5.length≤1000000:=Nat.le_trans hq5.1 hb
 refine gz hK1 U (.move rfl .nil) fun Y U=>wp_block<|wp_loop_ghost (fun g a w => ∃ (k:Nat) (b1:List Int) (e1:Int) (l:List (List (Int×List Int))) (p1:Option Addr) (c1:Nat) (p3:Option Addr) (c3:Nat),l.length=k∧XL isE (fun x:List (Int×List Int)=>x.length≤8∧∀ y∈x,(0≤y.1∧y.1≤256)∧(y.2.length:Int)≤32) 2147483648 b er xq5 l b1 e1∧(k:Int)≤xq5∧l.length+b1.length≤b.length∧RdN b er b1 e1∧(∀ xl∈l,xl.length≤1000000∧∀ e∈xl,BytesL e.2)∧g=b1.length∧Has 23 [(0,.pointer (some ⟨B,0,none⟩)),(1,.func (.func 76) #[] #[]),(5,.slice p3 (l.map isD).length c3),(8,.int .u64 xq5),(9,.int .u64 (k:Int))] a∧MemOk X w0 [(1,.box B 148 [.slice p1 (b1).length c1,.int .i64 e1]),(2,.dat (.slice p1 (b1).length c1) (.ns .u8 (b1))),(7,.row (.slice p3 (l.map isD).length c3) 36 1 (l.map isD))] w) (bq5.length) ?_ ?_
 · have mz:=m5.nilR 7 36 1
   exact⟨0,bq5,_,[],_,_,_,_,rfl,XL.start hX5,by omega,by simp;exact hq5.1,hq5,(fun z h=>by cases h),rfl,U.only [0,1,5,8,9],mz.ren [(1,1),(2,2),(7,7)] (by decide)⟩
 clear U m5
 rintro g Y w8 ⟨k,b1,e1,l,p1,c1,p3,c3,hlk,hxl,hkl,hlb,hR1,hall,hg,U,m8⟩
 refine hC U (.lss rfl rfl .nil) fun Y U=>wsk fun K2 hK2=>bc U 10 ?_ ?_
 ·
  intro ae U;try simp only [QQ,Qax] at ae
  have hk:(k:Int)<xq5:=by omega
  have hb1:b1.length≤1000000:=Nat.le_trans hR1.1 hb
  have hbb1:=hR1.2.1
  have h1le:=hR1.1
  refine wct U<|zss<|hK2 _ _<|wsk fun K3 hK3=>wp_block<|zsr fun K4 hK4=>g9 U (.move rfl<|.move rfl .nil) fun Y U=>plz (kE U rfl Tryz.func76 rfl rfl rfl rfl (lU _ _ b1 _ _ _ _ hb1 hbb1 (m8.into [(1,1),(2,2)] (by decide) rfl)) ?_)
  rintro e aD ⟨ab,ac,ak,aE,aF,ay,az,rfl,ar,ag,ah,ad,ai⟩
  have al:=m8.back ai [(1,1),(2,2),(100,3)] (by decide);clear ai m8
  have ao:=al.oz [1,2,100,7]
  refine⟨_,rfl,?_⟩;intro Y U
  have au:ac.length≤1000000:=Nat.le_trans ad.1 hb1
  refine gz hK4 U (.assign rfl .nil) fun Y U=>wsk fun K5 hK5=>zsr fun K6 hK6=>g9 U (.move rfl .nil) fun Y U=>plz (ecl U Tryz.func62 rfl (lQ _ _ _ _ _ _ _ (ao.into [(1,1),(2,2)] (by decide) rfl)) ?_)
  rintro e aG ⟨rfl,aj⟩
  have ap:=ao.back aj [(1,1),(2,2)] (by decide);clear aj ao
  have aq:=ap.oz [1,2,7,100]
  refine⟨_,rfl,?_⟩;intro Y U
  refine gz hK6 U (.neq rfl rfl .nil) fun Y U=>bc U 16 ?_ ?_
  ·
   intro aa U;try simp only [QQ,Qax] at aa
   have hne9:ak≠0:=by have:=aa;first|omega|(simp at this;omega)
   refine wct U<|wp_exit<|hK0 _ _ ?_
   replace U:=U.oz [0,1,5,8,9]
   refine hC U (.move rfl<|.assign rfl .nil) fun Y U=>rt1 U ?_
   have aA:=aq.freezeR 7 rfl
   exact⟨_,_,_,_,_,_,_,rfl,by have:=hR1.1;omega,hall,hxl.bad (by omega) (v:=ab) (fun x hx=>ah x (by have:=hx.1;omega) (fun y hy=>⟨⟨(hx.2 y hy).1.1,by have:=(hx.2 y hy).1.2;omega⟩,(hx.2 y hy).2⟩)) hne9,(hR1.tr ad),aA.ren [(1,1),(2,2),(3,7)] (by decide)⟩
  intro aa U;try simp only [QQ,Qax] at aa
  have av:ac.length<b1.length:=(ad.2.2 (by have:=aa;first|omega|(simp at this;omega))).2
  refine wcf U<|zss (hK5 _ _ ?_)
  replace U:=U.oz [0,1,5,8,9,6]
  refine wp_region_lit<|g9 U (.move rfl<|.move rfl .nil) fun Y U=>plz (iN U aq 101 (mm:=1) rfl (.cons rfl rfl (.cons (aq.rd (i:=100) rfl) .nil) .nil) yp wY rfl rfl rfl rfl rfl fun aH Y aI U aB =>?_)
  have aw:=aB.freezeR 101 rfl
  refine plz<|iM U aw 7 rfl rfl rfl (aw.rd (i:=101) rfl) yp wY rfl rfl (by decide) (by simp;omega) rfl fun aJ aK Y aL U ax=>gz hK3 U (.assign rfl .nil) fun Y U=>wp_region_lit<|g9 U (.add rfl rfl (r:=((k+1:Nat):Int)) (by rw[IntWalk.u64_in _ (by omega)];omega)<|.move rfl .nil) fun Y U=>wpList_nil ?_
  show ∃ n',n'<_∧_
  have hE:l.map isD++[[.l 2 (ab.map itD)]]=(l++[ab]).map isD:=by rw[List.map_append];rfl
  rw[hE] at ax U
  exact⟨ac.length,by omega,k+1,ac,_,_,_,_,_,_,by rw[List.length_append,hlk];rfl,hxl.step (by omega) (v:=ab) (fun x hx=>ah x (by have:=hx.1;omega) (fun y hy=>⟨⟨(hx.2 y hy).1.1,by have:=(hx.2 y hy).1.2;omega⟩,(hx.2 y hy).2⟩)),by omega,by rw[List.length_append,List.length_singleton];omega,hR1.tr ad,mE hall ⟨by omega,fun e he=>(ag e he).2.2⟩,rfl,U.only [0,1,5,8,9],ax.ren [(1,1),(2,2),(7,7)] (by decide)⟩
 intro ae U;try simp only [QQ,Qax] at ae
 have hnk:¬ ((l.length:Int)<xq5∧e1=0):=by omega
 refine wcf U<|wp_exit<|hK0 _ _<|hC U (.move rfl<|.assign rfl .nil) fun Y U=>rt1 U ?_
 have aC:=m8.freezeR 7 rfl
 exact⟨_,_,_,_,_,_,_,rfl,by have:=hR1.1;omega,hall,hxl.fin hnk,hR1,aC.ren [(1,1),(2,2),(3,7)] (by decide)⟩
theorem rj(X B)(b:List Int)(er p)(c:Nat)(w0)(hb:b.length≤1000000)(hbb:BytesL b)(m0:MemOk X w0 [(1,.box B 148 [.slice p (b).length c,.int .i64 er]),(2,.dat (.slice p (b).length c) (.ns .u8 (b)))] w0) :
   Calls Tryz.prog 61 #[.pointer (some ⟨B,0,none⟩)] w0 fun e w' => ∃ (x:VolV) (b':List Int) (er':Int) (p' p1 p2 p3:Option Addr) (c' d1 d2 d3:Nat),e=.returned (.agg #[.int .i64 x.vo,.int .i64 x.bl,.int .i64 x.sz,.int .i64 x.pe,.slice p1 x.place.length d1,.int .i64 x.to,.int .i64 x.ne,.bool x.hi,.int .i64 x.fl,.slice p2 x.pins.length d2,.slice p3 (x.ws.map wrD).length d3])∧RdN b er b' er'∧(x.place.length≤b.length∧x.pins.length≤b.length∧x.ws.length≤b.length∧(∀ e∈x.ws,e.2.length≤1000000)∧WBy x.ws)∧(∀ y:VolV,VP y→(∀ (k:Nat) (w:PWr),y.ws[k]? = some w→w.1=(k:Int)+1)→XE b er (ja y) (x=y) b' er')∧MemOk X w0 [(1,.box B 148 [.slice p' (b').length c',.int .i64 er']),(2,.dat (.slice p' (b').length c') (.ns .u8 (b'))),(3,.dat (.slice p1 x.place.length d1) (.ns .i64 x.place)),(4,.dat (.slice p2 x.pins.length d2) (.ns .i64 x.pins)),(5,.dat (.slice p3 (x.ws.map wrD).length d3) (.l 2 (x.ws.map wrD)))] w':=by
 refine i9 Tryz.func61 rfl Tryz.ntmps61 fun Y U=>zsr fun K0 hK0=>plz<|hZ U m0 40 iA rfl fun g1 Y w2 U m2 _ _=>znl<|hK0 _ _<|zsr fun K1 hK1=>g9 U (.move rfl .nil) fun Y U=>plz (ecl U Tryz.func73 rfl (kB _ _ b er  _ _ _ hb hbb (m2.into [(1,1),(2,2)] (by decide) rfl)) ?_)
 rintro e w5 ⟨xq5,bq5,eq5,p5,c5,rfl,hxq5,hX5,hq5,hm5⟩
 have mx5:=m2.back hm5 [(1,1),(2,2)] (by decide);clear hm5 m2
 have m5:=mx5.oz [1,2,40]
 refine⟨_,rfl,?_⟩;intro Y U
 have hlq5:bq5.length≤1000000:=Nat.le_trans hq5.1 hb
 have hR5:RdN b er bq5 eq5:=hq5
 refine g9 U (.move rfl .nil) fun Y U=>plz (ecl U Tryz.func73 rfl (kB _ _ bq5 eq5  _ _ _ hlq5 hq5.2.1 (m5.into [(1,1),(2,2)] (by decide) rfl)) ?_)
 rintro e w8 ⟨xq8,bq8,eq8,p8,c8,rfl,hxq8,hX8,hq8,hm8⟩
 have mx8:=m5.back hm8 [(1,1),(2,2)] (by decide);clear hm8 m5
 have m8:=mx8.oz [1,2,40]
 refine⟨_,rfl,?_⟩;intro Y U
 have hlq8:bq8.length≤1000000:=Nat.le_trans hq8.1 hlq5
 have hR8:RdN b er bq8 eq8:=hR5.tr hq8
 refine g9 U (.move rfl .nil) fun Y U=>plz (ecl U Tryz.func73 rfl (kB _ _ bq8 eq8  _ _ _ hlq8 hq8.2.1 (m8.into [(1,1),(2,2)] (by decide) rfl)) ?_)
 rintro e cz ⟨aK,au,aL,cA,cB,rfl,bY,bm,av,aM⟩
 have bn:=m8.back aM [(1,1),(2,2)] (by decide);clear aM m8
 have bo:=bn.oz [1,2,40]
 refine⟨_,rfl,?_⟩;intro Y U
 have ai:au.length≤1000000:=Nat.le_trans av.1 hlq8
 have bp:RdN b er au aL:=hR8.tr av
 refine g9 U (.move rfl .nil) fun Y U=>plz (ecl U Tryz.func73 rfl (kB _ _ au aL  _ _ _ ai av.2.1 (bo.into [(1,1),(2,2)] (by decide) rfl)) ?_)
 rintro e cC ⟨aN,aw,aO,cD,cE,rfl,bZ,bq,ax,aP⟩
 have br:=bo.back aP [(1,1),(2,2)] (by decide);clear aP bo
 have bs:=br.oz [1,2,40]
 refine⟨_,rfl,?_⟩;intro Y U
 have aj:aw.length≤1000000:=Nat.le_trans ax.1 ai
 have aQ:RdN b er aw aO:=bp.tr ax
 refine g9 U (.move rfl .nil) fun Y U=>plz (ecl U Tryz.func75 rfl (rJ _ _ aw aO  _ _ _ aj ax.2.1 (bs.into [(1,1),(2,2)] (by decide) rfl)) ?_)
 rintro e cF ⟨ad,ay,aR,cG,cH,cf,cg,rfl,aS,b0,bt,az,aT⟩
 have bu:=bs.back aT [(1,1),(2,2),(41,3)] (by decide);clear aT bs
 have ch:=bu.oz [1,2,41,40]
 refine⟨_,rfl,?_⟩;intro Y U
 have aU:ad.length≤b.length:=Nat.le_trans aS aQ.1
 have ak:ay.length≤1000000:=Nat.le_trans az.1 aj
 have bv:RdN b er ay aR:=aQ.tr az
 refine g9 U (.build rfl iA vZ rfl (by dsimp only [iY,List.set] <;> rfl) .nil) fun Y U=>plz<|hZ U ch 42 iA rfl fun cI Y cJ U ci _ _=>plz (stw U ci 42 hH fun cK bw _ =>?_)
 refine znl (hK1 _ _ ?_)
 replace U:=U.oz [0,2,3]
 refine zsr fun K2 hK2=>g9 U (.move rfl .nil) fun Y U=>plz (ecl U Tryz.func73 rfl (kB _ _ ay aR  _ _ _ ak az.2.1 (bw.into [(1,1),(2,2)] (by decide) rfl)) ?_)
 rintro e cL ⟨aV,aA,aW,cM,cN,rfl,b1,bx,aB,aX⟩
 have bz:=bw.back aX [(1,1),(2,2)] (by decide);clear aX bw
 have bA:=bz.oz [1,2,40,41,42]
 refine⟨_,rfl,?_⟩;intro Y U
 have al:aA.length≤1000000:=Nat.le_trans aB.1 ak
 have bB:RdN b er aA aW:=bv.tr aB
 refine g9 U (.move rfl .nil) fun Y U=>plz (ecl U Tryz.func73 rfl (kB _ _ aA aW  _ _ _ al aB.2.1 (bA.into [(1,1),(2,2)] (by decide) rfl)) ?_)
 rintro e cO ⟨aY,aC,aZ,cP,cQ,rfl,b4,bC,aD,a0⟩
 have bE:=bA.back a0 [(1,1),(2,2)] (by decide);clear a0 bA
 have bF:=bE.oz [1,2,40,41,42]
 refine⟨_,rfl,?_⟩;intro Y U
 have ao:aC.length≤1000000:=Nat.le_trans aD.1 al
 have bG:RdN b er aC aZ:=bB.tr aD
 refine g9 U (.move rfl .nil) fun Y U=>plz (ecl U Tryz.func60 rfl (lV _ _ aC aZ 1 _ _ _ ao aD.2.1 (bF.into [(1,1),(2,2)] (by decide) rfl)) ?_)
 rintro e cR ⟨a1,aE,a2,cS,cT,rfl,b5,bH,aF,a3⟩
 have bI:=bF.back a3 [(1,1),(2,2)] (by decide);clear a3 bF
 have cj:=bI.oz [1,2,40,41,42]
 refine⟨_,rfl,?_⟩;intro Y U
 have ap:aE.length≤1000000:=Nat.le_trans aF.1 ao
 have bJ:RdN b er aE a2:=bG.tr aF
 refine g9 U (.eql rfl rfl<|.fa 5 rfl U51 .nil) fun Y U=>plz (st1 U cj 42 iG fun cU ck _ =>?_)
 refine g9 U (.fieldAddr (off:=6) rfl U51 rfl (s:=0) (by kernel_rfl) rfl .nil) fun Y U=>plz (st1 U ck 42 iG fun cV cl _ =>?_)
 refine g9 U (.fieldAddr (off:=7) rfl U51 rfl (s:=0) (by kernel_rfl) rfl .nil) fun Y U=>plz (st1 U cl 42 sJ fun cW bK _ =>?_)
 refine znl (hK2 _ _ ?_)
 replace U:=U.oz [0,2,3]
 refine zsr fun K3 hK3=>g9 U (.move rfl .nil) fun Y U=>plz (ecl U Tryz.func74 rfl (rI _ _ aE a2  _ _ _ ap aF.2.1 (bK.into [(1,1),(2,2)] (by decide) rfl)) ?_)
 rintro e cX ⟨a4,aG,a5,cY,cZ,rfl,b6,bL,aH,a6⟩
 have bM:=bK.back a6 [(1,1),(2,2)] (by decide);clear a6 bK
 have bN:=bM.oz [1,2,40,41,42]
 refine⟨_,rfl,?_⟩;intro Y U
 have aq:aG.length≤1000000:=Nat.le_trans aH.1 ap
 have a7:RdN b er aG a5:=bJ.tr aH
 refine g9 U (.move rfl .nil) fun Y U=>plz (ecl U Tryz.func108 rfl (tB _ _ aG a5  _ _ _ aq aH.2.1 (bN.into [(1,1),(2,2)] (by decide) rfl)) ?_)
 rintro e c0 ⟨ae,aI,a8,c3,c4,cm,co,rfl,a9,b7,bO,aJ,ba⟩
 have bP:=bN.back ba [(1,1),(2,2),(43,3)] (by decide);clear ba bN
 have cq:=bP.oz [1,2,43,40,41,42]
 refine⟨_,rfl,?_⟩;intro Y U
 have bb:ae.length≤b.length:=Nat.le_trans a9 a7.1
 have ar:aI.length≤1000000:=Nat.le_trans aJ.1 aq
 have bd:RdN b er aI a8:=a7.tr aJ
 refine g9 U (.fieldAddr (off:=8) rfl U51 rfl (s:=0) (by kernel_rfl) rfl .nil) fun Y U=>plz (st1 U cq 42 iP fun c6 cr _ =>?_)
 refine g9 U (.fieldAddr (off:=9) rfl U51 rfl (s:=0) (by kernel_rfl) rfl .nil) fun Y U=>plz (st1 U cr 42 lq fun c7 bQ _ =>?_)
 refine znl<|hK3 _ _<|wsk fun K4 hK4 =>?_
 replace U:=U.oz [0,2,3]
 refine zsr fun K5 hK5=>g9 U (.move rfl .nil) fun Y U=>plz (ecl U Tryz.func109 rfl (wa _ _ aI a8  _ _ _ ar aJ.2.1 (bQ.into [(1,1),(2,2)] (by decide) rfl)) ?_)
 rintro e c9 ⟨aa,ag,be,da,db,cs,ct,rfl,ac,bf,bR,bg,bh⟩
 have bS:=bQ.back bh [(1,1),(2,2),(44,3)] (by decide);clear bh bQ
 have b8:=bS.oz [1,2,44,40,41,42,43]
 refine⟨_,rfl,?_⟩;intro Y U
 have bi:aa.length≤b.length:=Nat.le_trans ac bd.1
 have b9:ag.length≤1000000:=Nat.le_trans bg.1 ar
 have bT:RdN b er ag be:=bd.tr bg
 refine gz hK5 U (.len rfl yp<|.move rfl<|.nil) fun Y U=>wp_block ?_
 have hRf:=bT
 refine wp_loop_ghost (fun g a w => ∃ (k B2 B3:Nat) (p1 p2 q1 q3 q4:Option Addr) (c1 c2 d1 d3 d4:Nat),k≤aa.length∧g=aa.length - k∧Has 52 [(2,.pointer (some ⟨B2,0,none⟩)),(3,.pointer (some ⟨B3,0,none⟩)),(34,.slice q4 (aa.map isD).length d4),(35,.int .i64 (((aa.map isD).length:Nat):Int)),(36,.int .i64 k)] a∧MemOk X w0 [(1,.box B 148 [.slice q1 ag.length d1,.int .i64 be]),(2,.dat (.slice q1 ag.length d1) (.ns .u8 ag)),(5,.box B2 51 [.int .i64 0,.int .i64 0,.int .i64 0,.int .i64 0,.slice none 0 0,.int .i64 0,.int .i64 0,.bool false,.int .i64 0,.slice none 0 0,.slice none 0 0]),(6,.box B3 51 [.int .i64 xq5,.int .i64 xq8,.int .i64 aK,.int .i64 aN,.slice p1 ad.length c1,.int .i64 aV,.int .i64 aY,.bool (decide (a1=1)),.int .i64 a4,.slice p2 ae.length c2,.slice q3 (((wsN aa).take k).map wrD).length d3]),(7,.dat (.slice p1 ad.length c1) (.ns .i64 ad)),(8,.dat (.slice p2 ae.length c2) (.ns .i64 ae)),(9,.row (.slice q3 (((wsN aa).take k).map wrD).length d3) 103 2 (((wsN aa).take k).map wrD)),(10,.dat (.slice q4 (aa.map isD).length d4) (.l 1 (aa.map isD)))] w) (aa.length) ?_ ?_
 · have mz:=b8.nilR 99 103 2
   exact⟨0,_,_,_,_,_,_,_,_,_,_,_,_,Nat.zero_le _,rfl,U.only [2,3,34,35,36],mz.ren [(1,1),(2,2),(5,40),(6,42),(7,41),(8,43),(9,99),(10,44)] (by decide)⟩
 clear U b8
 rintro g Y dc ⟨k,B2,B3,p1,p2,q1,q3,q4,c1,c2,d1,d3,d4,hkl,hg,U,bj⟩
 refine hC U (.lss rfl rfl .nil) fun Y U=>wsk fun K6 hK6=>bc U 37 ?_ ?_
 ·
  intro ah U;try simp only [QQ,Qax] at ah
  have hk:k<aa.length:=by have:=ah;first|omega|(simp at this;omega)
  obtain⟨xl,hes⟩:∃ e,aa[k]? = some e:=⟨_,List.getElem?_eq_getElem hk⟩
  refine wct U<|zss<|hK6 _ _<|wsk fun K7 hK7=>wp_block<|zsr fun K8 hK8=>g9 U (.move rfl .nil) fun Y U =>?_
  obtain⟨de,df,cu,bU,bV,bW,ca⟩:=bj.openR (i:=10) rfl (k) (r:=[.l 2 (xl.map itD)]) (xu hes) 100 rfl
  revert U
  cases bU;clear bj bW
  rcases bV with _|⟨ab,_|_⟩
  obtain⟨dg,dh,bX,cv⟩:=ab.l_shape;subst bX
  intro U
  have bk:=ca.dat 101 rfl (ab.cast (fun _ h=>(ia rfl h)));clear ca ab
  refine gz hK8 U (.c rfl (fun _ h_=>ii h_ rfl rfl yp sI (k) rfl (by simpa using hk))<|.loadC0 bk (i:=100) rfl rfl U36 rfl<|.assign rfl<|.assign rfl<|.nil) fun Y U=>wp_region_lit<|g9 U (.fa 10 rfl U51<|.lb bk 6 U49 rfl rfl rfl<|.move rfl<|.add rfl rfl (r:=((k+1:Nat):Int)) (by have h9:=ac;rw[IntWalk.i64_in _ (by omega)];omega)<|.move rfl<|.build rfl qr tA rfl (by dsimp only [iY,List.set] <;> rfl) .nil) fun Y U=>plz (iN U bk 102 (mm:=2) rfl (.cons rfl rfl (.cons (.v _) (.cons (bk.rd (i:=101) rfl) .nil)) .nil) U49 pV rfl rfl rfl rfl rfl fun di Y dj U cw =>?_)
  have cb:=cw.freezeR 102 rfl
  refine plz<|iM U cb 9 rfl rfl rfl (cb.rd (i:=102) rfl) U49 pV rfl rfl (by decide) (by have h8:((wsN aa).take k).length≤k:=List.length_take_le _ _;have h9:=ac;rw[List.length_map,List.length_singleton];omega) rfl fun dk dl Y dm U cy=>g9 U (.fieldAddr (off:=10) rfl U51 rfl (s:=0) (by kernel_rfl) rfl .nil) fun Y U=>plz (st1 U cy 6 n5 fun dn cc _ =>?_)
  refine znl (hK7 _ _ ?_)
  replace U:=U.oz [2,3,34,35,36]
  refine wp_region_lit<|g9 U (.add rfl rfl (r:=((k+1:Nat):Int)) (by have h9:=ac;rw[IntWalk.i64_in _ (by omega)];omega)<|.move rfl .nil) fun Y U=>wpList_nil ?_
  show ∃ n',n'<_∧_
  rw[sT hes] at cc
  exact⟨aa.length - (k+1),by omega,k+1,_,_,_,_,_,_,_,_,_,_,_,_,by omega,rfl,U.only [2,3,34,35,36],cc.ren [(1,1),(2,2),(5,5),(6,6),(7,7),(8,8),(9,9),(10,10)] (by decide)⟩
 intro ah U;try simp only [QQ,Qax] at ah
 revert U
 obtain rfl:k=aa.length:=by have:=ah;first|omega|(simp at this;omega)
 intro U
 refine wcf U<|wp_exit<|hK4 _ _<|zsr fun K9 hK9=>g9 U (.loadBR bj (i:=6) rfl rfl U51 rfl hH (by simp) (by dsimp only [List.drop,List.take] <;> rfl) .nil) fun Y U=>plz (stw U bj 5 hH fun dp cd _ =>?_)
 refine znl<|hK9 _ _<|rtd (kG (fn:=Tryz.f61) U cd (i:=5) rfl rfl rfl U51 rfl hH ?_)
 have ce:=cd.freezeR 9 rfl
 rw[rb] at ce
 exact⟨⟨xq5,xq8,aK,aN,ad,aV,aY,(decide (a1=1)),a4,ae,wsN aa⟩,_,_,_,_,_,_,_,_,_,_,by rw[rb],hRf,⟨aU,bb,by rw[lf];exact bi,re bf⟩,rg (fun z h0 h1=>hX5 z h0 (by omega)) (fun z h0 h1=>hX8 z h0 (by omega)) (fun z h0 h1=>bm z h0 (by omega)) (fun z h0 h1=>bq z h0 (by omega)) (fun z hz ho=>bt z (by omega) (fun y hy=>⟨(ho y hy).1,by have:=(ho y hy).2;omega⟩)) (fun z h0 h1=>bx z h0 (by omega)) (fun z h0 h1=>bC z h0 (by omega)) (fun z h0 h1=>bH z h0 (by omega)) (fun z h0 h1=>bL z h0 (by omega)) bO bR,ce.ren [(1,1),(2,2),(3,7),(4,8),(5,9)] (by decide)⟩
end
section
structure Tl where
 id:Int
 c:Cm
 fr:Int
 to:Int
 e9:Int
 rl:Int
 rf:Int
 rn:Int
 da:List Int
def tlD(t:Tl):List D:=[.v (.int .i64 t.id),.v (.int .i64 t.c.kd),.v (.int .i64 t.c.vo),.v (.int .i64 t.c.bl),.v (.int .i64 t.c.sz),.v (.int .i64 t.c.pe),.ns .i64 t.c.pl,.v (.int .i64 t.c.to),.v (.int .i64 t.c.at0),.v (.int .i64 t.c.ix),.l 2 (t.c.its.map itD),.v (.int .i64 t.fr),.v (.int .i64 t.to),.v (.int .i64 t.e9),.v (.int .i64 t.rl),.v (.int .i64 t.rf),.v (.int .i64 t.rn),.ns .u8 t.da]
def zx(t:Tl):Bool:=decide (0≤t.to) && decide (t.fr≤t.to)
def yu(t:Tl):Bool:=zx t && decide (t.e9=0)
def isB(t:Tl)(l:List Int):Bool:=decide (t.c.kd∈l)
def zd(t:Tl):Bool:=yu t && isB t [2,6,8]
def upB(a b:Tl):Bool:=if isB b [2]=true then decide (a.rl<b.rl) else decide (a.rl≤b.rl)
end
section
def zy(v:VolV)(t:Tl):Bool:=!(yu t && isB t [2,6]) || (decide (1≤t.rl) && decide (t.rl≤v.ws.length) && (!(isB t [2]) || decide (t.c.its=(v.ws.getD (t.rl - 1).toNat (0,[])).2)))
def ze(a b:Tl):Bool:=!(yu a && isB a [2] && yu b && isB b [2] && decide (a.rl=b.rl))
def zQ(l:List Tl)(k:Nat):Prop:=∀ i,i<k→∀ j,j<i→∀ a b,l[i]? = some a→l[j]? = some b→ze a b=true
def zA(l:List Tl):Bool:=(List.range l.length).all fun i=>(List.range i).all fun j=>match l[i]?,l[j]? with|some a,some b=>ze a b|_,_=>true
def zB(a b:Tl):Bool:=!(zd a && zd b && decide (a.to<b.fr) && !(upB a b))
def zC(l:List Tl):Bool:=l.all fun a=>l.all (zB a)
def zD(w:Int×List (Int×List Int))(t:Tl):Bool:=isB t [2,6] && decide (t.c.its=w.2)
def zE(l:List Tl)(v:VolV):Bool:=v.ws.all fun w=>l.any (zD w)
def ofB(v:VolV)(t:Tl):Bool:=decide (t.c.vo=v.vo)
def zR(l:List Tl)(v:VolV):Bool:=(l.filter (ofB v)).all (zy v) && zA (l.filter (ofB v)) && zC (l.filter (ofB v)) && zE (l.filter (ofB v)) v
end
end Go.Proofs.YtkehgingagggaaaGreat.K
