/- General laws of walks. -/
import Derived.Test.YtkehgingagggaaaGreatG19
import Derived.Test.YtkehgingagggaaaGreatG17
namespace Go.Proofs.YtkehgingagggaaaGreat.K
open Go.ChangeShapes Go.WideShapes Go.ChangeAt Go.RowKit
set_option linter.unusedVariables false
set_option linter.unusedSimpArgs false
set_option maxRecDepth 100000
set_option maxHeartbeats 4000000
set_option autoImplicit true
set_option relaxedAutoImplicit true
section
theorem uS:iO Tryz.prog 38 [.int .i64 0,.int .i64 0,.int .i64 0,.int .i64 0,.int .i64 0,.slice none 0 0,.int .i64 0,.int .i64 0,.int .i64 0,.slice none 0 0]=true:=by kernel_rfl
def cmD(x:Cm):List D:=[.v (.int .i64 x.kd),.v (.int .i64 x.vo),.v (.int .i64 x.bl),.v (.int .i64 x.sz),.v (.int .i64 x.pe),.ns .i64 x.pl,.v (.int .i64 x.to),.v (.int .i64 x.at0),.v (.int .i64 x.ix),.l 2 (x.its.map itD)]
theorem od{l:List Cm}{k:Nat}{x:Cm}(h:l[k]? = some x):(l.map cmD)[k]? = some [.v (.int .i64 x.kd),.v (.int .i64 x.vo),.v (.int .i64 x.bl),.v (.int .i64 x.sz),.v (.int .i64 x.pe),.ns .i64 x.pl,.v (.int .i64 x.to),.v (.int .i64 x.at0),.v (.int .i64 x.ix),.l 2 (x.its.map itD)]:=by rw[List.getElem?_map,h];rfl
open Classical in
noncomputable def zO(cs:List Cm):List VolV:=cs.foldl (fun L c=>if CmdR c then (kk L c).1 else L) []
theorem xh{L L':List VolV}{c:Cm}{e9 rl rf rn:Int}(h:kk L c=(L',e9,rl,rf,rn))(hV:∀ y∈L,VolS n y)(hb:∀ e∈c.its,BytesL e.2):(∀ y∈L',VolS (n+1) y)∧L'.length≤L.length+1:=by
 have same:L'=L→(∀ y∈L',VolS (n+1) y)∧L'.length≤L.length+1:=fun e=>by subst e;exact⟨fun y hy=>(hV y hy).up (by omega),by omega⟩
 unfold kk at h
 split at h
 · split at h
   · exact same (Prod.mk.inj h).1.symm
   split at h
   · rename_i hN
     have e:=(Prod.mk.inj h).1
     subst e
     refine⟨fun y hy =>?_,by simp⟩
     rcases List.mem_append.1 hy with hy|hy
     · exact(hV y hy).up (by omega)
     simp at hy;subst hy;exact tY hN
   exact same (Prod.mk.inj h).1.symm
 split at h
 · exact same (Prod.mk.inj h).1.symm
 rename_i j hf
 have e:=(Prod.mk.inj h).1
 subst e
 obtain⟨hjl,_,_⟩:=List.findIdx?_eq_some_iff_getElem.1 hf
 refine⟨fun y hy =>?_,by simp⟩
 rcases List.mem_or_eq_of_mem_set hy with hy|hy
 · exact(hV y hy).up (by omega)
 subst hy
 exact(yH (hV (L.getD j jM) (by rw[List.getD,List.getElem?_eq_getElem hjl];exact List.getElem_mem hjl)) hb).1
theorem na(vx bx sx px to:Int)(w0:World)(hv:0≤vx∧vx≤255)(hb:0≤bx∧bx≤255)(hs:0≤sx∧sx≤255)(hp:0≤px∧px≤255) :
   Calls Tryz.prog 42 #[.int .u8 vx,.int .u8 bx,.int .u8 sx,.int .u8 px,.int .i64 to] w0 fun e w' => ∃ (bl sz pe:Int) (pl:List Int) (p:Option Addr) (c:Nat),e=.returned (.agg #[.int .i64 1,.int .i64 (vx.tmod 3),.int .i64 bl,.int .i64 sz,.int .i64 pe,.slice p pl.length c,.int .i64 to,.int .i64 0,.int .i64 0,.slice none 0 0])∧bl=bx.tmod 9+1∧sz=sx.tmod 3+1∧1≤pe∧pe≤bl∧nb bl pe pl∧pl.length≤9∧Rd (New w0) w' (.slice p pl.length c) (.ns .i64 pl)∧Below w0.heap.size w0 w':=by
 refine y9 Tryz.func42 rfl Tryz.ntmps42 fun Y U =>?_
 have m0:=MemOk.start (fun _=>False) w0
 obtain⟨vm,hvm,hvmb⟩:∃ x:Int,vx.tmod 3=x∧0≤x∧x≤2:=⟨_,rfl,by rw[Int.tmod_eq_emod_of_nonneg (by omega)];omega,by rw[Int.tmod_eq_emod_of_nonneg (by omega)];omega⟩
 obtain⟨b0,hb0,hb0b⟩:∃ x:Int,bx.tmod 9=x∧0≤x∧x≤8:=⟨_,rfl,by rw[Int.tmod_eq_emod_of_nonneg (by omega)];omega,by rw[Int.tmod_eq_emod_of_nonneg (by omega)];omega⟩
 obtain⟨s0,hs0,hs0b⟩:∃ x:Int,sx.tmod 3=x∧0≤x∧x≤2:=⟨_,rfl,by rw[Int.tmod_eq_emod_of_nonneg (by omega)];omega,by rw[Int.tmod_eq_emod_of_nonneg (by omega)];omega⟩
 obtain⟨bl,hbl⟩:∃ x:Int,b0+1=x:=⟨_,rfl⟩
 obtain⟨sz,hsz⟩:∃ x:Int,s0+1=x:=⟨_,rfl⟩
 obtain⟨pm,hpm,hpm1,hpm2⟩:∃ x:Int,px.tmod bl=x∧0≤x∧x<bl:=⟨_,rfl,by rw[Int.tmod_eq_emod_of_nonneg (by omega)];exact Int.emod_nonneg _ (by omega),by rw[Int.tmod_eq_emod_of_nonneg (by omega)];exact Int.emod_lt_of_pos _ (by omega)⟩
 obtain⟨cc,hcc⟩:∃ x:Int,(bl+(pm+1) - 1) / (pm+1)=x:=⟨_,rfl⟩
 have hccb:0≤cc∧cc≤9:=by
   rw[← hcc]
   have h1:=Int.ediv_nonneg (show 0≤bl+(pm+1) - 1 by omega) (show 0≤pm+1 by omega)
   refine⟨h1,?_⟩
   have h2:(bl+(pm+1) - 1) / (pm+1)<10:=Int.ediv_lt_of_lt_mul (by omega) (by have ao:10*(pm+1)=10*pm+10:=(by omega);omega)
   omega
 refine zsr fun K0 hK0=>plz<|hZ U m0 20 i8 rfl fun g1 Y w2 U m2 _ _=>znl<|hK0 _ _<|zsr fun K1 hK1=>g9 U (.move rfl<|.rem rfl rfl (by decide) (r:=vm) hvm<|.conv rfl U5 U3 (r:=vm) (IntWalk.i64_in _ (by omega))<|.move rfl<|.rem rfl rfl (by decide) (r:=b0) hb0<|.conv rfl U5 U3 (r:=b0) (IntWalk.i64_in _ (by omega))<|.add rfl rfl (r:=bl) (by rw[hbl];exact(IntWalk.i64_in _ (by omega)))<|.move rfl<|.rem rfl rfl (by decide) (r:=s0) hs0<|.conv rfl U5 U3 (r:=s0) (IntWalk.i64_in _ (by omega))<|.add rfl rfl (r:=sz) (by rw[hsz];exact(IntWalk.i64_in _ (by omega)))<|.move rfl<|.build rfl i8 uS rfl (by dsimp only [iY,List.set] <;> rfl) .nil) fun Y U=>plz<|hZ U m2 21 i8 rfl fun ap Y aq U ak _ _=>plz (stw U ak 21 ip fun ar ad _ =>?_)
 refine znl (hK1 _ _ ?_)
 replace U:=U.oz [3,10,11]
 refine zsr fun K2 hK2=>g9 U (.move rfl<|.conv rfl U5 U3 (r:=px) (IntWalk.i64_in _ (by omega))<|.fa 2 rfl U38<|.lb ad 21 U3 rfl rfl rfl<|.rem rfl rfl (by omega) (r:=pm) hpm<|.add rfl rfl (r:=pm+1) (IntWalk.i64_in _ (by omega))<|.fa 4 rfl U38 .nil) fun Y U=>plz (st1 U ad 21 iG fun au ae _ =>?_)
 refine znl<|hK2 _ _<|wsk fun K3 hK3 =>?_
 replace U:=U.oz [3,10,11]
 refine hC U (.assign rfl .nil) fun Y U=>wp_block<|wp_loop_ghost (fun g a w => ∃ (i A D:Nat) (q:Option Addr) (c:Nat),(i:Int)≤cc∧g=cc.toNat - i∧Has 54 [(3,.int .u8 px),(10,.pointer (some ⟨A,0,none⟩)),(11,.pointer (some ⟨D,0,none⟩)),(12,.int .i64 (i:Int))] a∧MemOk (cn w0) w0 [(8,.box A 38 [.int .i64 0,.int .i64 0,.int .i64 0,.int .i64 0,.int .i64 0,.slice none 0 0,.int .i64 0,.int .i64 0,.int .i64 0,.slice none 0 0]),(9,.box D 38 [.int .i64 1,.int .i64 vm,.int .i64 bl,.int .i64 sz,.int .i64 (pm+1),.slice q (crL px i).length c,.int .i64 to,.int .i64 0,.int .i64 0,.slice none 0 0]),(10,.num (.slice q (crL px i).length c) 3 .i64 (crL px i))] w) (cc.toNat) ?_ ?_
 · have mz:=ae.nilN 10 3 .i64
   exact⟨0,_,_,_,_,by omega,rfl,U.only [3,10,11,12],mz.ren [(8,20),(9,21),(10,10)] (by decide)⟩
 clear U ae
 rintro g Y av ⟨i,A,D,q,c,hic,hg,U,ac⟩
 refine wsk fun K4 hK4=>zsr fun K5 hK5=>g9 U (.move rfl<|.fa 2 rfl U38<|.lb ac 9 U3 rfl rfl rfl<|.fa 4 rfl U38<|.lb ac 9 U3 rfl rfl rfl .nil) fun Y U=>plz<|ecb U Tryz.func91 rfl ac (mg bl (pm+1) _ (by omega) (by omega)) fun Y aw U ab=>gz hK5 U (.lss rfl rfl .nil) fun Y U=>bc U 39 ?_ ?_
 ·
  intro aa U;try simp only [QQ,Qax] at aa
  rw[hcc] at aa
  have hi9:(i:Int)<cc:=by omega
  refine wct U<|zss<|hK4 _ _<|wsk fun K6 hK6=>wp_block ?_
  replace U:=U.oz [3,10,11,12,38]
  refine wp_region_lit<|g9 U (.fa 5 rfl U38<|.lb ab 9 U35 rfl rfl rfl<|.move rfl<|.move rfl<|.conv rfl U5 U3 (r:=px) (IntWalk.i64_in _ (by omega))<|.add rfl rfl (r:=(i:Int)+px) (IntWalk.i64_in _ (by omega))<|.rem rfl rfl (by decide) (Int.tmod_eq_emod_of_nonneg (by omega))<|.add rfl rfl (r:=1+((i:Int)+px) % 2) (IntWalk.i64_in _ (by omega)) .nil) fun Y U=>plz<|iv U ab 100 (k:=.i64) rfl rfl U35 jI rfl rfl rfl rfl fun ax Y ay U ag=>plz<|iC U ag 10 rfl rfl rfl (ag.numsO (i:=100) rfl) U35 jI (by decide) (by simp [oe];omega) rfl fun az aA Y aB U al=>g9 U (.fieldAddr (off:=5) rfl U38 rfl (s:=0) (by kernel_rfl) rfl .nil) fun Y U=>plz (st1 U al 9 n0 fun aC ah _ =>?_)
  refine znl (hK6 _ _ ?_)
  replace U:=U.oz [3,10,11,12,38]
  refine wp_region_lit<|g9 U (.move rfl<|.inc (i+1)<|.assign rfl .nil) fun Y U=>wpList_nil ?_
  show ∃ n',n'<_∧_
  have hE:crL px i++[1+((i:Int)+px) % 2]=crL px (i+1):=(sO px i).symm
  rw[hE] at ah
  exact⟨cc.toNat - (i+1),by omega,i+1,_,_,_,_,by omega,rfl,U.only [3,10,11,12],ah.only [8,9,10]⟩
 intro aa U;try simp only [QQ,Qax] at aa
 rw[hcc] at aa
 have hi9:(i:Int)=cc:=by omega
 refine wcf U<|wp_exit<|hK3 _ _ ?_
 replace U:=U.oz [3,10,11,12,38]
 refine zsr fun K7 hK7=>g9 U (.loadBR ab (i:=9) rfl rfl U38 rfl ip (by simp) (by dsimp only [List.drop,List.take] <;> rfl) .nil) fun Y U=>plz (stw U ab 8 ip fun aD ai _ =>?_)
 refine znl<|hK7 _ _<|rtd (kG (fn:=Tryz.f42) U ai (i:=8) rfl rfl rfl U38 rfl ip ?_)
 have aj:=ai.freezeN 10 rfl
 exact⟨bl,sz,pm+1,crL px i,_,_,by rw[hvm],by omega,by omega,by omega,by omega,⟨xi px i,by rw[oe,hcc];exact hi9⟩,by rw[oe];omega,aj.outF (i:=10) rfl,aj.below⟩
theorem qT(X)(x:VolV)(c:Cm)(n)(hx:VolS n x)(hn:n≤800000)(hil:c.its.length≤1000000)(hio:j3 c.its)(p1 p2 p3 q1 pi c1 c2 c3 n1 d1 ci)(v1 v2 v3 v4 v5:Int)(w0)(m0:MemOk X w0 [(1,.dat (.slice p1 x.place.length c1) (.ns .i64 x.place)),(2,.dat (.slice p2 x.pins.length c2) (.ns .i64 x.pins)),(3,.dat (.slice p3 (x.ws.map wrD).length c3) (.l 2 (x.ws.map wrD))),(4,.dat (.slice pi c.its.length ci) (.l 2 (c.its.map itD)))] w0) :
   Calls Tryz.prog 40 #[.agg #[.int .i64 x.vo,.int .i64 x.bl,.int .i64 x.sz,.int .i64 x.pe,.slice p1 x.place.length c1,.int .i64 x.to,.int .i64 x.ne,.bool x.hi,.int .i64 x.fl,.slice p2 x.pins.length c2,.slice p3 (x.ws.map wrD).length c3],.agg #[.int .i64 c.kd,.int .i64 v1,.int .i64 v2,.int .i64 v3,.int .i64 v4,.slice q1 n1 d1,.int .i64 v5,.int .i64 c.at0,.int .i64 c.ix,.slice pi c.its.length ci]] w0 fun e w' => ∃ (y:VolV) (e9 rl rf rn:Int) (p1 p2 p3:Option Addr) (d1 d2 d3:Nat),e=.returned (.tuple #[.agg #[.int .i64 y.vo,.int .i64 y.bl,.int .i64 y.sz,.int .i64 y.pe,.slice p1 y.place.length d1,.int .i64 y.to,.int .i64 y.ne,.bool y.hi,.int .i64 y.fl,.slice p2 y.pins.length d2,.slice p3 (y.ws.map wrD).length d3],.agg #[.int .i64 e9,.int .i64 rl,.int .i64 rf,.int .i64 rn,.slice none 0 0]])∧doV x c=(y,e9)∧nu y e9=(rl,rf,rn)∧MemOk X w0 [(1,.dat (.slice p1 y.place.length d1) (.ns .i64 y.place)),(2,.dat (.slice p2 y.pins.length d2) (.ns .i64 y.pins)),(3,.dat (.slice p3 (y.ws.map wrD).length d3) (.l 2 (y.ws.map wrD)))] w':=by
 obtain⟨vo,bl,sz,pe,place,to,ne,hi,fl,pins,ws⟩:=x
 obtain⟨kd,cvo,cbl,csz,cpe,cpl,cto,at0,ix,its⟩:=c
 obtain⟨h1,h2,h3,h4,h5⟩:=hx
 simp only at *
 have hne : -1000000000000000≤ne∧ne≤1000000000000000:=by
   obtain⟨⟨a1,a2,a3,a4,a5,a6,a7,a8,a9,aa,ab⟩,b1,b2,b3⟩:=h1
   omega
 by_cases k4:kd=4
 · subst k4
   refine(zk X vo bl sz pe to ne fl hi place pins ws p1 p2 p3 c1 c2 c3 v1 v2 v3 v4 v5 at0 ix q1 n1 d1 pi its.length ci w0 (by omega) h1.sorted (m0.only [1,2,3])).mono ?_
   rintro e w' ⟨pins',e9,rl,rf,rn,p2',d2',rfl,hd,hr,m⟩
   refine⟨⟨vo,bl,sz,pe,place,to,ne,hi,fl,pins',ws⟩,e9,rl,rf,rn,_,_,_,_,_,_,rfl,?_,k8 hr,m.ren [(1,1),(2,6),(3,3)] (by decide)⟩
   simp only [doV,if_true,hd]
 by_cases k5:kd=5
 · subst k5
   refine(zl X vo bl sz pe to ne fl hi place pins ws p1 p2 p3 c1 c2 c3 v1 v2 v3 v4 v5 at0 ix q1 n1 d1 pi its.length ci w0 (by omega) (m0.only [1,2,3])).mono ?_
   rintro e w' ⟨pins',e9,rl,rf,rn,p2',d2',rfl,hd,hr,m⟩
   refine⟨⟨vo,bl,sz,pe,place,to,ne,hi,fl,pins',ws⟩,e9,rl,rf,rn,_,_,_,_,_,_,rfl,?_,k8 hr,m.ren [(1,1),(2,6),(3,3)] (by decide)⟩
   simp only [doV,hd];rfl
 refine(rDo X vo bl sz pe to ne fl hi place pins ws its p1 p2 p3 c1 c2 c3 pi ci kd v1 v2 v3 v4 v5 at0 ix q1 n1 d1 w0 k4 k5 hne (by omega) (by omega) hil hio m0).mono ?_
 rintro e w' ⟨ne',hi',fl',ws',e9,rl,rf,rn,p3',d3',rfl,hd,hr,m⟩
 refine⟨⟨vo,bl,sz,pe,place,to,ne',hi',fl',pins,ws'⟩,e9,rl,rf,rn,_,_,_,_,_,_,rfl,?_,k8 hr,m.ren [(1,1),(2,2),(3,7)] (by decide)⟩
 simp only [doV,if_neg k4,if_neg k5,hd]
end
section
theorem uU{l:List Int}(h:∀ i,i<k→0≤l.getD i 0∧l.getD i 0≤7)(hk:0≤l.getD k 0∧l.getD k 0≤7):∀ i,i<k+1→0≤l.getD i 0∧l.getD i 0≤7:=fun i hi=>by
 rcases Nat.lt_or_ge i k with h1|h1
 · exact h i h1
 obtain rfl:i=k:=by omega
 exact hk
theorem xk{l:List Int}(h:∀ i,i<l.length→0≤l.getD i 0∧l.getD i 0≤7):∀ z∈l,0≤z∧z≤7:=fun z hz=>by
 obtain⟨j,hj,rfl⟩:=List.getElem_of_mem hz
 have:=h j hj
 rwa [List.getD,List.getElem?_eq_getElem hj] at this
theorem jB(n)(w0:World):Calls Tryz.prog 72 #[.int .i64 n] w0 fun e w' => ∃ b:Bool,e=.returned (.bool b)∧(b=true→0≤n∧n≤1099511627776)∧Below w0.heap.size w0 w':=by
 refine i9 Tryz.func72 rfl Tryz.ntmps72 fun Y U =>?_
 have m0:=MemOk.start (fun _=>False) w0
 refine hC U (.assign rfl .nil) fun Y U=>zsr fun K0 hK0=>g9 U (.move rfl<|.geq rfl rfl<|.move rfl .nil) fun Y U=>bc U 5 ?_ ?_
 ·
  intro hb8 U;try simp only [QQ,Qax] at hb8
  refine gz hK0 U (.moveZ rfl<|.leqZ rfl rfl<|.pickT rfl rfl<|.assign rfl<|.nil) fun Y U=>rt1 U ?_
  exact⟨_,rfl,(by intro h9;first|(exact absurd h9 (by decide))|(have h8:=of_decide_eq_true h9;omega)|(simp at h9;omega)),m0.below⟩
 intro hb8 U;try simp only [QQ,Qax] at hb8
 refine gz hK0 U (.sk<|.sk<|.pickF rfl rfl<|.assign rfl<|.nil) fun Y U=>rt1 U ?_
 exact⟨_,rfl,(by intro h9;first|(exact absurd h9 (by decide))|(have h8:=of_decide_eq_true h9;omega)|(simp at h9;omega)),m0.below⟩
theorem og(kd vo bl sz pe to at0 ix:Int)(place:List Int)(items:List (Int×List Int))(pp pi)(cp ni ci:Nat)(w0:World)(h0:Rd (fun _=>True) w0 (.slice pp place.length cp) (.ns .i64 place))(h1:Rd (fun _=>True) w0 (.slice pi ni ci) (.l 2 (items.map itD)))(hp:place.length≤1000000)(hl:items.length≤1000000) :
   Calls Tryz.prog 27 #[.agg #[.int .i64 kd,.int .i64 vo,.int .i64 bl,.int .i64 sz,.int .i64 pe,.slice pp place.length cp,.int .i64 to,.int .i64 at0,.int .i64 ix,.slice pi ni ci]] w0 fun e w' => ∃ b:Bool,e=.returned (.bool b)∧(b=true→CmdR ⟨kd,vo,bl,sz,pe,place,to,at0,ix,items⟩)∧Below w0.heap.size w0 w':=by
 obtain rfl:ni=items.length:=by obtain⟨pq,c9,hv,_⟩:=h1.l_shape;injection hv with _ e2 _;rw[List.length_map] at e2;exact e2
 refine i9 Tryz.func27 rfl Tryz.ntmps27 fun Y U =>?_
 have m0:=MemOk.start (fun _=>False) w0
 refine zsr fun K0 hK0=>plz<|iu U m0 20 (cs:=[_,_,_,_,_,_,_,_,_,_]) rfl rfl rfl fun g1 Y w2 U m2 _ _=>gz hK0 U (.assign rfl .nil) fun Y U=>wsk fun K1 hK1=>zsr fun K2 hK2=>g9 U (.fa 0 rfl U38<|.lb m2 20 U3 rfl rfl rfl<|.lss rfl rfl<|.move rfl .nil) fun Y U=>bc U 8 ?_ ?_
 ·
  intro aF U;try simp only [QQ,Qax] at aF
  refine gz hK2 U (.sk<|.sk<|.sk<|.pickT rfl rfl<|.move rfl<|.sk<|.sk<|.sk<|.pickT rfl rfl<|.move rfl<|.sk<|.sk<|.sk<|.pickT rfl rfl<|.move rfl<|.sk<|.sk<|.sk<|.sk<|.pickT rfl rfl<|.move rfl<|.sk<|.sk<|.sk<|.sk<|.pickT rfl rfl<|.move rfl<|.sk<|.sk<|.sk<|.sk<|.pickT rfl rfl<|.move rfl<|.sk<|.sk<|.sk<|.sk<|.pickT rfl rfl<|.move rfl<|.sk<|.sk<|.sk<|.sk<|.pickT rfl rfl<|.move rfl<|.sk<|.sk<|.sk<|.sk<|.pickT rfl rfl<|.move rfl<|.sk<|.sk<|.sk<|.sk<|.pickT rfl rfl<|.move rfl<|.sk<|.sk<|.sk<|.sk<|.pickT rfl rfl<|.nil) fun Y U=>wct U ?_
  replace U:=U.oz [1,2]
  refine hC U (.assign rfl .nil) fun Y U=>rt1 U ?_
  exact⟨false,rfl,(fun h=>by cases h),m2.below⟩
 intro aF U;try simp only [QQ,Qax] at aF
 refine g9 U (.faZ 0 rfl U38<|.loadB1Z m2 (i:=20) rfl rfl rfl U3 rfl<|.gtrZ rfl rfl<|.pickF rfl rfl<|.move rfl .nil) fun Y U=>bc U 13 ?_ ?_
 ·
  intro aG U;try simp only [QQ,Qax] at aG
  refine gz hK2 U (.sk<|.sk<|.sk<|.pickT rfl rfl<|.move rfl<|.sk<|.sk<|.sk<|.pickT rfl rfl<|.move rfl<|.sk<|.sk<|.sk<|.sk<|.pickT rfl rfl<|.move rfl<|.sk<|.sk<|.sk<|.sk<|.pickT rfl rfl<|.move rfl<|.sk<|.sk<|.sk<|.sk<|.pickT rfl rfl<|.move rfl<|.sk<|.sk<|.sk<|.sk<|.pickT rfl rfl<|.move rfl<|.sk<|.sk<|.sk<|.sk<|.pickT rfl rfl<|.move rfl<|.sk<|.sk<|.sk<|.sk<|.pickT rfl rfl<|.move rfl<|.sk<|.sk<|.sk<|.sk<|.pickT rfl rfl<|.move rfl<|.sk<|.sk<|.sk<|.sk<|.pickT rfl rfl<|.nil) fun Y U=>wct U ?_
  replace U:=U.oz [1,2]
  refine hC U (.assign rfl .nil) fun Y U=>rt1 U ?_
  exact⟨false,rfl,(fun h=>by cases h),m2.below⟩
 intro aG U;try simp only [QQ,Qax] at aG
 refine g9 U (.faZ 1 rfl U38<|.loadB1Z m2 (i:=20) rfl rfl rfl U3 rfl<|.lssZ rfl rfl<|.pickF rfl rfl<|.move rfl .nil) fun Y U=>bc U 18 ?_ ?_
 ·
  intro ah U;try simp only [QQ,Qax] at ah
  refine gz hK2 U (.sk<|.sk<|.sk<|.pickT rfl rfl<|.move rfl<|.sk<|.sk<|.sk<|.sk<|.pickT rfl rfl<|.move rfl<|.sk<|.sk<|.sk<|.sk<|.pickT rfl rfl<|.move rfl<|.sk<|.sk<|.sk<|.sk<|.pickT rfl rfl<|.move rfl<|.sk<|.sk<|.sk<|.sk<|.pickT rfl rfl<|.move rfl<|.sk<|.sk<|.sk<|.sk<|.pickT rfl rfl<|.move rfl<|.sk<|.sk<|.sk<|.sk<|.pickT rfl rfl<|.move rfl<|.sk<|.sk<|.sk<|.sk<|.pickT rfl rfl<|.move rfl<|.sk<|.sk<|.sk<|.sk<|.pickT rfl rfl<|.nil) fun Y U=>wct U ?_
  replace U:=U.oz [1,2]
  refine hC U (.assign rfl .nil) fun Y U=>rt1 U ?_
  exact⟨false,rfl,(fun h=>by cases h),m2.below⟩
 intro ah U;try simp only [QQ,Qax] at ah
 refine g9 U (.faZ 1 rfl U38<|.loadB1Z m2 (i:=20) rfl rfl rfl U3 rfl<|.geqZ rfl rfl<|.pickF rfl rfl<|.move rfl .nil) fun Y U=>bc U 23 ?_ ?_
 ·
  intro ai U;try simp only [QQ,Qax] at ai
  refine gz hK2 U (.sk<|.sk<|.sk<|.sk<|.pickT rfl rfl<|.move rfl<|.sk<|.sk<|.sk<|.sk<|.pickT rfl rfl<|.move rfl<|.sk<|.sk<|.sk<|.sk<|.pickT rfl rfl<|.move rfl<|.sk<|.sk<|.sk<|.sk<|.pickT rfl rfl<|.move rfl<|.sk<|.sk<|.sk<|.sk<|.pickT rfl rfl<|.move rfl<|.sk<|.sk<|.sk<|.sk<|.pickT rfl rfl<|.move rfl<|.sk<|.sk<|.sk<|.sk<|.pickT rfl rfl<|.move rfl<|.sk<|.sk<|.sk<|.sk<|.pickT rfl rfl<|.nil) fun Y U=>wct U ?_
  replace U:=U.oz [1,2]
  refine hC U (.assign rfl .nil) fun Y U=>rt1 U ?_
  exact⟨false,rfl,(fun h=>by cases h),m2.below⟩
 intro ai U;try simp only [QQ,Qax] at ai
 refine g9 U (.faZ 2 rfl U38<|.loadB1Z m2 (i:=20) rfl rfl rfl U3 rfl .nil) fun Y U=>stz U (ecl U Tryz.func72 rfl (jB _ _) ?_)
 rintro e bK ⟨bg,rfl,aS,aT⟩
 have aH:=m2.later aT
 refine⟨_,rfl,?_⟩;intro Y U
 refine g9 U (.notZ rfl<|.pickF rfl rfl<|.move rfl .nil) fun Y U=>bc U 29 ?_ ?_
 ·
  intro aj U;try simp only [QQ,Qax] at aj
  refine gz hK2 U (.sk<|.sk<|.sk<|.sk<|.pickT rfl rfl<|.move rfl<|.sk<|.sk<|.sk<|.sk<|.pickT rfl rfl<|.move rfl<|.sk<|.sk<|.sk<|.sk<|.pickT rfl rfl<|.move rfl<|.sk<|.sk<|.sk<|.sk<|.pickT rfl rfl<|.move rfl<|.sk<|.sk<|.sk<|.sk<|.pickT rfl rfl<|.move rfl<|.sk<|.sk<|.sk<|.sk<|.pickT rfl rfl<|.move rfl<|.sk<|.sk<|.sk<|.sk<|.pickT rfl rfl<|.nil) fun Y U=>wct U ?_
  replace U:=U.oz [1,2]
  refine hC U (.assign rfl .nil) fun Y U=>rt1 U ?_
  exact⟨false,rfl,(fun h=>by cases h),aH.below⟩
 intro aj U;try simp only [QQ,Qax] at aj
 refine g9 U (.faZ 3 rfl U38<|.loadB1Z aH (i:=20) rfl rfl rfl U3 rfl .nil) fun Y U=>stz U (ecl U Tryz.func72 rfl (jB _ _) ?_)
 rintro e bL ⟨bh,rfl,aU,aV⟩
 have aI:=aH.later aV
 refine⟨_,rfl,?_⟩;intro Y U
 refine g9 U (.notZ rfl<|.pickF rfl rfl<|.move rfl .nil) fun Y U=>bc U 35 ?_ ?_
 ·
  intro ak U;try simp only [QQ,Qax] at ak
  refine gz hK2 U (.sk<|.sk<|.sk<|.sk<|.pickT rfl rfl<|.move rfl<|.sk<|.sk<|.sk<|.sk<|.pickT rfl rfl<|.move rfl<|.sk<|.sk<|.sk<|.sk<|.pickT rfl rfl<|.move rfl<|.sk<|.sk<|.sk<|.sk<|.pickT rfl rfl<|.move rfl<|.sk<|.sk<|.sk<|.sk<|.pickT rfl rfl<|.move rfl<|.sk<|.sk<|.sk<|.sk<|.pickT rfl rfl<|.nil) fun Y U=>wct U ?_
  replace U:=U.oz [1,2]
  refine hC U (.assign rfl .nil) fun Y U=>rt1 U ?_
  exact⟨false,rfl,(fun h=>by cases h),aI.below⟩
 intro ak U;try simp only [QQ,Qax] at ak
 refine g9 U (.faZ 4 rfl U38<|.loadB1Z aI (i:=20) rfl rfl rfl U3 rfl .nil) fun Y U=>stz U (ecl U Tryz.func72 rfl (jB _ _) ?_)
 rintro e bM ⟨bi,rfl,aW,aX⟩
 have aJ:=aI.later aX
 refine⟨_,rfl,?_⟩;intro Y U
 refine g9 U (.notZ rfl<|.pickF rfl rfl<|.move rfl .nil) fun Y U=>bc U 41 ?_ ?_
 ·
  intro al U;try simp only [QQ,Qax] at al
  refine gz hK2 U (.sk<|.sk<|.sk<|.sk<|.pickT rfl rfl<|.move rfl<|.sk<|.sk<|.sk<|.sk<|.pickT rfl rfl<|.move rfl<|.sk<|.sk<|.sk<|.sk<|.pickT rfl rfl<|.move rfl<|.sk<|.sk<|.sk<|.sk<|.pickT rfl rfl<|.move rfl<|.sk<|.sk<|.sk<|.sk<|.pickT rfl rfl<|.nil) fun Y U=>wct U ?_
  replace U:=U.oz [1,2]
  refine hC U (.assign rfl .nil) fun Y U=>rt1 U ?_
  exact⟨false,rfl,(fun h=>by cases h),aJ.below⟩
 intro al U;try simp only [QQ,Qax] at al
 refine g9 U (.faZ 6 rfl U38<|.loadB1Z aJ (i:=20) rfl rfl rfl U3 rfl .nil) fun Y U=>stz U (ecl U Tryz.func72 rfl (jB _ _) ?_)
 rintro e bN ⟨bj,rfl,aY,aZ⟩
 have aK:=aJ.later aZ
 refine⟨_,rfl,?_⟩;intro Y U
 refine g9 U (.notZ rfl<|.pickF rfl rfl<|.move rfl .nil) fun Y U=>bc U 47 ?_ ?_
 ·
  intro ao U;try simp only [QQ,Qax] at ao
  refine gz hK2 U (.sk<|.sk<|.sk<|.sk<|.pickT rfl rfl<|.move rfl<|.sk<|.sk<|.sk<|.sk<|.pickT rfl rfl<|.move rfl<|.sk<|.sk<|.sk<|.sk<|.pickT rfl rfl<|.move rfl<|.sk<|.sk<|.sk<|.sk<|.pickT rfl rfl<|.nil) fun Y U=>wct U ?_
  replace U:=U.oz [1,2]
  refine hC U (.assign rfl .nil) fun Y U=>rt1 U ?_
  exact⟨false,rfl,(fun h=>by cases h),aK.below⟩
 intro ao U;try simp only [QQ,Qax] at ao
 refine g9 U (.faZ 8 rfl U38<|.loadB1Z aK (i:=20) rfl rfl rfl U3 rfl .nil) fun Y U=>stz U (ecl U Tryz.func72 rfl (jB _ _) ?_)
 rintro e bO ⟨bk,rfl,a0,a1⟩
 have aL:=aK.later a1
 refine⟨_,rfl,?_⟩;intro Y U
 refine g9 U (.notZ rfl<|.pickF rfl rfl<|.move rfl .nil) fun Y U=>bc U 53 ?_ ?_
 ·
  intro ap U;try simp only [QQ,Qax] at ap
  refine gz hK2 U (.sk<|.sk<|.sk<|.sk<|.pickT rfl rfl<|.move rfl<|.sk<|.sk<|.sk<|.sk<|.pickT rfl rfl<|.move rfl<|.sk<|.sk<|.sk<|.sk<|.pickT rfl rfl<|.nil) fun Y U=>wct U ?_
  replace U:=U.oz [1,2]
  refine hC U (.assign rfl .nil) fun Y U=>rt1 U ?_
  exact⟨false,rfl,(fun h=>by cases h),aL.below⟩
 intro ap U;try simp only [QQ,Qax] at ap
 refine g9 U (.faZ 7 rfl U38<|.loadB1Z aL (i:=20) rfl rfl rfl U2 rfl .nil) fun Y U=>stz U (ecl U Tryz.func72 rfl (jB _ _) ?_)
 rintro e bP ⟨bm,rfl,a2,a3⟩
 have ac:=aL.later a3
 refine⟨_,rfl,?_⟩;intro Y U
 refine g9 U (.notZ rfl<|.pickF rfl rfl<|.move rfl .nil) fun Y U=>bc U 59 ?_ ?_
 ·
  intro aq U;try simp only [QQ,Qax] at aq
  refine gz hK2 U (.sk<|.sk<|.sk<|.sk<|.pickT rfl rfl<|.move rfl<|.sk<|.sk<|.sk<|.sk<|.pickT rfl rfl<|.nil) fun Y U=>wct U ?_
  replace U:=U.oz [1,2]
  refine hC U (.assign rfl .nil) fun Y U=>rt1 U ?_
  exact⟨false,rfl,(fun h=>by cases h),ac.below⟩
 intro aq U;try simp only [QQ,Qax] at aq
 refine g9 U (.faZ 5 rfl U38<|.loadB1Z ac (i:=20) rfl rfl rfl U35 rfl<|.lenZ rfl U35<|.gtrZ rfl rfl<|.pickF rfl rfl<|.move rfl .nil) fun Y U=>bc U 65 ?_ ?_
 ·
  intro ar U;try simp only [QQ,Qax] at ar
  refine gz hK2 U (.sk<|.sk<|.sk<|.sk<|.pickT rfl rfl<|.nil) fun Y U=>wct U ?_
  replace U:=U.oz [1,2]
  refine hC U (.assign rfl .nil) fun Y U=>rt1 U ?_
  exact⟨false,rfl,(fun h=>by cases h),ac.below⟩
 intro ar U;try simp only [QQ,Qax] at ar
 refine gz hK2 U (.faZ 9 rfl U38<|.loadB1Z ac (i:=20) rfl rfl rfl U36 rfl<|.lenZ rfl U36<|.gtrZ rfl rfl<|.pickF rfl rfl<|.nil) fun Y U=>bc U 70 ?_ ?_
 ·
  intro au U;try simp only [QQ,Qax] at au
  refine wct U ?_
  replace U:=U.oz [1,2]
  refine hC U (.assign rfl .nil) fun Y U=>rt1 U ?_
  exact⟨false,rfl,(fun h=>by cases h),ac.below⟩
 intro au U;try simp only [QQ,Qax] at au
 have hw16a:=aS (by simp_all)
 have hw16b:=aU (by simp_all)
 have hw16c:=aW (by simp_all)
 have hw16d:=aY (by simp_all)
 have hw16e:=a0 (by simp_all)
 have hw16f:=a2 (by simp_all)
 refine wcf U<|zss<|hK1 _ _<|wsk fun K3 hK3 =>?_
 replace U:=U.oz [1,2]
 refine hC U (.assign rfl .nil) fun Y U=>wp_block<|wp_loop_ghost (fun g a w => ∃ (k B:Nat),k≤place.length∧(∀ i,i<k→0≤place.getD i 0∧place.getD i 0≤7)∧g=place.length - k∧Has 125 [(1,.pointer (some ⟨B,0,none⟩)),(3,.int .i64 k)] a∧MemOk (cn w0) w0 [(9,.box B 38 [.int .i64 kd,.int .i64 vo,.int .i64 bl,.int .i64 sz,.int .i64 pe,.slice pp place.length cp,.int .i64 to,.int .i64 at0,.int .i64 ix,.slice pi items.length ci])] w) (place.length) ?_ ?_
 · exact⟨0,_,Nat.zero_le _,(fun i hi=>absurd hi (Nat.not_lt_zero i)),rfl,U.only [1,3],ac.ren [(9,20)] (by decide)⟩
 clear U ac
 rintro g Y bQ ⟨k,B,hkl,hpa,hg,U,ab⟩
 refine wsk fun K4 hK4=>hC U (.move rfl<|.fa 5 rfl U38<|.lb ab 9 U35 rfl rfl rfl<|.len rfl U35<|.lss rfl rfl .nil) fun Y U=>bc U 75 ?_ ?_
 ·
  intro av U;try simp only [QQ,Qax] at av
  have hk:k<place.length:=by omega
  refine wct U<|zss<|hK4 _ _<|wsk fun K5 hK5=>wp_block<|zsr fun K6 hK6=>g9 U (.fa 5 rfl U38<|.lb ab 9 U35 rfl rfl rfl<|.move rfl .nil) fun Y U =>?_
  obtain⟨bn,bo,a4,bp,aM⟩:=h0.extN (k) hk
  revert U
  cases a4
  intro U
  refine g9 U (.c rfl (fun _ h_=>ii h_ rfl rfl U35 iG (k) rfl hk)<|.loadAt1 (aM ab rfl) (q:=0) rfl rfl rfl U3 rfl<|.lss rfl rfl<|.move rfl .nil) fun Y U=>bc U 84 ?_ ?_
  ·
   intro aw U;try simp only [QQ,Qax] at aw
   refine gz hK6 U (.sk<|.sk<|.sk<|.sk<|.sk<|.sk<|.pickT rfl rfl<|.nil) fun Y U=>wct U ?_
   replace U:=U.oz [1,3]
   refine hC U (.assign rfl .nil) fun Y U=>rt1 U ?_
   exact⟨false,rfl,(fun h=>by cases h),ab.below⟩
  intro aw U;try simp only [QQ,Qax] at aw
  refine g9 U (.faZ 5 rfl U38<|.loadB1Z ab (i:=9) rfl rfl rfl U35 rfl<|.moveZ rfl .nil) fun Y U =>?_
  obtain⟨bq,br,a5,bs,aN⟩:=h0.extN (k) hk
  revert U
  cases a5
  intro U
  refine gz hK6 U (.g rfl rfl rfl rfl (fun _ h_=>ii h_ rfl rfl U35 iG (k) rfl hk)<|.loadAt1Z (aN ab rfl) (q:=0) rfl rfl rfl U3 rfl<|.geqZ rfl rfl<|.pickF rfl rfl<|.nil) fun Y U=>bc U 91 ?_ ?_
  ·
   intro ax U;try simp only [QQ,Qax] at ax
   refine wct U ?_
   replace U:=U.oz [1,3]
   refine hC U (.assign rfl .nil) fun Y U=>rt1 U ?_
   exact⟨false,rfl,(fun h=>by cases h),ab.below⟩
  intro ax U;try simp only [QQ,Qax] at ax
  refine wcf U<|zss (hK5 _ _ ?_)
  replace U:=U.oz [1,3]
  refine wp_region_lit<|g9 U (.move rfl<|.inc (k+1)<|.assign rfl .nil) fun Y U=>wpList_nil ?_
  show ∃ n',n'<_∧_
  exact⟨place.length - (k+1),by omega,k+1,_,by omega,uU hpa (by omega),rfl,U.only [1,3],ab.only [9]⟩
 intro av U;try simp only [QQ,Qax] at av
 have hkp:k=place.length:=by omega
 refine wcf U<|wp_exit<|hK3 _ _<|wsk fun K7 hK7=>hC U (.assign rfl .nil) fun Y U=>wp_block<|wp_loop_ghost (fun g a w => ∃ (k B:Nat),k≤items.length∧g=items.length - k∧(∀ z∈place,0≤z∧z≤7)∧(∀ e∈items.take k,(0≤e.1∧e.1≤255)∧e.2.length≤32)∧Has 125 [(1,.pointer (some ⟨B,0,none⟩)),(4,.int .i64 k)] a∧MemOk (cn w0) w0 [(9,.box B 38 [.int .i64 kd,.int .i64 vo,.int .i64 bl,.int .i64 sz,.int .i64 pe,.slice pp place.length cp,.int .i64 to,.int .i64 at0,.int .i64 ix,.slice pi items.length ci])] w) (items.length) ?_ ?_
 · exact⟨0,_,Nat.zero_le _,rfl,(xk (hkp ▸ hpa)),(fun e he=>by cases he),U.only [1,4],ab.ren [(9,9)] (by decide)⟩
 clear U ab
 rintro g Y bR ⟨k,B,hkl,hg,hpz,hall,U,aa⟩
 refine wsk fun K8 hK8=>hC U (.move rfl<|.fa 9 rfl U38<|.lb aa 9 U36 rfl rfl rfl<|.len rfl U36<|.lss rfl rfl .nil) fun Y U=>bc U 96 ?_ ?_
 ·
  intro ay U;try simp only [QQ,Qax] at ay
  have hk:k<items.length:=by omega
  obtain⟨⟨xb,xd⟩,hes⟩:∃ e,items[k]? = some e:=⟨_,List.getElem?_eq_getElem hk⟩
  refine wct U<|zss<|hK8 _ _<|wsk fun K9 hK9=>wp_block<|zsr fun bY aO=>g9 U (.fa 9 rfl U38<|.lb aa 9 U36 rfl rfl rfl<|.move rfl .nil) fun Y U =>?_
  obtain⟨bt,bu,bv,a6,bw,a7,aP⟩:=h1.extA (k) (r:=[.v (.int .i64 xb),.ns .u8 xd]) (iB hes)
  revert U
  cases a6
  rcases a7 with _|⟨ad,_|⟨aC,_|_⟩⟩
  obtain rfl:=ad.v_out
  clear ad
  obtain⟨bS,bT,a8,bx⟩:=aC.ns_shape;subst a8
  intro U
  refine g9 U (.c rfl (fun _ h_=>ii h_ rfl rfl U36 jA (k) rfl hk)<|.fieldAddrQ 0 rfl U59 rfl (s:=0) (by kernel_rfl) rfl<|.loadAt1 (aP aa rfl) (q:=0) rfl rfl rfl U3 rfl<|.lss rfl rfl<|.move rfl .nil) fun Y U=>bc U 106 ?_ ?_
  ·
   intro az U;try simp only [QQ,Qax] at az
   refine gz aO U (.sk<|.sk<|.sk<|.sk<|.sk<|.sk<|.sk<|.pickT rfl rfl<|.move rfl<|.sk<|.sk<|.sk<|.sk<|.sk<|.sk<|.sk<|.sk<|.pickT rfl rfl<|.nil) fun Y U=>wct U ?_
   replace U:=U.oz [1,4]
   refine hC U (.assign rfl .nil) fun Y U=>rt1 U ?_
   exact⟨false,rfl,(fun h=>by cases h),aa.below⟩
  intro az U;try simp only [QQ,Qax] at az
  refine g9 U (.faZ 9 rfl U38<|.loadB1Z aa (i:=9) rfl rfl rfl U36 rfl<|.moveZ rfl .nil) fun Y U =>?_
  obtain⟨bz,bA,bB,a9,bC,ba,aQ⟩:=h1.extA (k) (r:=[.v (.int .i64 xb),.ns .u8 xd]) (iB hes)
  revert U
  cases a9
  rcases ba with _|⟨ae,_|⟨aD,_|_⟩⟩
  obtain rfl:=ae.v_out
  clear ae
  obtain⟨bU,bV,bb,bE⟩:=aD.ns_shape;subst bb
  intro U
  refine g9 U (.g rfl rfl rfl rfl (fun _ h_=>ii h_ rfl rfl U36 jA (k) rfl hk)<|.fieldAddrQZ 0 rfl U59 rfl (s:=0) (by kernel_rfl) rfl<|.loadAt1Z (aQ aa rfl) (q:=0) rfl rfl rfl U3 rfl<|.geqZ rfl rfl<|.pickF rfl rfl<|.move rfl .nil) fun Y U=>bc U 115 ?_ ?_
  ·
   intro aA U;try simp only [QQ,Qax] at aA
   refine gz aO U (.sk<|.sk<|.sk<|.sk<|.sk<|.sk<|.sk<|.sk<|.pickT rfl rfl<|.nil) fun Y U=>wct U ?_
   replace U:=U.oz [1,4]
   refine hC U (.assign rfl .nil) fun Y U=>rt1 U ?_
   exact⟨false,rfl,(fun h=>by cases h),aa.below⟩
  intro aA U;try simp only [QQ,Qax] at aA
  refine g9 U (.faZ 9 rfl U38<|.loadB1Z aa (i:=9) rfl rfl rfl U36 rfl<|.moveZ rfl .nil) fun Y U =>?_
  obtain⟨bF,bG,bH,bd,bI,be,aR⟩:=h1.extA (k) (r:=[.v (.int .i64 xb),.ns .u8 xd]) (iB hes)
  revert U
  cases bd
  rcases be with _|⟨ag,_|⟨aE,_|_⟩⟩
  obtain rfl:=ag.v_out
  clear ag
  obtain⟨bW,bX,bf,bJ⟩:=aE.ns_shape;subst bf
  intro U
  refine gz aO U (.g rfl rfl rfl rfl (fun _ h_=>ii h_ rfl rfl U36 jA (k) rfl hk)<|.fieldAddrQZ 1 rfl U59 rfl (s:=0) (by kernel_rfl) rfl<|.loadAt1Z (aR aa rfl) (q:=1) rfl rfl rfl U22 rfl<|.lenZ rfl U22<|.gtrZ rfl rfl<|.pickF rfl rfl<|.nil) fun Y U=>bc U 124 ?_ ?_
  ·
   intro aB U;try simp only [QQ,Qax] at aB
   refine wct U ?_
   replace U:=U.oz [1,4]
   refine hC U (.assign rfl .nil) fun Y U=>rt1 U ?_
   exact⟨false,rfl,(fun h=>by cases h),aa.below⟩
  intro aB U;try simp only [QQ,Qax] at aB
  refine wcf U<|zss (hK9 _ _ ?_)
  replace U:=U.oz [1,4]
  refine wp_region_lit<|g9 U (.move rfl<|.inc (k+1)<|.assign rfl .nil) fun Y U=>wpList_nil ?_
  show ∃ n',n'<_∧_
  exact⟨items.length - (k+1),by omega,k+1,_,by omega,rfl,hpz,o7 hall hes (by dsimp only;omega),U.only [1,4],aa.only [9]⟩
 intro ay U;try simp only [QQ,Qax] at ay
 have hk9:k=items.length:=by omega
 refine wcf U<|wp_exit<|hK7 _ _<|hC U (.assign rfl .nil) fun Y U=>rt1 U ?_
 exact⟨true,rfl,(fun _=>⟨by dsimp only;omega,by dsimp only;omega,⟨hw16a,hw16b,hw16c,hw16d,hw16f,hw16e⟩,by dsimp only;omega,hpz,by dsimp only;omega,fun e he=>hall e (by rwa [hk9,List.take_length])⟩),aa.below⟩
theorem oh(kd vo bl sz pe to at0 ix:Int)(place:List Int)(items:List (Int×List Int))(pp pi)(cp ni ci:Nat)(w0:World)(h0:Rd (fun _=>True) w0 (.slice pp place.length cp) (.ns .i64 place))(h1:Rd (fun _=>True) w0 (.slice pi ni ci) (.l 2 (items.map itD)))(hp:place.length≤1000000)(hl:items.length≤1000000)(hN:¬ CmdR ⟨kd,vo,bl,sz,pe,place,to,at0,ix,items⟩) :
   Calls Tryz.prog 27 #[.agg #[.int .i64 kd,.int .i64 vo,.int .i64 bl,.int .i64 sz,.int .i64 pe,.slice pp place.length cp,.int .i64 to,.int .i64 at0,.int .i64 ix,.slice pi ni ci]] w0 fun e w'=>e=.returned (.bool false)∧Below w0.heap.size w0 w':=
 (og kd vo bl sz pe to at0 ix place items pp pi cp ni ci w0 h0 h1 hp hl).mono (fun _ _ ⟨b,he,hb,hB⟩=>⟨by cases b with|false=>exact he|true=>exact absurd (hb rfl) hN,hB⟩)
theorem mi(kd vo bl sz pe to at0 ix:Int)(place:List Int)(items:List (Int×List Int))(pp pi)(cp ni ci:Nat)(w0:World)(h0:Rd (fun _=>True) w0 (.slice pp place.length cp) (.ns .i64 place))(h1:Rd (fun _=>True) w0 (.slice pi ni ci) (.l 2 (items.map itD)))(hp:place.length≤1000000)(hl:items.length≤1000000)(hN:¬ CmdR ⟨kd,vo,bl,sz,pe,place,to,at0,ix,items⟩) :
   Calls Tryz.prog 12 #[.agg #[.int .i64 kd,.int .i64 vo,.int .i64 bl,.int .i64 sz,.int .i64 pe,.slice pp place.length cp,.int .i64 to,.int .i64 at0,.int .i64 ix,.slice pi ni ci]] w0 fun e w'=>e=.returned (.tuple #[.slice none 0 0,.int .i64 23])∧Below w0.heap.size w0 w':=by
 obtain rfl:ni=items.length:=by obtain⟨pq,c9,hv,_⟩:=h1.l_shape;injection hv with _ e2 _;rw[List.length_map] at e2;exact e2
 refine i9 Tryz.func12 rfl Tryz.ntmps12 fun Y U =>?_
 have m0:=MemOk.start (fun _=>False) w0
 refine zsr fun K0 hK0=>plz<|iu U m0 20 (cs:=[_,_,_,_,_,_,_,_,_,_]) rfl rfl rfl fun g1 Y w2 U m2 _ _=>gz hK0 U (.assign rfl<|.assign rfl<|.nil) fun Y U=>wsk fun K1 hK1=>zsr fun K2 hK2=>g9 U (.loadBR m2 (i:=20) rfl rfl U38 rfl ip (by simp) (by dsimp only [List.drop,List.take] <;> rfl) .nil) fun Y U=>plz<|ecb U Tryz.func27 rfl m2 (oh _ _ _ _ _ _ _ _ place items _ _ _ _ _ _ ((h0.now' m2 rfl).any) ((h1.now' m2 rfl).any) hp hl hN) fun Y w7 U m8=>gz hK2 U (.not rfl .nil) fun Y U=>wct U<|hC U (.assign rfl<|.assign rfl .nil) fun Y U=>rt2 U ?_
 exact⟨rfl,m8.below⟩
end
section
theorem nk:iO Tryz.prog 38 [.int .i64 0,.int .i64 0,.int .i64 0,.int .i64 0,.int .i64 0,.slice none 0 0,.int .i64 0,.int .i64 0,.int .i64 0,.slice none 0 0]=true:=by kernel_rfl
theorem tz:iO Tryz.prog 115 [.slice none 0 0,.int .i64 0]=true:=by kernel_rfl
theorem mv(X)(b:List Int)(hb:b.length≤1000000)(hbb:BytesL b)(p)(c:Nat)(w0)(m0:MemOk X w0 [(1,.dat (.slice p b.length c) (.ns .u8 b))] w0) :
   Calls Tryz.prog 29 #[.slice p b.length c] w0 fun e w'=>(∃ (x:Cm) (pp pi:Option Addr) (cp ci:Nat),CmdR x∧(∀ e∈x.its,BytesL e.2)∧cmE x=b∧(∀ y:Cm,CmdR y→(∀ e∈y.its,BytesL e.2)→cmE y=b→y=x)∧e=.returned (.tuple #[.agg #[.int .i64 x.kd,.int .i64 x.vo,.int .i64 x.bl,.int .i64 x.sz,.int .i64 x.pe,.slice pp x.pl.length cp,.int .i64 x.to,.int .i64 x.at0,.int .i64 x.ix,.slice pi (x.its.map itD).length ci],.int .i64 0])∧MemOk X w0 [(1,.dat (.slice p b.length c) (.ns .u8 b)),(2,.dat (.slice pp x.pl.length cp) (.ns .i64 x.pl)),(3,.dat (.slice pi (x.its.map itD).length ci) (.l 2 (x.its.map itD)))] w')∨((∀ x:Cm,CmdR x→(∀ e∈x.its,BytesL e.2)→cmE x≠b)∧e=.returned (.tuple #[.agg #[.int .i64 0,.int .i64 0,.int .i64 0,.int .i64 0,.int .i64 0,.slice none 0 0,.int .i64 0,.int .i64 0,.int .i64 0,.slice none 0 0],.int .i64 20])∧MemOk X w0 [(1,.dat (.slice p b.length c) (.ns .u8 b))] w'):=by
 refine i9 Tryz.func29 rfl Tryz.ntmps29 fun Y U=>zsr fun K0 hK0=>plz<|hZ U m0 40 i8 rfl fun g1 Y w2 U m2 _ _=>gz hK0 U (.assign rfl .nil) fun Y U=>zsr fun K1 hK1=>g9 U (.move rfl<|.build rfl wZ tz rfl (by dsimp only [iY,List.set] <;> rfl) .nil) fun Y U=>plz<|iu U m2 41 (cs:=[_,_]) rfl rfl rfl fun g8 Y w9 U m9 _ _=>gz hK1 U (.assign rfl .nil) fun Y U=>zsr fun K2 hK2=>plz<|hZ U m9 42 i8 rfl fun cL Y cM U ca _ _=>znl<|hK2 _ _<|zsr fun K3 hK3=>g9 U (.move rfl .nil) fun Y U =>?_
 have bp:=ca.dat 43 rfl (ca.rd (i:=1) rfl)
 refine plz (ecl U Tryz.func65 rfl (iV _ _ b 0 8 _ _ _ hb hbb (by decide) (bp.into [(1,41),(2,43)] (by decide) rfl)) ?_)
 rintro e cN ⟨aa,aC,bq,cO,cP,rfl,cb,aD,aE,aF⟩
 have br:=bp.back aF [(41,1),(44,2)] (by decide);clear aF bp
 have cm:=br.oz [41,44,1,40,42]
 refine⟨_,rfl,?_⟩;intro Y U
 have ao:aC.length≤1000000:=Nat.le_trans aE.1 hb
 refine g9 U (.conv rfl jV U3 (IntWalk.i64_in _ (by omega))<|.fa 0 rfl U38 .nil) fun Y U=>plz (st1 U cm 42 iG fun cQ bs _ =>?_)
 refine znl (hK3 _ _ ?_)
 replace U:=U.oz [0,2,3,4,5]
 refine zsr fun K4 hK4=>g9 U (.move rfl .nil) fun Y U=>plz (ecl U Tryz.func65 rfl (iV _ _ aC bq 8 _ _ _ ao aE.2.1 (by decide) (bs.into [(1,41),(2,44)] (by decide) rfl)) ?_)
 rintro e cR ⟨ab,aG,bt,cS,cT,rfl,cc,aH,aI,aJ⟩
 have bu:=bs.back aJ [(41,1),(45,2)] (by decide);clear aJ bs
 have co:=bu.oz [41,45,1,40,42]
 refine⟨_,rfl,?_⟩;intro Y U
 have ap:aG.length≤1000000:=Nat.le_trans aI.1 ao
 refine g9 U (.conv rfl jV U3 (IntWalk.i64_in _ (by omega))<|.fa 1 rfl U38 .nil) fun Y U=>plz (st1 U co 42 iG fun cU bv _ =>?_)
 refine znl<|hK4 _ _<|zsr fun K5 hK5=>g9 U (.move rfl .nil) fun Y U=>plz (ecl U Tryz.func65 rfl (iV _ _ aG bt 1099511627776 _ _ _ ap aI.2.1 (by decide) (bv.into [(1,41),(2,45)] (by decide) rfl)) ?_)
 rintro e cV ⟨ac,aK,bw,cW,cX,rfl,cd,aL,aM,aN⟩
 have bx:=bv.back aN [(41,1),(46,2)] (by decide);clear aN bv
 have cq:=bx.oz [41,46,1,40,42]
 refine⟨_,rfl,?_⟩;intro Y U
 have aq:aK.length≤1000000:=Nat.le_trans aM.1 ap
 refine g9 U (.conv rfl jV U3 (IntWalk.i64_in _ (by omega))<|.fa 2 rfl U38 .nil) fun Y U=>plz (st1 U cq 42 iG fun cY bz _ =>?_)
 refine znl (hK5 _ _ ?_)
 replace U:=U.oz [0,2,3,4,5]
 refine zsr fun K6 hK6=>g9 U (.move rfl .nil) fun Y U=>plz (ecl U Tryz.func65 rfl (iV _ _ aK bw 1099511627776 _ _ _ aq aM.2.1 (by decide) (bz.into [(1,41),(2,46)] (by decide) rfl)) ?_)
 rintro e cZ ⟨ad,aO,bA,c0,c1,rfl,ce,aP,aQ,aR⟩
 have bB:=bz.back aR [(41,1),(47,2)] (by decide);clear aR bz
 have cr:=bB.oz [41,47,1,40,42]
 refine⟨_,rfl,?_⟩;intro Y U
 have ar:aO.length≤1000000:=Nat.le_trans aQ.1 aq
 refine g9 U (.conv rfl jV U3 (IntWalk.i64_in _ (by omega))<|.fa 3 rfl U38 .nil) fun Y U=>plz (st1 U cr 42 iG fun c2 bC _ =>?_)
 refine znl<|hK6 _ _<|zsr fun K7 hK7=>g9 U (.move rfl .nil) fun Y U=>plz (ecl U Tryz.func65 rfl (iV _ _ aO bA 1099511627776 _ _ _ ar aQ.2.1 (by decide) (bC.into [(1,41),(2,47)] (by decide) rfl)) ?_)
 rintro e c3 ⟨ae,aS,bE,c4,c5,rfl,cf,aT,aU,aV⟩
 have bF:=bC.back aV [(41,1),(48,2)] (by decide);clear aV bC
 have ct:=bF.oz [41,48,1,40,42]
 refine⟨_,rfl,?_⟩;intro Y U
 have au:aS.length≤1000000:=Nat.le_trans aU.1 ar
 refine g9 U (.conv rfl jV U3 (IntWalk.i64_in _ (by omega))<|.fa 4 rfl U38 .nil) fun Y U=>plz (st1 U ct 42 iG fun c6 bG _ =>?_)
 refine znl (hK7 _ _ ?_)
 replace U:=U.oz [0,2,3,4,5]
 refine zsr fun K8 hK8=>g9 U (.move rfl .nil) fun Y U=>plz (ecl U Tryz.func65 rfl (iV _ _ aS bE 1099511627776 _ _ _ au aU.2.1 (by decide) (bG.into [(1,41),(2,48)] (by decide) rfl)) ?_)
 rintro e c7 ⟨ag,aW,bH,c8,c9,rfl,cg,aX,aY,aZ⟩
 have bI:=bG.back aZ [(41,1),(49,2)] (by decide);clear aZ bG
 have cu:=bI.oz [41,49,1,40,42]
 refine⟨_,rfl,?_⟩;intro Y U
 have av:aW.length≤1000000:=Nat.le_trans aY.1 au
 refine g9 U (.conv rfl jV U3 (IntWalk.i64_in _ (by omega))<|.fa 6 rfl U38 .nil) fun Y U=>plz (st1 U cu 42 iG fun da bJ _ =>?_)
 refine znl<|hK8 _ _<|zsr fun K9 hK9=>g9 U (.move rfl .nil) fun Y U=>plz (ecl U Tryz.func65 rfl (iV _ _ aW bH 1099511627776 _ _ _ av aY.2.1 (by decide) (bJ.into [(1,41),(2,49)] (by decide) rfl)) ?_)
 rintro e db ⟨ah,a0,bK,dc,de,rfl,ch,a1,a2,a3⟩
 have bL:=bJ.back a3 [(41,1),(50,2)] (by decide);clear a3 bJ
 have cv:=bL.oz [41,50,1,40,42]
 refine⟨_,rfl,?_⟩;intro Y U
 have aw:a0.length≤1000000:=Nat.le_trans a2.1 av
 refine g9 U (.conv rfl jV U2 (IntWalk.i64_in _ (by omega))<|.fa 7 rfl U38 .nil) fun Y U=>plz (st1 U cv 42 iP fun df bM _ =>?_)
 refine znl (hK9 _ _ ?_)
 replace U:=U.oz [0,2,3,4,5,38]
 refine zsr fun dg bN=>g9 U (.move rfl .nil) fun Y U=>plz (ecl U Tryz.func65 rfl (iV _ _ a0 bK 1099511627776 _ _ _ aw a2.2.1 (by decide) (bM.into [(1,41),(2,50)] (by decide) rfl)) ?_)
 rintro e dh ⟨ai,a4,bO,di,dj,rfl,cj,a5,a6,a7⟩
 have bP:=bM.back a7 [(41,1),(51,2)] (by decide);clear a7 bM
 have cw:=bP.oz [41,51,1,40,42]
 refine⟨_,rfl,?_⟩;intro Y U
 have ax:a4.length≤1000000:=Nat.le_trans a6.1 aw
 refine g9 U (.conv rfl jV U3 (IntWalk.i64_in _ (by omega))<|.fa 8 rfl U38 .nil) fun Y U=>plz (st1 U cw 42 iG fun dk bQ _ =>?_)
 refine znl<|bN _ _<|zsr fun dl bR=>g9 U (.move rfl .nil) fun Y U=>plz (ecl U Tryz.func77 rfl (pD _ _ a4 bO _ _ _ ax a6.2.1 (bQ.into [(1,41),(2,51)] (by decide) rfl)) ?_)
 rintro e dm ⟨pl,a8,bS,dn,dp,cy,cz,rfl,hpl,hpa,a9,ba,bb⟩
 have bT:=bQ.back bb [(41,1),(53,2),(52,3)] (by decide);clear bb bQ
 have cA:=bT.oz [41,53,52,1,40,42]
 refine⟨_,rfl,?_⟩;intro Y U
 have ay:a8.length≤1000000:=Nat.le_trans ba.1 ax
 refine g9 U (.fieldAddr (off:=5) rfl U38 rfl (s:=0) (by kernel_rfl) rfl .nil) fun Y U=>plz (st1 U cA 42 n0 fun dq bU _ =>?_)
 refine znl (bR _ _ ?_)
 replace U:=U.oz [0,2,3,4,5,38]
 refine zsr fun dr bV=>g9 U (.move rfl .nil) fun Y U=>plz (ecl U Tryz.func78 rfl (pE _ _ a8 bS _ _ _ ay ba.2.1 (bU.into [(1,41),(2,53)] (by decide) rfl)) ?_)
 rintro e ds ⟨its,bd,bW,dt,du,cB,cC,rfl,hil,hib,be,bX,bf⟩
 have bY:=bU.back bf [(41,1),(55,2),(54,3)] (by decide);clear bf bU
 have cD:=bY.oz [41,55,54,1,40,42,52]
 refine⟨_,rfl,?_⟩;intro Y U
 have ck:bd.length≤1000000:=Nat.le_trans bX.1 ay
 have hXY:∀ y:Cm,CmdR y→XE b 0 (cmE y) ((⟨aa,ab,ac,ad,ae,pl,ag,ah,ai,its⟩:Cm)=y) bd bW:=fun y hy=>ud (aD _ (by have:=hy.kd;omega) (by have:=hy.kd;omega)) (aH _ (by have:=hy.vo;omega) (by have:=hy.vo;omega)) (aL _ (by have:=hy.t40;omega) (by have:=hy.t40;omega)) (aP _ (by have:=hy.t40;omega) (by have:=hy.t40;omega)) (aT _ (by have:=hy.t40;omega) (by have:=hy.t40;omega)) (aX _ (by have:=hy.t40;omega) (by have:=hy.t40;omega)) (a1 _ (by have:=hy.t40;omega) (by have:=hy.t40;omega)) (a5 _ (by have:=hy.t40;omega) (by have:=hy.t40;omega)) (a9 _ (by have:=hy.pl;omega) (fun z hz=>by have:=hy.pb z hz;omega)) (be _ (by have:=hy.il;omega) (fun e he=>by have:=hy.ib e he;omega))
 clear aD aH aL aP aT aX a1 a5 a9 be
 refine g9 U (.fieldAddr (off:=9) rfl U38 rfl (s:=0) (by kernel_rfl) rfl .nil) fun Y U=>plz (st1 U cD 42 sI fun dv az _ =>?_)
 refine znl<|bV _ _<|wsk fun dw bg =>?_
 by_cases hR:CmdR (⟨aa,ab,ac,ad,ae,pl,ag,ah,ai,its⟩:Cm)
 ·
  refine wp_region_lit<|g9 U (.loadBR az (i:=42) rfl rfl U38 rfl ip (by simp) (by dsimp only [List.drop,List.take] <;> rfl) .nil) fun Y U=>plz (ecl U Tryz.func12 rfl (kR aa ab ac ad ae ag ah ai pl its _ _ _ _ _ _ ((az.rd (i:=52) rfl).any) ((az.rd (i:=54) rfl).any) (hR.ok (fun e he=>(hib e he).2))) ?_)
  rintro e dx ⟨dy,dz,rfl,bZ,b0⟩
  have aA:=az.callF 56 rfl b0 bZ
  refine⟨_,rfl,?_⟩;intro Y U
  rw[show mh aa ab ac ad ae ag ah ai pl its=cmE (⟨aa,ab,ac,ad,ae,pl,ag,ah,ai,its⟩:Cm) from rfl] at aA U
  refine gz bg U (.move rfl<|.extract rfl rfl<|.extract rfl rfl<|.assign rfl<|.assign rfl<|.nil) fun Y U=>wsk fun dA b1 =>?_
  replace U:=U.oz [0,2,3,4,5,38,6,7]
  refine zsr fun dB bh=>g9 U (.move rfl<|.nilCheck rfl<|.fa 1 rfl kH<|.lb aA 41 U3 rfl rfl rfl<|.neq rfl rfl<|.move rfl .nil) fun Y U=>bc U 59 ?_ ?_
  ·
   intro ak U;try simp only [QQ,Qax] at ak
   have cl:=ak
   have hno:∀ x:Cm,CmdR x→(∀ e∈x.its,BytesL e.2)→cmE x≠b:=fun y h1 h2 h3=>absurd (hXY y h1 [] rfl (by rw[h3,List.append_nil])).2.2 (by first|omega|(simp at cl;omega))
   refine gz bh U (.sk<|.sk<|.pickT rfl rfl<|.move rfl<|.sk<|.sk<|.sk<|.sk<|.sk<|.pickT rfl rfl<|.nil) fun Y U=>wct U ?_
   replace U:=U.oz [2,3,5,38]
   refine zsr fun dC b4=>g9 U (.build rfl i8 nk rfl (by dsimp only [iY,List.set] <;> rfl) .nil) fun Y U=>plz (stw U aA 40 ip fun cE bi _ =>?_)
   refine gz b4 U (.assign rfl .nil) fun Y U=>rtd (iF (fn:=Tryz.f29) U bi (i:=40) rfl rfl rfl rfl U38 rfl ip ?_)
   exact .inr ⟨hno,rfl,bi.only [1]⟩
  intro ak U;try simp only [QQ,Qax] at ak
  refine g9 U (.moveZ rfl<|.neqZ rfl rfl<|.pickF rfl rfl<|.move rfl .nil) fun Y U=>bcF U 63 fun U=>gz bh U (.moveZ rfl<|.strZ rfl (aA.nums (i:=56) rfl) U22 U5 U9<|.moveZ rfl<|.strZ rfl (aA.nums (i:=1) rfl) U22 U5 U9<|.neqSZ rfl rfl<|.pickF rfl rfl<|.nil) fun Y U=>bc U 69 ?_ ?_
  ·
   intro aj U;try simp only [QQ,Qax] at aj
   have b5:¬ cmE (⟨aa,ab,ac,ad,ae,pl,ag,ah,ai,its⟩:Cm)=b:=by have h9:=aj;rw[j2 (a:=cmE (⟨aa,ab,ac,ad,ae,pl,ag,ah,ai,its⟩:Cm)) ((hR.ok (fun e he=>(hib e he).2)).bytes) hbb] at h9;simpa using h9
   have hno:∀ x:Cm,CmdR x→(∀ e∈x.its,BytesL e.2)→cmE x≠b:=fun y h1 h2 h3=>b5 (by rw[(hXY y h1 [] rfl (by rw[h3,List.append_nil])).1];exact h3)
   refine wct U ?_
   replace U:=U.oz [2,3,5,38]
   refine zsr fun dD b6=>g9 U (.build rfl i8 nk rfl (by dsimp only [iY,List.set] <;> rfl) .nil) fun Y U=>plz (stw U aA 40 ip fun cF bj _ =>?_)
   refine gz b6 U (.assign rfl .nil) fun Y U=>rtd (iF (fn:=Tryz.f29) U bj (i:=40) rfl rfl rfl rfl U38 rfl ip ?_)
   exact .inr ⟨hno,rfl,bj.only [1]⟩
  intro aj U;try simp only [QQ,Qax] at aj
  have b5:cmE (⟨aa,ab,ac,ad,ae,pl,ag,ah,ai,its⟩:Cm)=b:=by have h9:=aj;rw[j2 (a:=cmE (⟨aa,ab,ac,ad,ae,pl,ag,ah,ai,its⟩:Cm)) ((hR.ok (fun e he=>(hib e he).2)).bytes) hbb] at h9;simpa using h9
  refine wcf U<|zss (b1 _ _ ?_)
  replace U:=U.oz [2,3,5,38]
  refine zsr fun dE b7=>g9 U (.loadBR aA (i:=42) rfl rfl U38 rfl ip (by simp) (by dsimp only [List.drop,List.take] <;> rfl) .nil) fun Y U=>plz (stw U aA 40 ip fun cG bk _ =>?_)
  refine gz b7 U (.assign rfl .nil) fun Y U=>rtd (iF (fn:=Tryz.f29) U bk (i:=40) rfl rfl rfl rfl U38 rfl ip ?_)
  exact .inl ⟨(⟨aa,ab,ac,ad,ae,pl,ag,ah,ai,its⟩:Cm),_,_,_,_,hR,(fun e he=>(hib e he).2),b5,(fun y h1 h2 h3=>(hXY y h1 [] rfl (by rw[h3,List.append_nil])).1.symm),rfl,bk.ren [(1,1),(2,52),(3,54)] (by decide)⟩
 have hno:∀ x:Cm,CmdR x→(∀ e∈x.its,BytesL e.2)→cmE x≠b:=fun y h1 h2 h3=>hR ((hXY y h1 [] rfl (by rw[h3,List.append_nil])).1 ▸ h1)
 refine wp_region_lit<|g9 U (.loadBR az (i:=42) rfl rfl U38 rfl ip (by simp) (by dsimp only [List.drop,List.take] <;> rfl) .nil) fun Y U=>plz<|ecb U Tryz.func12 rfl az (mi aa ab ac ad ae ag ah ai pl its _ _ _ _ _ _ ((az.rd (i:=52) rfl).any) ((az.rd (i:=54) rfl).any) (by omega) (by omega) hR) fun Y cH U aB=>gz bg U (.move rfl<|.extract rfl rfl<|.extract rfl rfl<|.assign rfl<|.assign rfl<|.nil) fun Y U=>wsk fun dF cI =>?_
 replace U:=U.oz [0,2,3,4,5,38,6,7]
 refine zsr fun dG bm=>g9 U (.move rfl<|.nilCheck rfl<|.fa 1 rfl kH<|.lb aB 41 U3 rfl rfl rfl<|.neq rfl rfl<|.move rfl .nil) fun Y U=>bc U 59 ?_ ?_
 ·
  intro al U;try simp only [QQ,Qax] at al
  have cl:=al
  refine gz bm U (.sk<|.sk<|.pickT rfl rfl<|.move rfl<|.sk<|.sk<|.sk<|.sk<|.sk<|.pickT rfl rfl<|.nil) fun Y U=>wct U ?_
  replace U:=U.oz [2,3,5,38]
  refine zsr fun dH b8=>g9 U (.build rfl i8 nk rfl (by dsimp only [iY,List.set] <;> rfl) .nil) fun Y U=>plz (stw U aB 40 ip fun cJ bn _ =>?_)
  refine gz b8 U (.assign rfl .nil) fun Y U=>rtd (iF (fn:=Tryz.f29) U bn (i:=40) rfl rfl rfl rfl U38 rfl ip ?_)
  exact .inr ⟨hno,rfl,bn.only [1]⟩
 intro al U;try simp only [QQ,Qax] at al
 refine g9 U (.moveZ rfl<|.neqZ rfl rfl<|.pickF rfl rfl<|.move rfl .nil) fun Y U=>bcT U 63 fun U=>gz bm U (.sk<|.sk<|.sk<|.sk<|.sk<|.pickT rfl rfl<|.nil) fun Y U=>wct U ?_
 replace U:=U.oz [2,3,5,38]
 refine zsr fun dI b9=>g9 U (.build rfl i8 nk rfl (by dsimp only [iY,List.set] <;> rfl) .nil) fun Y U=>plz (stw U aB 40 ip fun cK bo _ =>?_)
 refine gz b9 U (.assign rfl .nil) fun Y U=>rtd (iF (fn:=Tryz.f29) U bo (i:=40) rfl rfl rfl rfl U38 rfl ip ?_)
 exact .inr ⟨hno,rfl,bo.only [1]⟩
theorem uT(X)(kd vo bl sz pe to at0 ix:Int)(place:List Int)(items:List (Int×List Int))(p)(c:Nat)(w0)(hc:CmdOk kd vo bl sz pe to at0 ix place items)(m0:MemOk X w0 [(1,.dat (.slice p (mh kd vo bl sz pe to at0 ix place items).length c) (.ns .u8 (mh kd vo bl sz pe to at0 ix place items)))] w0) :
   Calls Tryz.prog 29 #[.slice p (mh kd vo bl sz pe to at0 ix place items).length c] w0 fun e w' => ∃ (pp:Option Addr) (cp:Nat) (pi:Option Addr) (ci:Nat),e=.returned (.tuple #[.agg #[.int .i64 kd,.int .i64 vo,.int .i64 bl,.int .i64 sz,.int .i64 pe,.slice pp place.length cp,.int .i64 to,.int .i64 at0,.int .i64 ix,.slice pi items.length ci],.int .i64 0])∧MemOk X w0 [(1,.dat (.slice pp place.length cp) (.ns .i64 place)),(2,.dat (.slice pi items.length ci) (.l 2 (items.map itD)))] w':=by
 have hR:CmdR (⟨kd,vo,bl,sz,pe,place,to,at0,ix,items⟩:Cm):=CmdOk.r hc
 refine(mv X (mh kd vo bl sz pe to at0 ix place items) (by have:=hc.len;omega) hc.bytes p c w0 m0).mono ?_
 rintro e w' (⟨x',pp,pi,cp,ci,h1,h2,h3,h4,he,hm⟩|⟨h,_⟩)
 · obtain rfl:=h4 _ hR hc.by8 rfl
   rw[List.length_map] at he hm
   exact⟨pp,cp,pi,ci,he,hm.ren [(1,2),(2,3)] (by decide)⟩
 exact absurd rfl (h _ hR hc.by8)
theorem qa(X)(b:List Int)(p)(c:Nat)(w0)(hb:b.length≤1000000)(hbb:BytesL b)(hno:∀ x:Cm,CmdR x→(∀ e∈x.its,BytesL e.2)→cmE x≠b)(m0:MemOk X w0 [(1,.dat (.slice p b.length c) (.ns .u8 b))] w0) :
   Calls Tryz.prog 29 #[.slice p b.length c] w0 fun e w'=>e=.returned (.tuple #[.agg #[.int .i64 0,.int .i64 0,.int .i64 0,.int .i64 0,.int .i64 0,.slice none 0 0,.int .i64 0,.int .i64 0,.int .i64 0,.slice none 0 0],.int .i64 20])∧MemOk X w0 [(1,.dat (.slice p b.length c) (.ns .u8 b))] w':=by
 refine(mv X b hb hbb p c w0 m0).mono ?_
 rintro e w' (⟨x,_,_,_,_,h1,h2,h3,_⟩|⟨_,he,hm⟩)
 · exact absurd h3 (hno x h1 h2)
 exact⟨he,hm⟩
end
end Go.Proofs.YtkehgingagggaaaGreat.K
