/- General laws of walks. -/
import Derived.Test.YteglmahnkfgelaaGreatG12
import Derived.Test.YteglmahnkfgelaaGreatG13
import Derived.Test.YteglmahnkfgelaaGreatG8
import Derived.Test.YteglmahnkfgelaaGreatG6
namespace Go.Proofs.YteglmahnkfgelaaGreat.K
open Go.ChangeShapes Go.WideShapes Go.ChangeAt Go.RowKit
set_option linter.unusedVariables false
set_option linter.unusedSimpArgs false
set_option maxRecDepth 100000
set_option maxHeartbeats 4000000
set_option autoImplicit true
set_option relaxedAutoImplicit true
section
theorem z5:lR Tryz.prog 34 [.int .i64 0,.int .i64 0,.int .i64 0,.int .i64 0,.slice none 0 0,.int .i64 0,.int .i64 0,.bool false,.int .i64 0,.slice none 0 0,.slice none 0 0]=true:=by kernel_rfl
theorem nQ:lR Tryz.prog 128 [.int .i64 0,.int .i64 0,.int .i64 0,.int .i64 0,.slice none 0 0]=true:=by kernel_rfl
def AE:VolV:=⟨0,0,0,0,[],0,0,false,0,[],[]⟩
def ml(vo bl sz pe to:Int)(place:List Int):VolV:=⟨vo,bl,sz,pe,place,to,0,decide (0<to),0,[],[]⟩
theorem rz{n:Nat}{vo bl sz pe to:Int}{place:List Int}(hN:pU vo bl sz pe to place):VolS n (ml vo bl sz pe to place):=⟨VolR.new hN,fun _=>rfl,Nat.zero_le _,Nat.zero_le _,fun _ h=>by cases h⟩
theorem Rd.capL{S:Nat→Prop}{w:World}{p:Option Addr}{l c m:Nat}{rows:List (List D)}(h:Rd S w (.slice p l c) (.l m rows)):rows.length≤c:=by
 obtain⟨pq,cq,hv,hc⟩:=h.l_shape
 injection hv with _ _ e3;omega
theorem z6{d:List Int}(h:d.length≤32):d.length≤140737488351232:=by omega
theorem wW(kd vo bl sz pe to at0 ix:Int)(place:List Int)(pp pi:Option Addr)(cp ni ci:Nat)(w0:World)(h0:Rd (fun _=>True) w0 (.slice pp place.length cp) (.ns .i64 place))(hn:place.length≤1000000)(hN:¬ pU vo bl sz pe to place) :
   Calls Tryz.prog 76 #[.agg #[.int .i64 kd,.int .i64 vo,.int .i64 bl,.int .i64 sz,.int .i64 pe,.slice pp place.length cp,.int .i64 to,.int .i64 at0,.int .i64 ix,.slice pi ni ci]] w0 fun e w'=>e=.returned (.tuple #[.agg #[.int .i64 0,.int .i64 0,.int .i64 0,.int .i64 0,.slice none 0 0,.int .i64 0,.int .i64 0,.bool false,.int .i64 0,.slice none 0 0,.slice none 0 0],.int .i64 23])∧Below w0.heap.size w0 w':=
 (s6 kd vo bl sz pe to at0 ix place pp pi cp ni ci w0 h0 hn).mono (fun _ _ h=>h.elim (fun h=>absurd h.1 hN) (fun h=>h.2))
theorem AF(X:Cx)(B:Nat)(L:List VolV)(p:Option Addr)(c:Nat)(vo:Int)(w0:World)(hl:L.length≤1000000)(m0:MemOk X w0 [(1,.box B 120 [.slice p (L.map mg).length c]),(2,.dat (.slice p (L.map mg).length c) (.l 11 (L.map mg)))] w0) :
   Calls Tryz.prog 72 #[.pointer (some ⟨B,0,none⟩),.int .i64 vo] w0 fun e w' => ∃ (x:VolV) (there:Bool) (p1 p2 p3:Option Addr) (d1 d2 d3:Nat),e=.returned (.tuple #[.agg #[.int .i64 x.vo,.int .i64 x.bl,.int .i64 x.sz,.int .i64 x.pe,.slice p1 x.place.length d1,.int .i64 x.to,.int .i64 x.ne,.bool x.hi,.int .i64 x.fl,.slice p2 x.pins.length d2,.slice p3 (x.ws.map wrD).length d3],.bool there])∧(there=true→x∈L)∧(there=false→x=AE)∧MemOk X w0 [(1,.box B 120 [.slice p (L.map mg).length c]),(2,.dat (.slice p (L.map mg).length c) (.l 11 (L.map mg))),(3,.dat (.slice p1 x.place.length d1) (.ns .i64 x.place)),(4,.dat (.slice p2 x.pins.length d2) (.ns .i64 x.pins)),(5,.dat (.slice p3 (x.ws.map wrD).length d3) (.l 2 (x.ws.map wrD)))] w':=by
 refine mR Tryz.func72 rfl Tryz.ntmps72 fun Y U =>?_
 refine zsr fun K0 hK0 =>?_
 refine plz (lc U m0 20 mo rfl fun g1 Y w2 U m2 _ _ =>?_)
 refine gz hK0 U (.assign rfl .nil) fun Y U =>?_
 refine zsr fun K1 hK1 =>?_
 refine k9 U (.move rfl<|.move rfl .nil) fun Y U =>?_
 refine plz (ecl U Tryz.func103 rfl (z4 _ _ L _ _ _ _ hl (m2.into [(1,1),(2,2)] (by decide) rfl)) ?_)
 rintro e w8 ⟨j,rfl,hj1,hj2,hm8⟩
 have mx8:=m2.back hm8 [(1,1),(2,2)] (by decide);clear hm8 m2
 have m8:=mx8.oz [1,2,20]
 refine⟨_,rfl,?_⟩;intro Y U
 refine gz hK1 U (.assign rfl .nil) fun Y U =>?_
 refine wsk fun K2 hK2 =>?_
 refine la U (.move rfl<|.lss rfl rfl .nil) fun Y U =>?_
 refine bc U 11 ?_ ?_
 ·
  intro ao U;try simp only [QQ,Qax] at ao
  refine wct U ?_
  replace U:=U.oz [0,4,5,6]
  refine zsr fun K3 hK3 =>?_
  refine k9 U (.build rfl mo z5 rfl (by dsimp only [l9,List.set] <;> rfl) .nil) fun Y U =>?_
  refine plz (stw U m8 20 ld fun aH ax _ =>?_)
  refine gz hK3 U (.assign rfl .nil) fun Y U =>?_
  refine rtd (lL (fn:=Tryz.f72) U ax (i:=20) rfl rfl rfl rfl U34 rfl ld ?_)
  have mA:=ax.dat 91 rfl (Rd.nilN _ _ .i64 none)
  have mB:=mA.dat 92 rfl (Rd.nilN _ _ .i64 none)
  have mC:=mB.dat 93 rfl (Rd.l0 none 0 2)
  exact⟨AE,false,_,_,_,_,_,_,rfl,(fun h=>by cases h),(fun _=>rfl),mC.ren [(1,1),(2,2),(3,91),(4,92),(5,93)] (by decide)⟩
 intro ao U;try simp only [QQ,Qax] at ao
 revert U
 obtain⟨jn,rfl⟩:∃ jn:Nat,j=(jn:Int):=⟨j.toNat,by omega⟩
 intro U
 have hjl:jn<L.length:=by omega
 obtain⟨x,hes⟩:∃ x,L[jn]? = some x:=⟨_,List.getElem?_eq_getElem hjl⟩
 refine wcf U ?_
 refine zss (hK2 _ _ ?_)
 replace U:=U.oz [0,4,5,6]
 refine zsr fun K4 hK4 =>?_
 refine k9 U (.move rfl<|.nilCheck rfl<|.fa 0 rfl ud<|.lb m8 1 nz rfl rfl rfl<|.move rfl .nil) fun Y U =>?_
 obtain⟨aI,aJ,aD,ap,aq,ar,ay⟩:=m8.openR (i:=2) rfl (jn) (r:=[.v (.int .i64 x.vo),.v (.int .i64 x.bl),.v (.int .i64 x.sz),.v (.int .i64 x.pe),.ns .i64 x.place,.v (.int .i64 x.to),.v (.int .i64 x.ne),.v (.bool x.hi),.v (.int .i64 x.fl),.ns .i64 x.pins,.l 2 (x.ws.map wrD)]) (oH hes) 21 rfl
 revert U
 cases ap;clear m8 ar
 rcases aq with _|⟨ad,_|⟨ae,_|⟨ag,_|⟨ah,_|⟨ab,_|⟨ai,_|⟨aj,_|⟨ak,_|⟨al,_|⟨ac,_|⟨aa,_|_⟩⟩⟩⟩⟩⟩⟩⟩⟩⟩⟩
 obtain rfl:=ad.v_out
 clear ad
 obtain rfl:=ae.v_out
 clear ae
 obtain rfl:=ag.v_out
 clear ag
 obtain rfl:=ah.v_out
 clear ah
 obtain⟨aK,aL,au,aE⟩:=ab.ns_shape;subst au
 intro U
 have az:=ay.dat 22 rfl (ab.cast (fun _ h=>(lf rfl h)));clear ay ab
 revert U
 obtain rfl:=ai.v_out
 clear ai
 obtain rfl:=aj.v_out
 clear aj
 obtain rfl:=ak.v_out
 clear ak
 obtain rfl:=al.v_out
 clear al
 obtain⟨aM,aN,av,aF⟩:=ac.ns_shape;subst av
 intro U
 have aA:=az.dat 23 rfl (ac.cast (fun _ h=>(lf rfl (lf rfl h))));clear az ac
 revert U
 obtain⟨aO,aP,aw,aG⟩:=aa.l_shape;subst aw
 intro U
 have aB:=aA.dat 24 rfl (aa.cast (fun _ h=>(lf rfl (lf rfl (lf rfl h)))));clear aA aa
 refine k9 U (.c rfl (fun _ h_=>li h_ rfl rfl nz ld (jn) rfl (by simpa using hjl))<|.loadCR aB (i:=21) rfl rfl U34 rfl ld .nil) fun Y U =>?_
 refine plz (stw U aB 20 ld fun aQ aC _ =>?_)
 refine gz hK4 U (.assign rfl .nil) fun Y U =>?_
 refine rtd (lL (fn:=Tryz.f72) U aC (i:=20) rfl rfl rfl rfl U34 rfl ld ?_)
 exact⟨x,true,_,_,_,_,_,_,rfl,(fun _=>List.mem_of_getElem? hes),(fun h=>by cases h),aC.ren [(1,1),(2,2),(3,22),(4,23),(5,24)] (by decide)⟩
theorem y8(X:Cx)(B n:Nat)(L:List VolV)(p:Option Addr)(c:Nat)(b:List Int)(pb:Option Addr)(cb:Nat)(w0:World)(hM:MacS n L)(hn:n≤800000)(hb:b.length≤1000000)(hbb:lg b)(m0:MemOk X w0 [(1,.box B 120 [.slice p (L.map mg).length c]),(2,.dat (.slice p (L.map mg).length c) (.l 11 (L.map mg))),(3,.dat (.slice pb b.length cb) (.ns .u8 b))] w0) :
   Calls Tryz.prog 75 #[.pointer (some ⟨B,0,none⟩),.slice pb b.length cb] w0 fun e w' => ∃ (e9 rl rf rn:Int) (L':List VolV) (p':Option Addr) (c':Nat),e=.returned (.agg #[.int .i64 e9,.int .i64 rl,.int .i64 rf,.int .i64 rn,.slice none 0 0])∧MacS (n+1) L'∧MemOk X w0 [(1,.box B 120 [.slice p' (L'.map mg).length c']),(2,.dat (.slice p' (L'.map mg).length c') (.l 11 (L'.map mg)))] w':=by
 refine mR Tryz.func75 rfl Tryz.ntmps75 fun Y U =>?_
 have hl:L.length≤1000000:=by have:=hM.1;omega
 have hlm:(L.map mg).length≤1000000:=by simpa using hl
 refine zsr fun K0 hK0 =>?_
 refine plz (lc U m0 20 mM rfl fun g1 Y w2 U m2 _ _ =>?_)
 refine znl (hK0 _ _ ?_)
 refine zsr fun K1 hK1 =>?_
 refine k9 U (.move rfl .nil) fun Y U =>?_
 refine plz (ecl U Tryz.func108 rfl (wV _ b _ _ _ hb hbb (m2.into [(1,3)] (by decide) rfl)) ?_)
 rintro e w5 ⟨kd,vo,bl,sz,pe,to,at0,ix,place,items,pp5,cp5,pi5,ci5,er,rfl,hpl,hil,hii,hm5⟩
 have mx5:=m2.back hm5 [(21,1),(22,2)] (by decide);clear hm5 m2
 have m5:=mx5.oz [21,22,1,2,20]
 refine⟨_,rfl,?_⟩;intro Y U
 refine k9 U (.move rfl<|.extract rfl rfl<|.extract rfl rfl .nil) fun Y U =>?_
 refine plz (lc U m5 23 ox rfl fun gi Y gj U ee _ _ =>?_)
 refine plz (stw U ee 23 lY fun gk bm _ =>?_)
 refine gz hK1 U (.assign rfl .nil) fun Y U =>?_
 refine wsk fun K2 hK2 =>?_
 replace U:=U.oz [0,4,5,6]
 refine la U (.move rfl<|.neq rfl rfl .nil) fun Y U =>?_
 refine bc U 19 ?_ ?_
 ·
  intro aX U;try simp only [QQ,Qax] at aX
  refine wct U ?_
  refine zsr fun K3 hK3 =>?_
  refine k9 U (.build rfl mM nQ rfl (by dsimp only [l9,List.set] <;> rfl) .nil) fun Y U =>?_
  refine plz (stw U bm 20 lZ fun gl dr _ =>?_)
  refine znl (hK3 _ _ ?_)
  refine rtd (mK (fn:=Tryz.f75) U dr (i:=20) rfl rfl rfl rB rfl lZ ?_)
  exact⟨_,_,_,_,L,_,_,rfl,hM.up (by omega),dr.only [1,2]⟩
 intro aX U;try simp only [QQ,Qax] at aX
 refine wcf U ?_
 refine zss (hK2 _ _ ?_)
 refine zsr fun K4 hK4 =>?_
 refine k9 U (.move rfl<|.fa 1 rfl lx<|.lb bm 23 U3 rfl rfl rfl .nil) fun Y U =>?_
 refine plz (ecl U Tryz.func103 rfl (z4 _ _ L _ _ _ _ hl (bm.into [(1,1),(2,2)] (by decide) rfl)) ?_)
 rintro e gm ⟨j,rfl,hj1,hj2,bn⟩
 have ck:=bm.back bn [(1,1),(2,2)] (by decide);clear bn bm
 have ds:=ck.oz [1,2,20,21,22,23]
 refine⟨_,rfl,?_⟩;intro Y U
 refine gz hK4 U (.assign rfl .nil) fun Y U =>?_
 replace U:=U.oz [0,4,5,7]
 refine zsr fun K5 hK5 =>?_
 refine k9 U (.move rfl<|.nilCheck rfl<|.fa 0 rfl ud<|.lb ds 1 nz rfl rfl rfl .nil) fun Y U =>?_
 have dt:=ds.nilR 24 34 11
 refine plz (lC U dt 24 rfl rfl rfl (dt.rd (i:=2) rfl) nz nH rfl rfl (by decide) (by simp;omega) rfl fun gn gp Y gq U bo =>?_)
 refine gz hK5 U (.assign rfl .nil) fun Y U =>?_
 refine wsk fun K6 hK6 =>?_
 refine la U (.fa 0 rfl lx<|.lb bo 23 U3 rfl rfl rfl<|.eql rfl rfl .nil) fun Y U =>?_
 refine bc U 32 ?_ ?_
 ·
  intro aK U;try simp only [QQ,Qax] at aK
  have hkd:kd=1:=by simpa using aK
  refine wct U ?_
  refine wsk fun K7 hK7 =>?_
  replace U:=U.oz [0,4,5,7,8]
  refine zsr fun K8 hK8 =>?_
  have aY:=bo.freezeR 24 rfl
  refine gz hK8 U (.move rfl<|.geq rfl rfl<|.nil) fun Y U =>?_
  refine bc U 34 ?_ ?_
  ·
   intro aZ U;try simp only [QQ,Qax] at aZ
   refine wct U ?_
   refine zsr fun K9 hK9 =>?_
   refine k9 U (.build rfl mM nQ rfl (by dsimp only [l9,List.set] <;> rfl) .nil) fun Y U =>?_
   refine plz (stw U aY 20 lZ fun gr du _ =>?_)
   refine znl (hK9 _ _ ?_)
   refine rtd (mK (fn:=Tryz.f75) U du (i:=20) rfl rfl rfl rB rfl lZ ?_)
   exact⟨_,_,_,_,L,_,_,rfl,hM.up (by omega),du.only [1,2]⟩
  intro aZ U;try simp only [QQ,Qax] at aZ
  refine wcf U ?_
  refine zss (hK7 _ _ ?_)
  refine wsk fun gs bp =>?_
  by_cases hN:pU vo bl sz pe to place
  ·
   refine wp_region_lit ?_
   refine k9 U (.loadBR aY (i:=23) rfl rfl lx rfl lY (by simp) (by dsimp only [List.drop,List.take] <;> rfl) .nil) fun Y U =>?_
   refine plz (ecl U Tryz.func76 rfl (s7 _ vo bl sz pe to _ _ place _ _ _ _ _ _ ((aY.rd (i:=21) rfl).any) (by omega) hN) ?_)
   rintro e gu ⟨gv,gw,rfl,cl,cm⟩
   have ef:=aY.callF 25 rfl cm cl
   refine⟨_,rfl,?_⟩;intro Y U
   refine k9 U (.move rfl<|.extract rfl rfl<|.extract rfl rfl .nil) fun Y U =>?_
   refine plz (lc U ef 26 mo rfl fun gx Y gy U eg _ _ =>?_)
   refine plz (stw U eg 26 ld fun gA dv _ =>?_)
   refine gz bp U (.assign rfl .nil) fun Y U =>?_
   refine wsk fun gB co =>?_
   replace U:=U.oz [0,4,5,7,8,9,10]
   refine la U (.move rfl<|.neq rfl rfl .nil) fun Y U =>?_
   refine bcF U 42 fun U =>?_
   refine wcf U ?_
   refine zss (co _ _ ?_)
   refine la U (.assign rfl .nil) fun Y U =>?_
   refine wsk fun gC bq =>?_
   refine wp_block ?_
   refine wp_loop_ghost (fun g a w => ∃ (k B4 B5 B9 c8 c9 n1 d1 n2 d2:Nat) (p8 p9 q1 q2:Option Addr),k≤(L.map mg).length∧g=(L.map mg).length - k∧Has 97 [(0,.pointer (some ⟨B,0,none⟩)),(4,.pointer (some ⟨B4,0,none⟩)),(5,.pointer (some ⟨B5,0,none⟩)),(7,.int .i64 k),(8,.slice p8 (L.map mg).length c8),(9,.pointer (some ⟨B9,0,none⟩))] a∧MemOk X w0 [(1,.box B 120 [.slice p (L.map mg).length c]),(2,.dat (.slice p (L.map mg).length c) (.l 11 (L.map mg))),(4,.box B4 128 [.int .i64 0,.int .i64 0,.int .i64 0,.int .i64 0,.slice none 0 0]),(5,.box B5 125 [.int .i64 kd,.int .i64 vo,.int .i64 bl,.int .i64 sz,.int .i64 pe,.slice q1 n1 d1,.int .i64 to,.int .i64 at0,.int .i64 ix,.slice q2 n2 d2]),(9,.box B9 34 [.int .i64 vo,.int .i64 bl,.int .i64 sz,.int .i64 pe,.slice p9 place.length c9,.int .i64 to,.int .i64 0,.bool (decide (0<to)),.int .i64 0,.slice none 0 0,.slice none 0 0]),(8,.dat (.slice p8 (L.map mg).length c8) (.l 11 (L.map mg))),(10,.dat (.slice p9 place.length c9) (.ns .i64 place))] w) ((L.map mg).length) ?_ ?_
   · exact⟨0,_,_,_,_,_,_,_,_,_,_,_,_,_,Nat.zero_le _,rfl,U.only [0,4,5,7,8,9],dv.ren [(1,1),(2,2),(4,20),(5,23),(9,26),(8,24),(10,25)] (by decide)⟩
   clear U dv
   rintro g Y gD ⟨k,B4,B5,B9,c8,c9,n1,d1,n2,d2,p8,p9,q1,q2,hkl,hg,U,cp⟩
   refine wsk fun gE cq =>?_
   refine wsk fun gF br =>?_
   by_cases hk:k<(L.map mg).length
   ·
    obtain⟨z9,hes9⟩:∃ x,L[k]? = some x:=⟨_,List.getElem?_eq_getElem (by simpa using hk)⟩
    obtain⟨gG,gH,eh,cr,cs,ct,dw⟩:=cp.openR (i:=8) rfl (k) (r:=[.v (.int .i64 z9.vo),.v (.int .i64 z9.bl),.v (.int .i64 z9.sz),.v (.int .i64 z9.pe),.ns .i64 z9.place,.v (.int .i64 z9.to),.v (.int .i64 z9.ne),.v (.bool z9.hi),.v (.int .i64 z9.fl),.ns .i64 z9.pins,.l 2 (z9.ws.map wrD)]) (oH hes9) 100 rfl
    revert U
    cases cr;clear cp ct
    rcases cs with _|⟨az,_|⟨aA,_|⟨aB,_|⟨aC,_|⟨ai,_|⟨aD,_|⟨aE,_|⟨aF,_|⟨aG,_|⟨aj,_|⟨ac,_|_⟩⟩⟩⟩⟩⟩⟩⟩⟩⟩⟩
    obtain rfl:=az.v_out
    clear az
    obtain rfl:=aA.v_out
    clear aA
    obtain rfl:=aB.v_out
    clear aB
    obtain rfl:=aC.v_out
    clear aC
    obtain⟨gI,gJ,cu,ei⟩:=ai.ns_shape;subst cu
    intro U
    have dx:=dw.dat 101 rfl (ai.cast (fun _ h=>(lf rfl h)));clear dw ai
    revert U
    obtain rfl:=aD.v_out
    clear aD
    obtain rfl:=aE.v_out
    clear aE
    obtain rfl:=aF.v_out
    clear aF
    obtain rfl:=aG.v_out
    clear aG
    obtain⟨gK,gL,cv,ej⟩:=aj.ns_shape;subst cv
    intro U
    have dy:=dx.dat 102 rfl (aj.cast (fun _ h=>(lf rfl (lf rfl h))));clear dx aj
    revert U
    obtain⟨gM,gN,cw,ek⟩:=ac.l_shape;subst cw
    intro U
    have el:=dy.dat 103 rfl (ac.cast (fun _ h=>(lf rfl (lf rfl (lf rfl h)))));clear dy ac
    have cy:=el.oz [1,2,4,5,8,9,10,100,101,102,103]
    refine region_p 14 (B:=[(1,_),(2,_),(4,_),(5,_),(8,_),(9,_),(10,_),(100,_),(101,_),(102,_),(103,_)]) (cy.to qU) cy (by kernel_rfl) (fun gO bs cj =>?_);clear cy
    refine goA bs [0,1,2,3,4] 5 0 31 U (cj.to qU) (.move rfl<|.move rfl<|.len rfl nz<|.lss rfl rfl<|.move rfl .nil) fun Y U =>?_
    refine bc U 49 ?_ ?_
    rotate_left
    · intro hb _;exact absurd hb (by simpa using hk)
    clear U;intro _ U
    refine goR bs [5,6,7,8,9,10,11,12,13] [9,11] 9 31 16383 U (cj.to qU) (.move rfl<|.move rfl<|.p (fun _ _ h_=>li h_ rfl rfl nz ld (k) rfl hk)<|.fieldAddrQ 0 rfl U34 rfl (s:=0) (by kernel_rfl) rfl<|.loadC0 hh (i:=100) rfl rfl U3 rfl<|.fa 1 rfl lx<|.lb hh 5 U3 rfl rfl rfl<|.lss rfl rfl<|.pickT rfl rfl .nil) fun Y U =>?_
    refine wad ?_
    refine br _ _ ?_
    refine bc U 58 ?_ ?_
    ·
     intro a0 U;try simp only [QQ,Qax] at a0
     refine wct U ?_
     refine zss (cq _ _ ?_)
     refine wp_block ?_
     replace U:=U.oz [0,4,5,7,8,9]
     refine wp_region_lit ?_
     refine k9 U (.move rfl<|.inc (k+1)<|.assign rfl .nil) fun Y U =>?_
     refine wpList_nil ?_
     show ∃ n',n'<_∧_
     exact⟨(L.map mg).length - (k+1),by omega,k+1,_,_,_,_,_,_,_,_,_,_,_,_,_,by omega,rfl,U.only [0,4,5,7,8,9],cj.only [1,2,4,5,9,8,10]⟩
    intro a0 U;try simp only [QQ,Qax] at a0
    refine wcf U ?_
    refine wp_exit ?_
    refine bq _ _ ?_
    refine wsk fun gP bt =>?_
    replace U:=U.oz [0,4,5,7,8,9]
    have a1:=cj.oz [1,2,4,5,8,9,10,100,101,102,103]
    refine region_p 14 (B:=[(1,_),(2,_),(4,_),(5,_),(8,_),(9,_),(10,_),(100,_),(101,_),(102,_),(103,_)]) (a1.to qU) a1 (by kernel_rfl) (fun em ag a2 =>?_);clear a1
    refine goA ag [0,1,2] 3 0 7 U (a2.to qU) (.move rfl<|.move rfl<|.move rfl .nil) fun Y U =>?_
    have aL:=Rd.capL (a2.rd (i:=8) rfl)
    have bu:=a2.takeR (i:=8) rfl k hkl 104 rfl
    refine goR ag [3,5,8,9] [5] 4 7 815 U (bu.to qU) (.p (fun _ _ h_=>mD h_ k rfl rfl nz ld rfl (Nat.le_trans hkl aL))<|.loadBR hh (i:=9) rfl rfl U34 rfl ld (by simp) (by dsimp only [List.drop,List.take] <;> rfl)<|.move rfl<|.move rfl .nil) fun Y U =>?_
    have aM:=bu.dropR (i:=8) rfl k hkl 105 rfl
    refine goA ag [10] 1 815 1839 U (aM.to qU) (.p (fun _ _ h_=>lK h_ k rfl rfl nz ld rfl hkl) .nil) fun Y U =>?_
    refine xY 4 6 rfl rfl (by kernel_rfl) rfl rfl (fun K hK =>?_) (fun K hK =>?_)
    ·
     have bv:=aM.nilR 106 34 11
     refine lC U bv 106 rfl rfl rfl (bv.rd (i:=104) rfl) nz nH rfl rfl (by decide) (by simp;omega) rfl ?_
     intro en eo Y ep U a3
     refine hK _ _ (fun _=>(a3.to qU)) ?_;clear hK K
     refine so 6 ?_
     refine lq U a3 107 (mm:=11) rfl (.cons rfl rfl (.cons (.v _) (.cons (.v _) (.cons (.v _) (.cons (.v _) (.cons (a3.rd (i:=10) rfl) (.cons (.v _) (.cons (.v _) (.cons (.v _) (.cons (.v _) (.cons (Rd.nilN _ _ .i64 _) (.cons (.l0 _ _ 2) .nil))))))))))) .nil) nz nH rfl rfl rfl rfl rfl fun es Y et U bw =>?_
     refine⟨bw.to qU,?_⟩
     have bx:=bw.freezeR 107 rfl
     refine so 7 ?_
     refine lC U bx 106 rfl rfl rfl (bx.rd (i:=107) rfl) nz nH rfl rfl (by decide) (by simp;omega) rfl fun eu ew Y ex U a4 =>?_
     refine⟨a4.to qU,?_⟩
     refine so 11 ?_
     refine lC U a4 106 rfl rfl rfl (a4.rd (i:=105) rfl) nz nH rfl rfl (by decide) (by simp;omega) rfl fun ey ez Y eA U a5 =>?_
     refine⟨a5.to qU,?_⟩
     refine goA ag [12,13] 2 4095 16383 U (a5.to qU) (.nilCheck rfl<|.fa 0 rfl ud .nil) fun Y U =>?_
     refine se 14 ?_
     refine st1 U a5 1 uh fun eB cz _ =>?_
     refine wad ?_
     refine bt _ _ ?_
     replace U:=U.oz [0,4,5,7,8,9]
     refine zsr fun gQ cA =>?_
     refine k9 U (.build rfl mM nQ rfl (by dsimp only [l9,List.set] <;> rfl) .nil) fun Y U =>?_
     refine plz (stw U cz 4 lZ fun eC bz _ =>?_)
     refine znl (cA _ _ ?_)
     refine rtd (mK (fn:=Tryz.f75) U bz (i:=4) rfl rfl rfl rB rfl lZ ?_)
     have bA:=bz.freezeR 106 rfl
     have hrw:[]++List.take k (L.map mg)++[[.v (.int .i64 (ml vo bl sz pe to place).vo),.v (.int .i64 (ml vo bl sz pe to place).bl),.v (.int .i64 (ml vo bl sz pe to place).sz),.v (.int .i64 (ml vo bl sz pe to place).pe),.ns .i64 (ml vo bl sz pe to place).place,.v (.int .i64 (ml vo bl sz pe to place).to),.v (.int .i64 (ml vo bl sz pe to place).ne),.v (.bool (ml vo bl sz pe to place).hi),.v (.int .i64 (ml vo bl sz pe to place).fl),.ns .i64 (ml vo bl sz pe to place).pins,.l 2 ((ml vo bl sz pe to place).ws.map wrD)]]++List.drop k (L.map mg)=(L.take k++[ml vo bl sz pe to place]++L.drop k).map mg:=by simp [mg,ml]
     simp only [ml] at hrw
     erw [hrw] at bA
     exact⟨_,_,_,_,L.take k++[ml vo bl sz pe to place]++L.drop k,_,_,rfl,hM.ins (rz hN) k,bA.ren [(1,1),(2,106)] (by decide)⟩
    refine lq U aM 106 (mm:=11) rfl (.cons rfl rfl (.cons (.v _) (.cons (.v _) (.cons (.v _) (.cons (.v _) (.cons (aM.rd (i:=10) rfl) (.cons (.v _) (.cons (.v _) (.cons (.v _) (.cons (.v _) (.cons (Rd.nilN _ _ .i64 _) (.cons (.l0 _ _ 2) .nil))))))))))) .nil) nz nH rfl rfl rfl rfl rfl ?_
    intro eD Y eE U bB
    refine hK _ _ (fun _=>(bB.to qU)) ?_;clear hK K
    have bC:=bB.nilR 107 34 11
    refine so 4 ?_
    refine lC U bC 107 rfl rfl rfl (bC.rd (i:=104) rfl) nz nH rfl rfl (by decide) (by simp;omega) rfl fun eF eG Y eH U bE =>?_
    refine⟨bE.to qU,?_⟩
    have bF:=bE.freezeR 106 rfl
    refine so 7 ?_
    refine lC U bF 107 rfl rfl rfl (bF.rd (i:=106) rfl) nz nH rfl rfl (by decide) (by simp;omega) rfl fun eI eJ Y eK U a6 =>?_
    refine⟨a6.to qU,?_⟩
    refine so 11 ?_
    refine lC U a6 107 rfl rfl rfl (a6.rd (i:=105) rfl) nz nH rfl rfl (by decide) (by simp;omega) rfl fun eL eM Y eN U a7 =>?_
    refine⟨a7.to qU,?_⟩
    refine goA ag [12,13] 2 4095 16383 U (a7.to qU) (.nilCheck rfl<|.fa 0 rfl ud .nil) fun Y U =>?_
    refine se 14 ?_
    refine st1 U a7 1 uh fun eO cB _ =>?_
    refine wad ?_
    refine bt _ _ ?_
    replace U:=U.oz [0,4,5,7,8,9]
    refine zsr fun gR cC =>?_
    refine k9 U (.build rfl mM nQ rfl (by dsimp only [l9,List.set] <;> rfl) .nil) fun Y U =>?_
    refine plz (stw U cB 4 lZ fun eP bG _ =>?_)
    refine znl (cC _ _ ?_)
    refine rtd (mK (fn:=Tryz.f75) U bG (i:=4) rfl rfl rfl rB rfl lZ ?_)
    have bH:=bG.freezeR 107 rfl
    have hrw:[]++List.take k (L.map mg)++[[.v (.int .i64 (ml vo bl sz pe to place).vo),.v (.int .i64 (ml vo bl sz pe to place).bl),.v (.int .i64 (ml vo bl sz pe to place).sz),.v (.int .i64 (ml vo bl sz pe to place).pe),.ns .i64 (ml vo bl sz pe to place).place,.v (.int .i64 (ml vo bl sz pe to place).to),.v (.int .i64 (ml vo bl sz pe to place).ne),.v (.bool (ml vo bl sz pe to place).hi),.v (.int .i64 (ml vo bl sz pe to place).fl),.ns .i64 (ml vo bl sz pe to place).pins,.l 2 ((ml vo bl sz pe to place).ws.map wrD)]]++List.drop k (L.map mg)=(L.take k++[ml vo bl sz pe to place]++L.drop k).map mg:=by simp [mg,ml]
    simp only [ml] at hrw
    erw [hrw] at bH
    exact⟨_,_,_,_,L.take k++[ml vo bl sz pe to place]++L.drop k,_,_,rfl,hM.ins (rz hN) k,bH.ren [(1,1),(2,107)] (by decide)⟩
   have a8:=cp.oz [1,2,4,5,8,9,10]
   refine region_p 14 (B:=[(1,_),(2,_),(4,_),(5,_),(8,_),(9,_),(10,_)]) (a8.to i7l) a8 (by kernel_rfl) (fun eQ aR a9 =>?_);clear a8
   refine goA aR [0,1,2,3,4] 5 0 31 U (a9.to i7l) (.move rfl<|.move rfl<|.len rfl nz<|.lss rfl rfl<|.move rfl .nil) fun Y U =>?_
   refine bc U 49 ?_ ?_
   · intro hb _;exact absurd hb (by simpa using hk)
   clear U;intro _ U
   refine goA aR [5,6,7,8,9,10,11,12,13] 9 31 16383 U (a9.to i7l) (.s<|.s<|.s<|.s<|.s<|.s<|.s<|.s<|.pickF rfl rfl .nil) fun Y U =>?_
   refine wad ?_
   refine br _ _ ?_
   refine wcf U ?_
   refine wp_exit ?_
   refine bq _ _ ?_
   refine wsk fun gS bI =>?_
   replace U:=U.oz [0,4,5,7,8,9]
   have ba:=a9.oz [1,2,4,5,8,9,10]
   refine region_p 14 (B:=[(1,_),(2,_),(4,_),(5,_),(8,_),(9,_),(10,_)]) (ba.to i7l) ba (by kernel_rfl) (fun eR ah bb =>?_);clear ba
   refine goA ah [0,1,2] 3 0 7 U (bb.to i7l) (.move rfl<|.move rfl<|.move rfl .nil) fun Y U =>?_
   have aN:=Rd.capL (bb.rd (i:=8) rfl)
   have bJ:=bb.takeR (i:=8) rfl k hkl 100 rfl
   refine goR ah [3,5,8,9] [5] 4 7 815 U (bJ.to i7l) (.p (fun _ _ h_=>mD h_ k rfl rfl nz ld rfl (Nat.le_trans hkl aN))<|.loadBR hh (i:=9) rfl rfl U34 rfl ld (by simp) (by dsimp only [List.drop,List.take] <;> rfl)<|.move rfl<|.move rfl .nil) fun Y U =>?_
   have aO:=bJ.dropR (i:=8) rfl k hkl 101 rfl
   refine goA ah [10] 1 815 1839 U (aO.to i7l) (.p (fun _ _ h_=>lK h_ k rfl rfl nz ld rfl hkl) .nil) fun Y U =>?_
   refine xY 4 6 rfl rfl (by kernel_rfl) rfl rfl (fun K hK =>?_) (fun K hK =>?_)
   ·
    have bK:=aO.nilR 102 34 11
    refine lC U bK 102 rfl rfl rfl (bK.rd (i:=100) rfl) nz nH rfl rfl (by decide) (by simp;omega) rfl ?_
    intro eS eT Y eU U bd
    refine hK _ _ (fun _=>(bd.to i7l)) ?_;clear hK K
    refine so 6 ?_
    refine lq U bd 103 (mm:=11) rfl (.cons rfl rfl (.cons (.v _) (.cons (.v _) (.cons (.v _) (.cons (.v _) (.cons (bd.rd (i:=10) rfl) (.cons (.v _) (.cons (.v _) (.cons (.v _) (.cons (.v _) (.cons (Rd.nilN _ _ .i64 _) (.cons (.l0 _ _ 2) .nil))))))))))) .nil) nz nH rfl rfl rfl rfl rfl fun eV Y eW U bL =>?_
    refine⟨bL.to i7l,?_⟩
    have bM:=bL.freezeR 103 rfl
    refine so 7 ?_
    refine lC U bM 102 rfl rfl rfl (bM.rd (i:=103) rfl) nz nH rfl rfl (by decide) (by simp;omega) rfl fun eX eY Y eZ U be =>?_
    refine⟨be.to i7l,?_⟩
    refine so 11 ?_
    refine lC U be 102 rfl rfl rfl (be.rd (i:=101) rfl) nz nH rfl rfl (by decide) (by simp;omega) rfl fun e0 e1 Y e2 U bf =>?_
    refine⟨bf.to i7l,?_⟩
    refine goA ah [12,13] 2 4095 16383 U (bf.to i7l) (.nilCheck rfl<|.fa 0 rfl ud .nil) fun Y U =>?_
    refine se 14 ?_
    refine st1 U bf 1 uh fun e3 cD _ =>?_
    refine wad ?_
    refine bI _ _ ?_
    replace U:=U.oz [0,4,5,7,8,9]
    refine zsr fun gT cE =>?_
    refine k9 U (.build rfl mM nQ rfl (by dsimp only [l9,List.set] <;> rfl) .nil) fun Y U =>?_
    refine plz (stw U cD 4 lZ fun e4 bN _ =>?_)
    refine znl (cE _ _ ?_)
    refine rtd (mK (fn:=Tryz.f75) U bN (i:=4) rfl rfl rfl rB rfl lZ ?_)
    have bO:=bN.freezeR 102 rfl
    have hrw:[]++List.take k (L.map mg)++[[.v (.int .i64 (ml vo bl sz pe to place).vo),.v (.int .i64 (ml vo bl sz pe to place).bl),.v (.int .i64 (ml vo bl sz pe to place).sz),.v (.int .i64 (ml vo bl sz pe to place).pe),.ns .i64 (ml vo bl sz pe to place).place,.v (.int .i64 (ml vo bl sz pe to place).to),.v (.int .i64 (ml vo bl sz pe to place).ne),.v (.bool (ml vo bl sz pe to place).hi),.v (.int .i64 (ml vo bl sz pe to place).fl),.ns .i64 (ml vo bl sz pe to place).pins,.l 2 ((ml vo bl sz pe to place).ws.map wrD)]]++List.drop k (L.map mg)=(L.take k++[ml vo bl sz pe to place]++L.drop k).map mg:=by simp [mg,ml]
    simp only [ml] at hrw
    erw [hrw] at bO
    exact⟨_,_,_,_,L.take k++[ml vo bl sz pe to place]++L.drop k,_,_,rfl,hM.ins (rz hN) k,bO.ren [(1,1),(2,102)] (by decide)⟩
   refine lq U aO 102 (mm:=11) rfl (.cons rfl rfl (.cons (.v _) (.cons (.v _) (.cons (.v _) (.cons (.v _) (.cons (aO.rd (i:=10) rfl) (.cons (.v _) (.cons (.v _) (.cons (.v _) (.cons (.v _) (.cons (Rd.nilN _ _ .i64 _) (.cons (.l0 _ _ 2) .nil))))))))))) .nil) nz nH rfl rfl rfl rfl rfl ?_
   intro e5 Y e6 U bP
   refine hK _ _ (fun _=>(bP.to i7l)) ?_;clear hK K
   have bQ:=bP.nilR 103 34 11
   refine so 4 ?_
   refine lC U bQ 103 rfl rfl rfl (bQ.rd (i:=100) rfl) nz nH rfl rfl (by decide) (by simp;omega) rfl fun e7 e8 Y fb U bR =>?_
   refine⟨bR.to i7l,?_⟩
   have bS:=bR.freezeR 102 rfl
   refine so 7 ?_
   refine lC U bS 103 rfl rfl rfl (bS.rd (i:=102) rfl) nz nH rfl rfl (by decide) (by simp;omega) rfl fun fc fd Y fe U bg =>?_
   refine⟨bg.to i7l,?_⟩
   refine so 11 ?_
   refine lC U bg 103 rfl rfl rfl (bg.rd (i:=101) rfl) nz nH rfl rfl (by decide) (by simp;omega) rfl fun ff fg Y fh U bh =>?_
   refine⟨bh.to i7l,?_⟩
   refine goA ah [12,13] 2 4095 16383 U (bh.to i7l) (.nilCheck rfl<|.fa 0 rfl ud .nil) fun Y U =>?_
   refine se 14 ?_
   refine st1 U bh 1 uh fun fi cF _ =>?_
   refine wad ?_
   refine bI _ _ ?_
   replace U:=U.oz [0,4,5,7,8,9]
   refine zsr fun gU cG =>?_
   refine k9 U (.build rfl mM nQ rfl (by dsimp only [l9,List.set] <;> rfl) .nil) fun Y U =>?_
   refine plz (stw U cF 4 lZ fun fj bT _ =>?_)
   refine znl (cG _ _ ?_)
   refine rtd (mK (fn:=Tryz.f75) U bT (i:=4) rfl rfl rfl rB rfl lZ ?_)
   have bU:=bT.freezeR 103 rfl
   have hrw:[]++List.take k (L.map mg)++[[.v (.int .i64 (ml vo bl sz pe to place).vo),.v (.int .i64 (ml vo bl sz pe to place).bl),.v (.int .i64 (ml vo bl sz pe to place).sz),.v (.int .i64 (ml vo bl sz pe to place).pe),.ns .i64 (ml vo bl sz pe to place).place,.v (.int .i64 (ml vo bl sz pe to place).to),.v (.int .i64 (ml vo bl sz pe to place).ne),.v (.bool (ml vo bl sz pe to place).hi),.v (.int .i64 (ml vo bl sz pe to place).fl),.ns .i64 (ml vo bl sz pe to place).pins,.l 2 ((ml vo bl sz pe to place).ws.map wrD)]]++List.drop k (L.map mg)=(L.take k++[ml vo bl sz pe to place]++L.drop k).map mg:=by simp [mg,ml]
   simp only [ml] at hrw
   erw [hrw] at bU
   exact⟨_,_,_,_,L.take k++[ml vo bl sz pe to place]++L.drop k,_,_,rfl,hM.ins (rz hN) k,bU.ren [(1,1),(2,103)] (by decide)⟩
  refine wp_region_lit ?_
  refine k9 U (.loadBR aY (i:=23) rfl rfl lx rfl lY (by simp) (by dsimp only [List.drop,List.take] <;> rfl) .nil) fun Y U =>?_
  refine plz (ecb U Tryz.func76 rfl aY (wW _ vo bl sz pe to _ _ place _ _ _ _ _ _ ((aY.rd (i:=21) rfl).any) (by omega) hN) fun Y fk U cH =>?_)
  refine k9 U (.move rfl<|.extract rfl rfl<|.extract rfl rfl .nil) fun Y U =>?_
  refine plz (lc U cH 25 mo rfl fun fm Y fo U cI _ _ =>?_)
  refine plz (stw U cI 25 ld fun fp cJ _ =>?_)
  refine gz bp U (.assign rfl .nil) fun Y U =>?_
  refine wsk fun gV fq =>?_
  replace U:=U.oz [0,4,5,7,8,9,10]
  refine la U (.move rfl<|.neq rfl rfl .nil) fun Y U =>?_
  refine bcT U 42 fun U =>?_
  refine wct U ?_
  refine zsr fun gW cK =>?_
  refine k9 U (.move rfl<|.build rfl mM nQ rfl (by dsimp only [l9,List.set] <;> rfl) .nil) fun Y U =>?_
  refine plz (stw U cJ 20 lZ fun fs bV _ =>?_)
  refine znl (cK _ _ ?_)
  refine rtd (mK (fn:=Tryz.f75) U bV (i:=20) rfl rfl rfl rB rfl lZ ?_)
  exact⟨_,_,_,_,L,_,_,rfl,hM.up (by omega),bV.only [1,2]⟩
 intro aK U;try simp only [QQ,Qax] at aK
 refine wcf U ?_
 refine zss (hK6 _ _ ?_)
 refine wsk fun gX cL =>?_
 replace U:=U.oz [0,4,5,7,8]
 refine la U (.move rfl<|.lss rfl rfl .nil) fun Y U =>?_
 refine bc U 77 ?_ ?_
 ·
  intro aH U;try simp only [QQ,Qax] at aH
  refine wct U ?_
  refine zsr fun gY cM =>?_
  refine k9 U (.build rfl mM nQ rfl (by dsimp only [l9,List.set] <;> rfl) .nil) fun Y U =>?_
  refine plz (stw U bo 20 lZ fun ft bW _ =>?_)
  refine znl (cM _ _ ?_)
  refine rtd (mK (fn:=Tryz.f75) U bW (i:=20) rfl rfl rfl rB rfl lZ ?_)
  exact⟨_,_,_,_,L,_,_,rfl,hM.up (by omega),bW.only [1,2]⟩
 intro aH U;try simp only [QQ,Qax] at aH
 revert U
 obtain⟨jn,rfl⟩:∃ jn:Nat,j=(jn:Int):=⟨j.toNat,by omega⟩
 intro U
 have hjl:jn<L.length:=by omega
 obtain⟨x,hes⟩:∃ x,L[jn]? = some x:=⟨_,List.getElem?_eq_getElem hjl⟩
 refine wcf U ?_
 refine zss (cL _ _ ?_)
 refine wsk fun bi cN =>?_
 have aw:∀ (a:Act) (w:World),(∃ (y:VolV) (e9 rl rf rn:Int) (B4 cO cP c8 d1 d2 d3:Nat) (p8 p1 p2 p3:Option Addr),VolS (n+1) y∧Has 97 [(0,.pointer (some ⟨B,0,none⟩)),(4,.pointer (some ⟨B4,0,none⟩)),(7,.int .i64 jn),(8,.slice p8 ([]++(L.map mg)).length c8),(11,.pointer (some ⟨cO,0,none⟩)),(12,.pointer (some ⟨cP,0,none⟩))] a∧MemOk X w0 [(1,.box B 120 [.slice p (L.map mg).length c]),(2,.dat (.slice p (L.map mg).length c) (.l 11 (L.map mg))),(4,.box B4 128 [.int .i64 0,.int .i64 0,.int .i64 0,.int .i64 0,.slice none 0 0]),(8,.row (.slice p8 ([]++(L.map mg)).length c8) 34 11 ([]++(L.map mg))),(11,.box cO 34 [.int .i64 y.vo,.int .i64 y.bl,.int .i64 y.sz,.int .i64 y.pe,.slice p1 y.place.length d1,.int .i64 y.to,.int .i64 y.ne,.bool y.hi,.int .i64 y.fl,.slice p2 y.pins.length d2,.slice p3 (y.ws.map wrD).length d3]),(12,.box cP 128 [.int .i64 e9,.int .i64 rl,.int .i64 rf,.int .i64 rn,.slice none 0 0]),(13,.dat (.slice p1 y.place.length d1) (.ns .i64 y.place)),(14,.dat (.slice p2 y.pins.length d2) (.ns .i64 y.pins)),(15,.dat (.slice p3 (y.ws.map wrD).length d3) (.l 2 (y.ws.map wrD)))] w)→bi a w:=by
   clear U bo
   rintro Y fu ⟨y,e9,rl,rf,rn,B4,cO,cP,c8,d1,d2,d3,p8,p1,p2,p3,hyS,U,ax⟩
   refine cN _ _ ?_
   refine zsr fun gZ cQ =>?_
   refine k9 U (.move rfl<|.move rfl<|.loadBR ax (i:=11) rfl rfl U34 rfl ld (by simp) (by dsimp only [List.drop,List.take] <;> rfl) .nil) fun Y U =>?_
   obtain⟨dz,dA,bX,_⟩:=ax.openC (i:=8) rfl (Nat.lt_of_le_of_lt (Nat.zero_le jn) (by simpa using hjl));cases bX
   refine k9 U (.c rfl (fun _ h_=>li h_ rfl rfl nz ld (jn) rfl (by simpa using hjl)) .nil) fun Y U =>?_
   refine plz (qQ U ax 8 rfl (jn) (by simpa using hjl) rfl rfl rfl rfl rfl ld (.cons (.v _) (.cons (.v _) (.cons (.v _) (.cons (.v _) (.cons (ax.rd (i:=13) rfl) (.cons (.v _) (.cons (.v _) (.cons (.v _) (.cons (.v _) (.cons (ax.rd (i:=14) rfl) (.cons (ax.rd (i:=15) rfl) .nil))))))))))) fun fv cR =>?_)
   refine znl (cQ _ _ ?_)
   replace U:=U.oz [0,4,8,12]
   refine zsr fun g0 cS =>?_
   refine k9 U (.move rfl<|.move rfl<|.nilCheck rfl<|.fa 0 rfl ud .nil) fun Y U =>?_
   refine plz (st1 U cR 1 uh fun fw bY _ =>?_)
   refine znl (cS _ _ ?_)
   replace U:=U.oz [4,12]
   refine zsr fun g2 cT =>?_
   refine k9 U (.loadBR bY (i:=12) rfl rfl rB rfl lZ (by simp) (by dsimp only [List.drop,List.take] <;> rfl) .nil) fun Y U =>?_
   refine plz (stw U bY 4 lZ fun fx bZ _ =>?_)
   refine znl (cT _ _ ?_)
   refine rtd (mK (fn:=Tryz.f75) U bZ (i:=4) rfl rfl rfl rB rfl lZ ?_)
   have b0:=bZ.freezeR 8 rfl
   have hrw:([]++(L.map mg)).set jn [.v (.int .i64 y.vo),.v (.int .i64 y.bl),.v (.int .i64 y.sz),.v (.int .i64 y.pe),.ns .i64 y.place,.v (.int .i64 y.to),.v (.int .i64 y.ne),.v (.bool y.hi),.v (.int .i64 y.fl),.ns .i64 y.pins,.l 2 (y.ws.map wrD)]=(L.set jn y).map mg:=by rw[List.nil_append,List.map_set];rfl
   have hln:([]++(L.map mg)).length=((L.set jn y).map mg).length:=by simp
   rw[hrw,hln] at b0
   exact⟨_,_,_,_,L.set jn y,_,_,rfl,hM.set hyS jn,b0.ren [(1,1),(2,8)] (by decide)⟩
 obtain⟨dB,dC,b1,bj⟩:=bo.openC (i:=24) rfl (Nat.lt_of_le_of_lt (Nat.zero_le (jn)) (by simpa using hjl))
 revert U
 cases b1
 intro U
 obtain⟨dD,b4,b5⟩:=bj.eltC (i:=24) rfl (jn) (r:=[.v (.int .i64 x.vo),.v (.int .i64 x.bl),.v (.int .i64 x.sz),.v (.int .i64 x.pe),.ns .i64 x.place,.v (.int .i64 x.to),.v (.int .i64 x.ne),.v (.bool x.hi),.v (.int .i64 x.fl),.ns .i64 x.pins,.l 2 (x.ws.map wrD)]) (by simpa using oH hes)
 revert U
 rcases b5 with _|⟨ak,_|⟨al,_|⟨ao,_|⟨ap,_|⟨ad,_|⟨aq,_|⟨ar,_|⟨au,_|⟨av,_|⟨ae,_|⟨aa,_|_⟩⟩⟩⟩⟩⟩⟩⟩⟩⟩⟩
 obtain rfl:=ak.v_out
 clear ak
 obtain rfl:=al.v_out
 clear al
 obtain rfl:=ao.v_out
 clear ao
 obtain rfl:=ap.v_out
 clear ap
 obtain⟨fy,fz,b6,dE⟩:=ad.ns_shape;subst b6
 intro U
 have b7:=bj.dat 25 rfl (ad.cast (fun _ h=>h));clear bj ad
 revert U
 obtain rfl:=aq.v_out
 clear aq
 obtain rfl:=ar.v_out
 clear ar
 obtain rfl:=au.v_out
 clear au
 obtain rfl:=av.v_out
 clear av
 obtain⟨fA,fB,b8,dF⟩:=ae.ns_shape;subst b8
 intro U
 have b9:=b7.dat 26 rfl (ae.cast (fun _ h=>(lf rfl h)));clear b7 ae
 revert U
 obtain⟨fC,fD,ca,dG⟩:=aa.l_shape;subst ca
 intro U
 have cU:=b9.dat 27 rfl (aa.cast (fun _ h=>(lf rfl (lf rfl h))));clear b9 aa
 have bk:=cU.oz [1,2,20,21,22,23,24,25,26,27]
 refine region_p 5 (B:=[(1,_),(2,_),(20,_),(21,_),(22,_),(23,_),(24,_),(25,_),(26,_),(27,_)]) (bk.to qt) bk (by kernel_rfl) (fun fE ab ay =>?_);clear bk
 refine goR ab [0,1,2,3,4] [3,4] 5 0 31 U (ay.to qt) (.move rfl<|.move rfl<|.p (fun _ _ h_=>li h_ rfl rfl nz ld (jn) rfl (by simpa using hjl))<|.c (fun _ hW _ h_=>vI h_ hW (i:=24) rfl (jn) b4 rfl U34 rfl ld)<|.loadBR hh (i:=23) rfl rfl lx rfl lY (by simp) (by dsimp only [List.drop,List.take] <;> rfl) .nil) fun Y U =>?_
 refine dth 5 9 10 ?_ ?_ ?_
 ·
  refine ecl U Tryz.func109 rfl (ry _ x n (hM.2 _ (List.mem_of_getElem? hes)) hn items _ _ _ _ _ _ _ _ _ _ _ _ _ _ _ _ _ _ _ _ (by omega) (fun e he=>z6 (hii e he).1) (fun e he=>(hii e he).2) (ay.into [(1,25),(2,26),(3,27),(4,22)] (by decide) rfl)) ?_
  rintro e fF ⟨y,e9,rl,rf,rn,dH,dI,dJ,dK,dL,dM,rfl,hyo,hyS,aS⟩
  have cc:=ay.back aS [(28,1),(29,2),(30,3)] (by decide);clear aS ay
  have cd:=cc.oz [28,29,30,1,2,20,21,23,24]
  refine⟨_,rfl,?_⟩;intro Y U
  refine⟨fun h=>(Bool.false_ne_true (h.symm.trans (by rfl))).elim,?_⟩
  refine goB ab [6,7,8] 3 63 511 U (.move rfl<|.extract rfl rfl<|.extract rfl rfl .nil) fun Y U =>?_
  refine dtw 9 10 ?_ ?_
  ·
   refine lc U cd 31 mo rfl fun fG Y fH U cV _ _ =>?_
   refine⟨fun h=>(Bool.false_ne_true (h.symm.trans (by rfl))).elim,?_⟩
   refine se 10 ?_
   refine lc U cV 32 mM rfl fun fI Y fJ U cW _ _ =>?_
   refine se 11 ?_
   refine stw U cW 31 ld fun fK cX _ =>?_
   refine se 12 ?_
   refine stw U cX 32 lZ fun fL cY _ =>?_
   refine wad ?_
   have cZ:=cY.closeC 24 rfl
   show bi _ _
   exact aw _ _ ⟨y,_,_,_,_,_,_,_,_,_,_,_,_,_,_,_,hyS,U.only [0,4,7,8,11,12],cZ.ren [(1,1),(2,2),(4,20),(8,24),(11,31),(12,32),(13,28),(14,29),(15,30)] (by decide)⟩
  refine lc U cd 31 mM rfl fun fM Y fN U c0 _ _ =>?_
  refine⟨fun h=>(Bool.false_ne_true (h.symm.trans (by rfl))).elim,?_⟩
  refine se 9 ?_
  refine lc U c0 32 mo rfl fun fO Y fP U c1 _ _ =>?_
  refine se 11 ?_
  refine stw U c1 32 ld fun fQ c2 _ =>?_
  refine se 12 ?_
  refine stw U c2 31 lZ fun fR c3 _ =>?_
  refine wad ?_
  have c4:=c3.closeC 24 rfl
  show bi _ _
  exact aw _ _ ⟨y,_,_,_,_,_,_,_,_,_,_,_,_,_,_,_,hyS,U.only [0,4,7,8,11,12],c4.ren [(1,1),(2,2),(4,20),(8,24),(11,32),(12,31),(13,28),(14,29),(15,30)] (by decide)⟩
 ·
  refine lc U ay 28 mo rfl fun fS Y fT U aI _ _ =>?_
  refine⟨fun _=>(aI.to qt),?_⟩
  refine dtw 5 10 ?_ ?_
  ·
   refine ecl U Tryz.func109 rfl (ry _ x n (hM.2 _ (List.mem_of_getElem? hes)) hn items _ _ _ _ _ _ _ _ _ _ _ _ _ _ _ _ _ _ _ _ (by omega) (fun e he=>z6 (hii e he).1) (fun e he=>(hii e he).2) (aI.into [(1,25),(2,26),(3,27),(4,22)] (by decide) rfl)) ?_
   rintro e fU ⟨y,e9,rl,rf,rn,dN,dO,dP,dQ,dR,dS,rfl,hyo,hyS,aT⟩
   have ce:=aI.back aT [(29,1),(30,2),(31,3)] (by decide);clear aT aI
   have c5:=ce.oz [29,30,31,1,2,20,21,23,24,28]
   refine⟨_,rfl,?_⟩;intro Y U
   refine⟨fun h=>(Bool.false_ne_true (h.symm.trans (by rfl))).elim,?_⟩
   refine goB ab [6,7,8] 3 575 1023 U (.move rfl<|.extract rfl rfl<|.extract rfl rfl .nil) fun Y U =>?_
   refine se 10 ?_
   refine lc U c5 32 mM rfl fun fV Y fW U c6 _ _ =>?_
   refine se 11 ?_
   refine stw U c6 28 ld fun fX c7 _ =>?_
   refine se 12 ?_
   refine stw U c7 32 lZ fun fY da _ =>?_
   refine wad ?_
   have db:=da.closeC 24 rfl
   show bi _ _
   exact aw _ _ ⟨y,_,_,_,_,_,_,_,_,_,_,_,_,_,_,_,hyS,U.only [0,4,7,8,11,12],db.ren [(1,1),(2,2),(4,20),(8,24),(11,28),(12,32),(13,29),(14,30),(15,31)] (by decide)⟩
  refine lc U aI 29 mM rfl fun fZ Y f0 U aP _ _ =>?_
  refine⟨fun _=>(aP.to qt),?_⟩
  refine se 5 ?_
  refine ecl U Tryz.func109 rfl (ry _ x n (hM.2 _ (List.mem_of_getElem? hes)) hn items _ _ _ _ _ _ _ _ _ _ _ _ _ _ _ _ _ _ _ _ (by omega) (fun e he=>z6 (hii e he).1) (fun e he=>(hii e he).2) (aP.into [(1,25),(2,26),(3,27),(4,22)] (by decide) rfl)) ?_
  rintro e f1 ⟨y,e9,rl,rf,rn,dT,dU,dV,dW,dX,dY,rfl,hyo,hyS,aU⟩
  have cf:=aP.back aU [(30,1),(31,2),(32,3)] (by decide);clear aU aP
  have dc:=cf.oz [30,31,32,1,2,20,21,23,24,28,29]
  refine⟨_,rfl,?_⟩;intro Y U
  refine goB ab [6,7,8] 3 1599 2047 U (.move rfl<|.extract rfl rfl<|.extract rfl rfl .nil) fun Y U =>?_
  refine se 11 ?_
  refine stw U dc 28 ld fun f2 de _ =>?_
  refine se 12 ?_
  refine stw U de 29 lZ fun f3 df _ =>?_
  refine wad ?_
  have dg:=df.closeC 24 rfl
  show bi _ _
  exact aw _ _ ⟨y,_,_,_,_,_,_,_,_,_,_,_,_,_,_,_,hyS,U.only [0,4,7,8,11,12],dg.ren [(1,1),(2,2),(4,20),(8,24),(11,28),(12,29),(13,30),(14,31),(15,32)] (by decide)⟩
 refine lc U ay 28 mM rfl fun f4 Y f5 U aJ _ _ =>?_
 refine⟨fun _=>(aJ.to qt),?_⟩
 refine dtw 5 9 ?_ ?_
 ·
  refine ecl U Tryz.func109 rfl (ry _ x n (hM.2 _ (List.mem_of_getElem? hes)) hn items _ _ _ _ _ _ _ _ _ _ _ _ _ _ _ _ _ _ _ _ (by omega) (fun e he=>z6 (hii e he).1) (fun e he=>(hii e he).2) (aJ.into [(1,25),(2,26),(3,27),(4,22)] (by decide) rfl)) ?_
  rintro e f6 ⟨y,e9,rl,rf,rn,dZ,d0,d4,d5,d6,d7,rfl,hyo,hyS,aV⟩
  have cg:=aJ.back aV [(29,1),(30,2),(31,3)] (by decide);clear aV aJ
  have dh:=cg.oz [29,30,31,1,2,20,21,23,24,28]
  refine⟨_,rfl,?_⟩;intro Y U
  refine⟨fun h=>(Bool.false_ne_true (h.symm.trans (by rfl))).elim,?_⟩
  refine goB ab [6,7,8] 3 1087 1535 U (.move rfl<|.extract rfl rfl<|.extract rfl rfl .nil) fun Y U =>?_
  refine se 9 ?_
  refine lc U dh 32 mo rfl fun f7 Y f8 U di _ _ =>?_
  refine se 11 ?_
  refine stw U di 32 ld fun f9 dj _ =>?_
  refine se 12 ?_
  refine stw U dj 28 lZ fun ga dk _ =>?_
  refine wad ?_
  have dl:=dk.closeC 24 rfl
  show bi _ _
  exact aw _ _ ⟨y,_,_,_,_,_,_,_,_,_,_,_,_,_,_,_,hyS,U.only [0,4,7,8,11,12],dl.ren [(1,1),(2,2),(4,20),(8,24),(11,32),(12,28),(13,29),(14,30),(15,31)] (by decide)⟩
 refine lc U aJ 29 mo rfl fun gb Y gc U aQ _ _ =>?_
 refine⟨fun _=>(aQ.to qt),?_⟩
 refine se 5 ?_
 refine ecl U Tryz.func109 rfl (ry _ x n (hM.2 _ (List.mem_of_getElem? hes)) hn items _ _ _ _ _ _ _ _ _ _ _ _ _ _ _ _ _ _ _ _ (by omega) (fun e he=>z6 (hii e he).1) (fun e he=>(hii e he).2) (aQ.into [(1,25),(2,26),(3,27),(4,22)] (by decide) rfl)) ?_
 rintro e gf ⟨y,e9,rl,rf,rn,d8,d9,ea,eb,ec,ed,rfl,hyo,hyS,aW⟩
 have ci:=aQ.back aW [(30,1),(31,2),(32,3)] (by decide);clear aW aQ
 have dm:=ci.oz [30,31,32,1,2,20,21,23,24,28,29]
 refine⟨_,rfl,?_⟩;intro Y U
 refine goB ab [6,7,8] 3 1599 2047 U (.move rfl<|.extract rfl rfl<|.extract rfl rfl .nil) fun Y U =>?_
 refine se 11 ?_
 refine stw U dm 29 ld fun gg dn _ =>?_
 refine se 12 ?_
 refine stw U dn 28 lZ fun gh dp _ =>?_
 refine wad ?_
 have dq:=dp.closeC 24 rfl
 show bi _ _
 exact aw _ _ ⟨y,_,_,_,_,_,_,_,_,_,_,_,_,_,_,_,hyS,U.only [0,4,7,8,11,12],dq.ren [(1,1),(2,2),(4,20),(8,24),(11,29),(12,28),(13,30),(14,31),(15,32)] (by decide)⟩
end
section
theorem y9:lR Tryz.prog 120 [.slice none 0 0]=true:=by kernel_rfl
theorem za(vo bl sz pe to ne fl:Int)(hi:Bool)(pp pn pw:Option Addr)(np cp nn9 cn9 nw cw:Nat)(wh xa xb xc:Int)(w0:World)(hvo:0≤vo∧vo≤255)(hw9:0≤wh∧wh≤255)(ha9:0≤xa∧xa≤255)(hb9:0≤xb∧xb≤255)(hc9:0≤xc∧xc≤255) :
   Calls Tryz.prog 74 #[.agg #[.int .i64 vo,.int .i64 bl,.int .i64 sz,.int .i64 pe,.slice pp np cp,.int .i64 to,.int .i64 ne,.bool hi,.int .i64 fl,.slice pn nn9 cn9,.slice pw nw cw],.bool false,.int .u8 wh,.int .u8 xa,.int .u8 xb,.int .u8 xc] w0 fun e w' => ∃ (vo2 bl2 sz2 pe2 to2:Int) (place:List Int) (pp:Option Addr) (cp:Nat),e=.returned (.agg #[.int .i64 1,.int .i64 vo2,.int .i64 bl2,.int .i64 sz2,.int .i64 pe2,.slice pp place.length cp,.int .i64 to2,.int .i64 0,.int .i64 0,.slice none 0 0])∧place.length≤9∧Rd (New w0) w' (.slice pp place.length cp) (.ns .i64 place)∧Below w0.heap.size w0 w':=by
 refine AL Tryz.func74 rfl Tryz.ntmps74 fun Y U =>?_
 have m0:=MemOk.start (fun _=>False) w0
 obtain⟨tq,htq,htq0,htq3⟩:∃ x:Int,(xc / 4).tmod 3=x∧0≤x∧x≤2:=⟨_,rfl,by rw[Int.tmod_eq_emod_of_nonneg (by omega)];omega,by rw[Int.tmod_eq_emod_of_nonneg (by omega)];omega⟩
 refine zsr fun K0 hK0 =>?_
 refine plz (ly U m0 20 (cs:=[_,_,_,_,_,_,_,_,_,_,_]) rfl rfl rfl fun g1 Y w2 U m2 _ _ =>?_)
 refine plz (lc U m2 21 ox rfl fun g3 Y w4 U m4 _ _ =>?_)
 refine znl (hK0 _ _ ?_)
 refine wsk fun K1 hK1 =>?_
 refine la U (.move rfl<|.not rfl .nil) fun Y U =>?_
 refine wct U ?_
 refine la U (.assign rfl .nil) fun Y U =>?_
 refine wsk fun K2 hK2 =>?_
 refine la U (.move rfl<|.rem rfl rfl (by decide) rfl<|.eql rfl rfl .nil) fun Y U =>?_
 refine bc U 19 ?_ ?_
 ·
  intro aa U;try simp only [QQ,Qax] at aa
  refine wct U ?_
  replace U:=U.oz [2,3,4,5,6,12,13]
  refine wp_region_lit ?_
  refine gz hK2 U (.move rfl<|.quo rfl rfl (by decide) (r:=xc / 4) (by rw[Int.tdiv_eq_ediv_of_nonneg (by omega)];exact IntWalk.u8_in _ (by omega))<|.rem rfl rfl (by decide) (r:=tq) htq<|.conv rfl U5 U3 (r:=tq) (IntWalk.i64_in _ (by omega))<|.add rfl rfl (IntWalk.i64_in _ (by omega))<|.assign rfl<|.nil) fun Y U =>?_
  refine zsr fun K3 hK3 =>?_
  refine k9 U (.fa 0 rfl U34<|.lb m4 20 U3 rfl rfl rfl<|.conv rfl U3 U5 (r:=vo) (IntWalk.u8_in _ (by omega))<|.move rfl<|.move rfl<|.move rfl<|.move rfl .nil) fun Y U =>?_
  refine plz (ecl U Tryz.func77 rfl (oU vo xa xb xc _ _ hvo ha9 hb9 hc9) ?_)
  rintro e ak ⟨bl2,sz2,pe2,place,al,ao,rfl,-,-,-,-,-,-,-,hpl9,ab,ac⟩
  have ai:=m4.callF 22 rfl ac ab
  refine⟨_,rfl,?_⟩;intro Y U
  refine plz (stw U ai 21 lY fun ap ad _ =>?_)
  refine znl (hK3 _ _ ?_)
  refine rtd (mK (fn:=Tryz.f74) U ad (i:=21) rfl rfl rfl lx rfl lY ?_)
  exact⟨_,_,_,_,_,place,_,_,rfl,hpl9,ad.outF (i:=22) rfl,ad.below⟩
 intro aa U;try simp only [QQ,Qax] at aa
 refine wcf U ?_
 refine zss (hK2 _ _ ?_)
 replace U:=U.oz [2,3,4,5,6,12,13]
 refine zsr fun K4 hK4 =>?_
 refine k9 U (.fa 0 rfl U34<|.lb m4 20 U3 rfl rfl rfl<|.conv rfl U3 U5 (r:=vo) (IntWalk.u8_in _ (by omega))<|.move rfl<|.move rfl<|.move rfl<|.move rfl .nil) fun Y U =>?_
 refine plz (ecl U Tryz.func77 rfl (oU vo xa xb xc _ _ hvo ha9 hb9 hc9) ?_)
 rintro e aq ⟨bl2,sz2,pe2,place,ar,au,rfl,-,-,-,-,-,-,-,hpl9,ae,ag⟩
 have aj:=m4.callF 22 rfl ag ae
 refine⟨_,rfl,?_⟩;intro Y U
 refine plz (stw U aj 21 lY fun av ah _ =>?_)
 refine znl (hK4 _ _ ?_)
 refine rtd (mK (fn:=Tryz.f74) U ah (i:=21) rfl rfl rfl lx rfl lY ?_)
 exact⟨_,_,_,_,_,place,_,_,rfl,hpl9,ah.outF (i:=22) rfl,ah.below⟩
theorem z7(n:Nat)(x:VolV)(there:Bool)(p1 p2 p3:Option Addr)(d1 d2 d3:Nat)(wh xa xb xc:Int)(w0:World)(hx:there=true→VolS n x)(hx0:there=false→x=AE)(hn:n≤800000)(hw9:0≤wh∧wh≤255)(ha9:0≤xa∧xa≤255)(hb9:0≤xb∧xb≤255)(hc9:0≤xc∧xc≤255) :
   Calls Tryz.prog 74 #[.agg #[.int .i64 x.vo,.int .i64 x.bl,.int .i64 x.sz,.int .i64 x.pe,.slice p1 x.place.length d1,.int .i64 x.to,.int .i64 x.ne,.bool x.hi,.int .i64 x.fl,.slice p2 x.pins.length d2,.slice p3 (x.ws.map wrD).length d3],.bool there,.int .u8 wh,.int .u8 xa,.int .u8 xb,.int .u8 xc] w0 fun e w' => ∃ (kd vo2 bl2 sz2 pe2 to2 at0 ix:Int) (place:List Int) (it:List (Int×List Int)) (pp:Option Addr) (cp:Nat) (pi:Option Addr) (ci:Nat),e=.returned (.agg #[.int .i64 kd,.int .i64 vo2,.int .i64 bl2,.int .i64 sz2,.int .i64 pe2,.slice pp place.length cp,.int .i64 to2,.int .i64 at0,.int .i64 ix,.slice pi it.length ci])∧place.length≤9∧it.length≤8∧ItsB it∧Rd (New w0) w' (.slice pp place.length cp) (.ns .i64 place)∧Rd (New w0) w' (.slice pi it.length ci) (.l 2 (it.map itD))∧Below w0.heap.size w0 w':=by
 cases there
 · obtain rfl:=hx0 rfl
   refine(za 0 0 0 0 0 0 0 false p1 p2 p3 0 d1 0 d2 0 d3 wh xa xb xc w0 (by omega) hw9 ha9 hb9 hc9).mono ?_
   rintro e w' ⟨vo2,bl2,sz2,pe2,to2,place,pp,cp,rfl,hp,hd,hb⟩
   exact⟨1,vo2,bl2,sz2,pe2,to2,0,0,place,[],pp,cp,none,0,rfl,hp,by simp,(fun e h=>by cases h),hd,Rd.l0 none 0 2,hb⟩
 obtain⟨h1,h2,h3,h4,-⟩:=hx rfl
 obtain⟨vo,bl,sz,pe,place0,to,ne,hi,fl,pins,ws⟩:=x
 simp only at *
 obtain⟨⟨a1,a2,a3,a4,a5,a6,a7,a8,a9,aa,ab⟩,b1,b2,b3⟩:=h1
 obtain⟨z,rfl⟩:∃ z:Nat,sz=(z:Int):=⟨sz.toNat,by omega⟩
 refine(wQ vo bl z pe to ne fl hi p1 p2 p3 place0.length d1 pins.length d2 (ws.map wrD).length d3 wh xa xb xc w0 (by omega) (by rw[List.length_map];omega) (by omega) hw9 ha9 hb9 hc9).mono ?_
 rintro e w' ⟨kd,bl2,sz2,pe2,to2,at0,ix,vo2,it,pi,ci,dd,rfl,hkd,hit,hib,hd,hb⟩
 exact⟨kd,vo2,bl2,sz2,pe2,to2,at0,ix,[],it,none,0,pi,ci,rfl,by simp,hit,hib,Rd.nilN _ _ .i64 none,hd,hb⟩
theorem wu(l:List Int)(pl:Option Addr)(cl:Nat)(w0:World)(h0:Rd (fun _=>True) w0 (.slice pl l.length cl) (.ns .u8 l))(hl:l.length≤100000)(hlb:∀ j,j<l.length→0≤l.getD j 0∧l.getD j 0≤255) :
   Calls Tryz.prog 31 #[.slice pl l.length cl] w0 fun e w' => ∃ (x:VolV) (p1 p2 p3:Option Addr) (d1 d2 d3:Nat),e=.returned (.agg #[.int .i64 x.vo,.int .i64 x.bl,.int .i64 x.sz,.int .i64 x.pe,.slice p1 x.place.length d1,.int .i64 x.to,.int .i64 x.ne,.bool x.hi,.int .i64 x.fl,.slice p2 x.pins.length d2,.slice p3 (x.ws.map wrD).length d3])∧VolS l.length x∧Rd (New w0) w' (.slice p1 x.place.length d1) (.ns .i64 x.place)∧Rd (New w0) w' (.slice p2 x.pins.length d2) (.ns .i64 x.pins)∧Rd (New w0) w' (.slice p3 (x.ws.map wrD).length d3) (.l 2 (x.ws.map wrD))∧Below w0.heap.size w0 w':=by
 refine mp Tryz.func31 rfl Tryz.ntmps31 fun Y U =>?_
 have m0:=MemOk.start (fun _=>False) w0
 refine zsr fun K0 hK0 =>?_
 refine plz (lc U m0 20 mo rfl fun g1 Y w2 U m2 _ _ =>?_)
 refine znl (hK0 _ _ ?_)
 refine zsr fun K1 hK1 =>?_
 refine k9 U (.build rfl Ao y9 rfl (by dsimp only [l9,List.set] <;> rfl) .nil) fun Y U =>?_
 refine plz (ly U m2 21 (cs:=[_]) rfl rfl rfl fun g5 Y w6 U m6 _ _ =>?_)
 refine gz hK1 U (.assign rfl .nil) fun Y U =>?_
 refine wsk fun K2 hK2 =>?_
 refine la U (.assign rfl .nil) fun Y U =>?_
 refine wp_block ?_
 refine wp_loop_ghost (fun g a w => ∃ (i k B2 B c:Nat) (L:List VolV) (p:Option Addr),i≤l.length∧k≤i∧g=l.length - i∧MacS k L∧Has 72 [(0,.slice pl l.length cl),(2,.pointer (some ⟨B2,0,none⟩)),(3,.pointer (some ⟨B,0,none⟩)),(4,.int .i64 i)] a∧MemOk (cn w0) w0 [(1,.box B 120 [.slice p (L.map mg).length c]),(2,.dat (.slice p (L.map mg).length c) (.l 11 (L.map mg))),(3,.box B2 34 [.int .i64 0,.int .i64 0,.int .i64 0,.int .i64 0,.slice none 0 0,.int .i64 0,.int .i64 0,.bool false,.int .i64 0,.slice none 0 0,.slice none 0 0])] w) (l.length) ?_ ?_
 · have mz:=m6.dat 2 rfl (Rd.l0 none 0 11)
   exact⟨0,0,_,_,_,[],_,Nat.zero_le _,Nat.zero_le _,rfl,⟨Nat.zero_le _,fun x h=>by cases h⟩,U.only [0,2,3,4],mz.ren [(1,21),(2,2),(3,20)] (by decide)⟩
 clear U m6
 rintro g Y w9 ⟨i,k,B2,B,c,L,p,hil,hki,hg,hM,U,m9⟩
 refine wsk fun K3 hK3 =>?_
 refine la U (.move rfl<|.inc (i+3)<|.move rfl<|.len rfl U22<|.lss rfl rfl .nil) fun Y U =>?_
 refine bc U 17 ?_ ?_
 ·
  intro aq U;try simp only [QQ,Qax] at aq
  have hi9:i+3<l.length:=by omega
  refine wct U ?_
  refine zss (hK3 _ _ ?_)
  refine wsk fun K4 hK4 =>?_
  refine wp_block ?_
  refine zsr fun K5 hK5 =>?_
  refine k9 U (.move rfl .nil) fun Y U =>?_
  refine plz (ecl U Tryz.func72 rfl (AF _ _ L _ _ _ _ (by have:=hM.1;omega) (m9.into [(1,1),(2,2)] (by decide) rfl)) ?_)
  rintro e bS ⟨x,th,bb,bd,be,bf,bg,bh,rfl,hx1,hx0,au⟩
  have aL:=m9.back au [(1,1),(2,2),(100,3),(101,4),(102,5)] (by decide);clear au m9
  have bi:=aL.oz [1,2,100,101,102,3]
  refine⟨_,rfl,?_⟩;intro Y U
  refine k9 U (.move rfl<|.extract rfl rfl<|.extract rfl rfl .nil) fun Y U =>?_
  refine plz (lc U bi 103 mo rfl fun bT Y bU U bj _ _ =>?_)
  refine plz (stw U bj 103 ld fun bV bk _ =>?_)
  refine gz hK5 U (.assign rfl .nil) fun Y U =>?_
  refine wsk fun K6 hK6 =>?_
  replace U:=U.oz [0,2,3,4,5,6]
  obtain⟨bm,bn,aM,bo,av⟩:=h0.extN (i) (by omega)
  revert U
  cases aM
  intro U
  obtain⟨bp,bq,aN,br,aw⟩:=h0.extN (i+1) (by omega)
  revert U
  cases aN
  intro U
  obtain⟨bt,bu,aO,bv,ax⟩:=h0.extN (i+2) (by omega)
  revert U
  cases aO
  intro U
  obtain⟨bw,bx,aP,bz,ay⟩:=h0.extN (i+3) (by omega)
  revert U
  cases aP
  intro U
  have aQ:=bk.oz [1,2,3,100,101,102,103]
  refine region_p 21 (B:=[(1,_),(2,_),(3,_),(100,_),(101,_),(102,_),(103,_)]) (aQ.to i7l) aQ (by kernel_rfl) (fun bW az a4 =>?_);clear aQ
  refine goR az [0,1,2,3,4,5,6,7,8,9,10,11,12,13,14,15,16,17,18,19,20] [0,5,10,15,20] 21 0 2097151 U (a4.to i7l) (.loadBR hh (i:=103) rfl rfl U34 rfl ld (by simp) (by dsimp only [List.drop,List.take] <;> rfl)<|.move rfl<|.move rfl<|.move rfl<|.p (fun _ _ h_=>li h_ rfl rfl U22 mW (i) rfl (by omega))<|.loadAt1 (fun _ h_=>(av h_ rfl)) (q:=0) rfl rfl rfl U5 rfl<|.move rfl<|.move rfl<|.add rfl rfl (r:=((i+1:Nat):Int)) (by rw[IntWalk.i64_in _ (by omega)];omega)<|.p (fun _ _ h_=>li h_ rfl rfl U22 mW (i+1) rfl (by omega))<|.loadAt1 (fun _ h_=>(aw h_ rfl)) (q:=0) rfl rfl rfl U5 rfl<|.move rfl<|.move rfl<|.add rfl rfl (r:=((i+2:Nat):Int)) (by rw[IntWalk.i64_in _ (by omega)];omega)<|.p (fun _ _ h_=>li h_ rfl rfl U22 mW (i+2) rfl (by omega))<|.loadAt1 (fun _ h_=>(ax h_ rfl)) (q:=0) rfl rfl rfl U5 rfl<|.move rfl<|.move rfl<|.add rfl rfl (r:=((i+3:Nat):Int)) (by rw[IntWalk.i64_in _ (by omega)];omega)<|.p (fun _ _ h_=>li h_ rfl rfl U22 mW (i+3) rfl (by omega))<|.loadAt1 (fun _ h_=>(ay h_ rfl)) (q:=0) rfl rfl rfl U5 rfl .nil) fun Y U =>?_
  refine se 21 ?_
  refine ecl U Tryz.func74 rfl (z7 k x th _ _ _ _ _ _ _ _ _ _ _ (fun h=>hM.2 _ (hx1 h)) hx0 (by omega) (hlb _ (by omega)) (hlb _ (by omega)) (hlb _ (by omega)) (hlb _ (by omega))) ?_
  rintro e bX ⟨kd,vo2,bl2,sz2,pe2,to2,at0,ix,place,it,bA,bB,bC,bE,rfl,hpl9,hit8,hitb,aR,aS,aT⟩
  have aU:=a4.callF2 104 105 rfl rfl aT aR aS
  refine⟨_,rfl,?_⟩;intro Y U
  refine se 22 ?_
  refine ecl U Tryz.func73 rfl (vg _ _ _ _ _ _ _ _ place it _ _ _ _ _ _ ((aU.rd (i:=104) rfl).any) ((aU.rd (i:=105) rfl).any) (by omega) (by omega) (fun e he=>(hitb e he).2)) ?_
  rintro e bY ⟨bs,bZ,b0,e9,rfl,hbs,hbb,aV,aW⟩
  have aX:=aU.callF 106 rfl aW aV
  refine⟨_,rfl,?_⟩;intro Y U
  refine goB az [23,24,25,26,27] 5 8388607 268435455 U (.move rfl<|.extract rfl rfl<|.extract rfl rfl<|.assign rfl<|.assign rfl .nil) fun Y U =>?_
  refine wad ?_
  refine hK6 _ _ ?_
  replace U:=U.oz [0,2,3,4,34,7]
  refine wp_region_lit ?_
  refine k9 U (.move rfl<|.move rfl .nil) fun Y U =>?_
  refine plz (ecl U Tryz.func75 rfl (y8 _ _ k L _ _ bs _ _ _ hM (by omega) (by omega) hbb (aX.into [(1,1),(2,2),(3,106)] (by decide) rfl)) ?_)
  rintro e b1 ⟨e1,rl1,rf1,rn1,L2,b4,b5,rfl,hM2,aA⟩
  have aY:=aX.back aA [(1,1),(2,2)] (by decide);clear aA aX
  have bF:=aY.oz [1,2,3,100,101,102,103,104,105]
  refine⟨_,rfl,?_⟩;intro Y U
  refine znl (hK4 _ _ ?_)
  refine wp_region_lit ?_
  refine k9 U (.move rfl<|.inc (i+4)<|.assign rfl .nil) fun Y U =>?_
  refine wpList_nil ?_
  show ∃ n',n'<_∧_
  exact⟨l.length - (i+4),by omega,i+4,k+1,_,_,_,L2,_,by omega,by omega,rfl,hM2,U.only [0,2,3,4],bF.ren [(1,1),(2,2),(3,3)] (by decide)⟩
 intro aq U;try simp only [QQ,Qax] at aq
 refine wcf U ?_
 refine wp_exit ?_
 refine hK2 _ _ ?_
 refine wsk fun K7 hK7 =>?_
 refine la U (.move rfl<|.nilCheck rfl<|.fa 0 rfl ud<|.lb m9 1 nz rfl rfl rfl<|.len rfl nz<|.eql rfl rfl .nil) fun Y U =>?_
 refine bc U 59 ?_ ?_
 ·
  intro ao U;try simp only [QQ,Qax] at ao
  refine wct U ?_
  replace U:=U.oz [0,2,3,4]
  refine zsr fun K8 hK8 =>?_
  refine plz (ecl U Tryz.func77 rfl (oU 0 3 1 1 0 _ (by omega) (by omega) (by omega) (by omega)) ?_)
  rintro e b6 ⟨bl2,sz2,pe2,place,b7,b8,rfl,hbl1,hbl9,hsz1,hsz3,hpe1,hpeb,hplc,hpl9,aZ,a0⟩
  have a5:=m9.callF 100 rfl a0 aZ
  refine⟨_,rfl,?_⟩;intro Y U
  have hN:pU (Int.tmod 0 3) bl2 sz2 pe2 0 place:=⟨by decide,by decide,by omega,by omega,by omega,by omega,by omega,by omega,hplc,by omega,by omega⟩
  refine plz (ecl U Tryz.func76 rfl (s7 _ _ bl2 sz2 pe2 0 _ _ place _ _ _ _ _ _ ((a5.rd (i:=100) rfl).any) (by omega) hN) ?_)
  rintro e b9 ⟨ca,cb,rfl,a1,a2⟩
  have bG:=a5.callF 101 rfl a2 a1
  refine⟨_,rfl,?_⟩;intro Y U
  refine k9 U (.move rfl<|.extract rfl rfl<|.extract rfl rfl .nil) fun Y U =>?_
  refine plz (lc U bG 102 mo rfl fun cc Y cd U bH _ _ =>?_)
  refine plz (stw U bH 102 ld fun ce a6 _ =>?_)
  refine gz hK8 U (.assign rfl .nil) fun Y U =>?_
  replace U:=U.oz [0,2,3,4,9]
  refine zsr fun K9 hK9 =>?_
  refine k9 U (.loadBR a6 (i:=102) rfl rfl U34 rfl ld (by simp) (by dsimp only [List.drop,List.take] <;> rfl) .nil) fun Y U =>?_
  refine plz (stw U a6 3 ld fun bI ar _ =>?_)
  refine znl (hK9 _ _ ?_)
  refine rtd (mK (fn:=Tryz.f31) U ar (i:=3) rfl rfl rfl U34 rfl ld ?_)
  exact⟨ml (Int.tmod 0 3) bl2 sz2 pe2 0 place,_,_,_,_,_,_,rfl,rz hN,ar.outF (i:=101) rfl,Rd.nilN _ _ .i64 none,Rd.l0 none 0 2,ar.below⟩
 intro ao U;try simp only [QQ,Qax] at ao
 have hL0:0<L.length:=by simp at ao;exact List.length_pos_iff.2 ao
 obtain⟨x,hes⟩:∃ x,L[0]? = some x:=⟨_,List.getElem?_eq_getElem hL0⟩
 refine wcf U ?_
 refine zss (hK7 _ _ ?_)
 replace U:=U.oz [0,2,3,4]
 refine zsr fun cf a3 =>?_
 refine k9 U (.move rfl<|.nilCheck rfl<|.fa 0 rfl ud<|.lb m9 1 nz rfl rfl rfl .nil) fun Y U =>?_
 obtain⟨bJ,bK,a7,aB,aC,aD,aE⟩:=m9.openR (i:=2) rfl (0) (r:=[.v (.int .i64 x.vo),.v (.int .i64 x.bl),.v (.int .i64 x.sz),.v (.int .i64 x.pe),.ns .i64 x.place,.v (.int .i64 x.to),.v (.int .i64 x.ne),.v (.bool x.hi),.v (.int .i64 x.fl),.ns .i64 x.pins,.l 2 (x.ws.map wrD)]) (oH hes) 100 rfl
 revert U
 cases aB;clear m9 aD
 rcases aC with _|⟨ad,_|⟨ae,_|⟨ag,_|⟨ah,_|⟨ab,_|⟨ai,_|⟨aj,_|⟨ak,_|⟨al,_|⟨ac,_|⟨aa,_|_⟩⟩⟩⟩⟩⟩⟩⟩⟩⟩⟩
 obtain rfl:=ad.v_out
 clear ad
 obtain rfl:=ae.v_out
 clear ae
 obtain rfl:=ag.v_out
 clear ag
 obtain rfl:=ah.v_out
 clear ah
 obtain⟨bL,bM,aF,a8⟩:=ab.ns_shape;subst aF
 intro U
 have aG:=aE.dat 101 rfl (ab.cast (fun _ h=>(lf rfl h)));clear aE ab
 revert U
 obtain rfl:=ai.v_out
 clear ai
 obtain rfl:=aj.v_out
 clear aj
 obtain rfl:=ak.v_out
 clear ak
 obtain rfl:=al.v_out
 clear al
 obtain⟨bN,bO,aH,a9⟩:=ac.ns_shape;subst aH
 intro U
 have aI:=aG.dat 102 rfl (ac.cast (fun _ h=>(lf rfl (lf rfl h))));clear aG ac
 revert U
 obtain⟨bP,bQ,aJ,ba⟩:=aa.l_shape;subst aJ
 intro U
 have aK:=aI.dat 103 rfl (aa.cast (fun _ h=>(lf rfl (lf rfl (lf rfl h)))));clear aI aa
 refine k9 U (.c rfl (fun _ h_=>li h_ rfl rfl nz ld (0) rfl (by simpa using hL0))<|.loadCR aK (i:=100) rfl rfl U34 rfl ld .nil) fun Y U =>?_
 refine plz (stw U aK 3 ld fun bR ap _ =>?_)
 refine znl (a3 _ _ ?_)
 refine rtd (mK (fn:=Tryz.f31) U ap (i:=3) rfl rfl rfl U34 rfl ld ?_)
 exact⟨x,_,_,_,_,_,_,rfl,(hM.2 _ (List.mem_of_getElem? hes)).up (by omega),ap.outF (i:=101) rfl,ap.outF (i:=102) rfl,ap.outF (i:=103) rfl,ap.below⟩
end
section
def WrsB(ws:List (Int×List (Int×List Int))):Prop:=∀ e∈ws,e.2.length≤8∧ItsB e.2
theorem WrsB.ok{ws:List (Int×List (Int×List Int))}(h:WrsB ws):rT ws:=fun e he=>⟨Nat.le_trans (h e he).1 (by decide),(h e he).2.ok⟩
end
section

end
section
def A6(fl n:Int)(z:Int):Int:=fl+z % (n - fl+1)
abbrev stZ(bl sz:Int):List (List Int):=List.replicate bl.toNat (List.replicate sz.toNat 0)
abbrev stL(bl sz:Int)(ws:List PWr)(t:Nat):List (List Int):=(ws.take t).foldl stW (stZ bl sz)
def A2(i:Nat)(d:List Int)(x:PI):List Int:=if x.1=(i:Int) then x.2 else d
end
end Go.Proofs.YteglmahnkfgelaaGreat.K
