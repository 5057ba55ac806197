/- General laws of walks. -/
import Derived.Test.YtkehgingagggaaaGreatG21
import Derived.Test.YtkehgingagggaaaGreatG19
import Derived.Test.YtkehgingagggaaaGreatG11
import Derived.Test.YtkehgingagggaaaGreatG10
namespace Go.Proofs.YtkehgingagggaaaGreat.K
open Go.ChangeShapes Go.WideShapes Go.ChangeAt Go.RowKit
set_option linter.unusedVariables false
set_option linter.unusedSimpArgs false
set_option maxRecDepth 100000
set_option maxHeartbeats 4000000
set_option autoImplicit true
set_option relaxedAutoImplicit true
section
theorem vq:iO Tryz.prog 44 [.int .i64 0,.int .i64 0,.int .i64 0,.int .i64 0,.slice none 0 0]=true:=by kernel_rfl
theorem yM{x:VolV}(h:VP x):x.place.length≤1000000∧x.pins.length≤1000000∧x.ws.length≤1000000∧kK x.ws:=
 ⟨by have:=h.pl.1;omega,by have:=h.pn.1;omega,by have:=h.ws;omega,fun e he=>⟨by have:=(h.it e he).1;omega,fun z hz=>by have:=((h.it e he).2 z hz).2;omega⟩⟩
theorem xC(x):cmE x≠[]:=fun h=>by
 have h1:=congrArg List.length (vr x)
 rw[h,yN,List.length_append] at h1
 have:=(i1 x.kd).2
 simp only [List.length_nil] at h1;omega
theorem zt(xs:List Int)(p1 p2 c1 c2)(w0:World)(hl:xs.length≤1000000)(h1:Rd (fun _=>True) w0 (.slice p1 xs.length c1) (.ns .i64 xs))(h2:Rd (fun _=>True) w0 (.slice p2 xs.length c2) (.ns .i64 xs)) :
   Calls Tryz.prog 121 #[.slice p1 xs.length c1,.slice p2 xs.length c2] w0 fun e w'=>e=.returned (.bool true)∧Below w0.heap.size w0 w':=by
 refine iZ Tryz.func121 rfl Tryz.ntmps121 fun Y U =>?_
 have m0:=MemOk.start (fun _=>False) w0
 refine hC U (.assign rfl .nil) fun Y U=>wsk fun K0 hK0=>hC U (.move rfl<|.len rfl U35<|.move rfl<|.len rfl U35<|.neq rfl rfl .nil) fun Y U=>bcF U 10 fun U=>wcf U<|zss<|hK0 _ _<|wsk fun K1 hK1=>hC U (.assign rfl .nil) fun Y U=>wp_block<|wp_loop_ghost (fun g a w => ∃ k:Nat,k≤xs.length∧g=xs.length - k∧Has 26 [(0,.slice p1 xs.length c1),(1,.slice p2 xs.length c2),(5,.int .i64 k)] a∧MemOk (cn w0) w0 [] w) (xs.length) ?_ ?_
 · exact⟨0,Nat.zero_le _,rfl,U.only [0,1,5],m0.only []⟩
 clear U m0
 rintro g Y w9 ⟨k,hkl,hg,U,m9⟩
 refine wsk fun K2 hK2=>hC U (.move rfl<|.move rfl<|.len rfl U35<|.lss rfl rfl .nil) fun Y U=>bc U 14 ?_ ?_
 ·
  intro aa U;try simp only [QQ,Qax] at aa
  have hk:k<xs.length:=by omega
  refine wct U<|zss<|hK2 _ _<|wsk fun K3 hK3=>wp_block<|wsk fun K4 hK4 =>?_
  obtain⟨aj,ak,ad,al,ab⟩:=h1.extN (k) hk
  revert U
  cases ad
  intro U
  obtain⟨ao,ap,ae,aq,ac⟩:=h2.extN (k) hk
  revert U
  cases ae
  intro U
  have ag:MemOk _ _ [] _:=m9.only [];clear m9
  refine region_p 9 (B:=[]) (ag.to trivial) ag (by kernel_rfl) (fun ar ah ai =>?_);clear ag
  refine goR ah [0,1,2,3,4,5,6,7,8] [3,7] 9 0 511 U (ai.to trivial) (.move rfl<|.move rfl<|.p (fun _ _ h_=>ii h_ rfl rfl U35 iG (k) rfl hk)<|.loadAt1 (fun _ h_=>(ab h_ rfl)) (q:=0) rfl rfl rfl U3 rfl<|.move rfl<|.move rfl<|.p (fun _ _ h_=>ii h_ rfl rfl U35 iG (k) rfl hk)<|.loadAt1 (fun _ h_=>(ac h_ rfl)) (q:=0) rfl rfl rfl U3 rfl<|.neq rfl rfl .nil) fun Y U=>wad<|hK4 _ _<|bcF U 25 fun U=>wcf U<|zss (hK3 _ _ ?_)
  replace U:=U.oz [0,1,5]
  refine wp_region_lit<|g9 U (.move rfl<|.inc (k+1)<|.assign rfl .nil) fun Y U=>wpList_nil ?_
  show ∃ n',n'<_∧_
  exact⟨xs.length - (k+1),by omega,k+1,by omega,rfl,U.only [0,1,5],ai.only []⟩
 intro aa U;try simp only [QQ,Qax] at aa
 revert U
 obtain rfl:k=xs.length:=by omega
 intro U
 refine wcf U<|wp_exit<|hK1 _ _<|hC U (.assign rfl .nil) fun Y U=>rt1 U ?_
 exact⟨by simp,m9.below⟩
theorem vt(xs:List Int)(p1 p2 c1 c2)(w0:World)(hl:xs.length≤1000000)(h1:Rd (fun _=>True) w0 (.slice p1 xs.length c1) (.ns .i64 xs))(h2:Rd (fun _=>True) w0 (.slice p2 xs.length c2) (.ns .i64 xs)) :
   Calls Tryz.prog 79 #[.slice p1 xs.length c1,.slice p2 xs.length c2] w0 fun e w'=>e=.returned (.bool true)∧Below w0.heap.size w0 w':=by
 refine iZ Tryz.func79 rfl Tryz.ntmps79 fun Y U =>?_
 have m0:=MemOk.start (fun _=>False) w0
 refine hC U (.assign rfl .nil) fun Y U=>zsr fun K0 hK0=>g9 U (.move rfl<|.move rfl .nil) fun Y U=>plz<|ecb U Tryz.func121 rfl m0 (zt xs _ _ _ _ _ hl ((h1.now' m0 rfl).any) ((h2.now' m0 rfl).any)) fun Y w6 U m7=>gz hK0 U (.assign rfl .nil) fun Y U=>rt1 U ?_
 exact⟨rfl,m7.below⟩
theorem yO(x:Cm)(hpl:x.pl.length≤1000000)(hil:x.its.length≤1000000)(p1 q1 p2 q2 c1 n1 d1 c2 n2 d2)(w0:World)(h1:Rd (fun _=>True) w0 (.slice p1 x.pl.length c1) (.ns .i64 x.pl))(h2:Rd (fun _=>True) w0 (.slice q1 n1 d1) (.l 2 (x.its.map itD)))(h3:Rd (fun _=>True) w0 (.slice p2 x.pl.length c2) (.ns .i64 x.pl))(h4:Rd (fun _=>True) w0 (.slice q2 n2 d2) (.l 2 (x.its.map itD))) :
   Calls Tryz.prog 30 #[.agg #[.int .i64 x.kd,.int .i64 x.vo,.int .i64 x.bl,.int .i64 x.sz,.int .i64 x.pe,.slice p1 x.pl.length c1,.int .i64 x.to,.int .i64 x.at0,.int .i64 x.ix,.slice q1 n1 d1],.agg #[.int .i64 x.kd,.int .i64 x.vo,.int .i64 x.bl,.int .i64 x.sz,.int .i64 x.pe,.slice p2 x.pl.length c2,.int .i64 x.to,.int .i64 x.at0,.int .i64 x.ix,.slice q2 n2 d2]] w0 fun e w'=>e=.returned (.bool true)∧Below w0.heap.size w0 w':=by
 refine iZ Tryz.func30 rfl Tryz.ntmps30 fun Y U =>?_
 have m0:=MemOk.start (fun _=>False) w0
 refine zsr fun K0 hK0=>plz<|iu U m0 10 (cs:=[_,_,_,_,_,_,_,_,_,_]) rfl rfl rfl fun g1 Y w2 U m2 _ _=>plz<|iu U m2 11 (cs:=[_,_,_,_,_,_,_,_,_,_]) rfl rfl rfl fun g3 Y w4 U m4 _ _=>gz hK0 U (.assign rfl .nil) fun Y U=>zsr fun K1 hK1=>g9 U (.fa 0 rfl U38<|.lb m4 10 U3 rfl rfl rfl<|.fa 0 rfl U38<|.lb m4 11 U3 rfl rfl rfl<|.eql rfl rfl<|.move rfl .nil) fun Y U=>bcT U 10 fun U=>g9 U (.faZ 1 rfl U38<|.loadB1Z m4 (i:=10) rfl rfl rfl U3 rfl<|.faZ 1 rfl U38<|.loadB1Z m4 (i:=11) rfl rfl rfl U3 rfl<|.eqlZ rfl rfl<|.pickT rfl rfl<|.move rfl .nil) fun Y U=>bcT U 17 fun U=>g9 U (.faZ 2 rfl U38<|.loadB1Z m4 (i:=10) rfl rfl rfl U3 rfl<|.faZ 2 rfl U38<|.loadB1Z m4 (i:=11) rfl rfl rfl U3 rfl<|.eqlZ rfl rfl<|.pickT rfl rfl<|.move rfl .nil) fun Y U=>bcT U 24 fun U=>g9 U (.faZ 3 rfl U38<|.loadB1Z m4 (i:=10) rfl rfl rfl U3 rfl<|.faZ 3 rfl U38<|.loadB1Z m4 (i:=11) rfl rfl rfl U3 rfl<|.eqlZ rfl rfl<|.pickT rfl rfl<|.move rfl .nil) fun Y U=>bcT U 31 fun U=>g9 U (.faZ 4 rfl U38<|.loadB1Z m4 (i:=10) rfl rfl rfl U3 rfl<|.faZ 4 rfl U38<|.loadB1Z m4 (i:=11) rfl rfl rfl U3 rfl<|.eqlZ rfl rfl<|.pickT rfl rfl<|.move rfl .nil) fun Y U=>bcT U 38 fun U=>g9 U (.faZ 5 rfl U38<|.loadB1Z m4 (i:=10) rfl rfl rfl U35 rfl<|.faZ 5 rfl U38<|.loadB1Z m4 (i:=11) rfl rfl rfl U35 rfl .nil) fun Y U=>stz U (ecb U Tryz.func79 rfl m4 (vt x.pl _ _ _ _ _ hpl ((h1.now' m4 rfl).any) ((h3.now' m4 rfl).any)) fun Y ac U aa =>?_)
 refine g9 U (.pickT rfl rfl<|.move rfl<|.faZ 6 rfl U38<|.loadB1Z aa (i:=10) rfl rfl rfl U3 rfl<|.faZ 6 rfl U38<|.loadB1Z aa (i:=11) rfl rfl rfl U3 rfl<|.eqlZ rfl rfl<|.pickT rfl rfl<|.move rfl .nil) fun Y U=>bcT U 52 fun U=>g9 U (.faZ 7 rfl U38<|.loadB1Z aa (i:=10) rfl rfl rfl U2 rfl<|.faZ 7 rfl U38<|.loadB1Z aa (i:=11) rfl rfl rfl U2 rfl<|.eqlZ rfl rfl<|.pickT rfl rfl<|.move rfl .nil) fun Y U=>bcT U 59 fun U=>g9 U (.faZ 8 rfl U38<|.loadB1Z aa (i:=10) rfl rfl rfl U3 rfl<|.faZ 8 rfl U38<|.loadB1Z aa (i:=11) rfl rfl rfl U3 rfl<|.eqlZ rfl rfl<|.pickT rfl rfl<|.move rfl .nil) fun Y U=>bcT U 66 fun U=>g9 U (.faZ 9 rfl U38<|.loadB1Z aa (i:=10) rfl rfl rfl U36 rfl<|.faZ 9 rfl U38<|.loadB1Z aa (i:=11) rfl rfl rfl U36 rfl .nil) fun Y U=>stz U (ecb U Tryz.func80 rfl aa (mt x.its _ _ _ _ _ _ _ ((h2.now' aa rfl).any) ((h4.now' aa rfl).any) hil) fun Y ad U ab =>?_)
 refine gz hK1 U (.pickT rfl rfl<|.assign rfl<|.nil) fun Y U=>rt1 U ?_
 exact⟨rfl,ab.below⟩
theorem t8(X:Cx)(B G:Nat)(L:List VolV)(id:Int)(w0:World)(hV:∀ y∈L,VP y)(m0:MemOk X w0 [(1,.box B 87 [.map (some G)]),(2,.mp G 11 ((L).map iU) ((L).map ij))] w0) :
   Calls Tryz.prog 18 #[.pointer (some ⟨B,0,none⟩),.int .i64 id] w0 fun e w' => ∃ (x:VolV) (there:Bool) (p1 p2 p3:Option Addr) (d1 d2 d3:Nat),e=.returned (.tuple #[.agg #[.int .i64 x.vo,.int .i64 x.bl,.int .i64 x.sz,.int .i64 x.pe,.slice p1 x.place.length d1,.int .i64 x.to,.int .i64 x.ne,.bool x.hi,.int .i64 x.fl,.slice p2 x.pins.length d2,.slice p3 (x.ws.map wrD).length d3],.bool there])∧(there=true→x∈L∧x.vo=id)∧(there=false→x=jM∧¬ ∃ y∈L,y.vo=id)∧MemOk X w0 [(1,.box B 87 [.map (some G)]),(2,.mp G 11 ((L).map iU) ((L).map ij)),(3,.dat (.slice p1 x.place.length d1) (.ns .i64 x.place)),(4,.dat (.slice p2 x.pins.length d2) (.ns .i64 x.pins)),(5,.dat (.slice p3 (x.ws.map wrD).length d3) (.l 2 (x.ws.map wrD)))] w':=by
 refine iZ Tryz.func18 rfl Tryz.ntmps18 fun Y U=>zsr fun K0 hK0=>plz<|hZ U m0 20 iA rfl fun g1 Y w2 U m2 _ _=>gz hK0 U (.assign rfl .nil) fun Y U=>wsk fun K1 hK1 =>?_
 by_cases hF:∃ y∈L,y.vo=id
 ·
  obtain⟨y,hyL,hy⟩:=hF
  obtain⟨j,hj⟩:=List.getElem?_of_mem hyL
  have hys:=yM (hV y hyL)
  refine wp_region_lit<|g9 U (.move rfl<|.nilCheck rfl<|.fa 0 rfl U87<|.lb m2 1 U85 rfl rfl rfl<|.move rfl .nil) fun Y U =>?_
  obtain⟨es9,ck9,hks9,hel9,hmk9,m9⟩:=m2.mpOpen (i:=2) rfl
  clear m2 hel9 hmk9
  have hki9:=jL hks9 ow
  obtain⟨e9,vs9,he9,hev9,hR9,ho9,hvl9⟩:=m9.mpeAt (i:=2) rfl (r:=[.v (.int .i64 y.vo),.v (.int .i64 y.bl),.v (.int .i64 y.sz),.v (.int .i64 y.pe),.ns .i64 y.place,.v (.int .i64 y.to),.v (.int .i64 y.ne),.v (.bool y.hi),.v (.int .i64 y.fl),.ns .i64 y.pins,.l 2 (y.ws.map wrD)]) (iT hj)
  have hek9:=qP hks9 he9 (j7 hj)
  clear ho9 hvl9
  revert U
  rcases hR9 with _|⟨ae,_|⟨ag,_|⟨ah,_|⟨ai,_|⟨ab,_|⟨aj,_|⟨ak,_|⟨al,_|⟨ao,_|⟨ac,_|⟨aa,_|_⟩⟩⟩⟩⟩⟩⟩⟩⟩⟩⟩
  obtain rfl:=ae.v_out
  clear ae
  obtain rfl:=ag.v_out
  clear ag
  obtain rfl:=ah.v_out
  clear ah
  obtain rfl:=ai.v_out
  clear ai
  obtain⟨ba,bb,aD,aP⟩:=ab.ns_shape;subst aD
  intro U
  have aG:=m9.dat 21 rfl (ab.cast (fun _ h=>h));clear m9 ab
  revert U
  obtain rfl:=aj.v_out
  clear aj
  obtain rfl:=ak.v_out
  clear ak
  obtain rfl:=al.v_out
  clear al
  obtain rfl:=ao.v_out
  clear ao
  obtain⟨bd,be,aE,aQ⟩:=ac.ns_shape;subst aE
  intro U
  have aH:=aG.dat 22 rfl (ac.cast (fun _ h=>(ia rfl h)));clear aG ac
  revert U
  obtain⟨bf,bg,aF,aR⟩:=aa.l_shape;subst aF
  intro U
  have aI:=aH.dat 23 rfl (aa.cast (fun _ h=>(ia rfl (ia rfl h))));clear aH aa
  refine g9 U (.c rfl (fun _ h_=>n8 h_ aI (i:=2) rfl rfl rfl U85 (KeyT.int (q:=.i64) U3) hki9 he9 (hek9.trans (ld hy)) hev9)<|.move rfl<|.extract rfl rfl<|.extract rfl rfl .nil) fun Y U=>plz<|hZ U aI 24 iA rfl fun bh Y bi U aS _ _=>plz (stw U aS 24 hH fun bj ap _ =>?_)
  refine gz hK1 U (.assign rfl .nil) fun Y U =>?_
  replace U:=U.oz [4,5,6,7]
  refine zsr fun K2 hK2=>g9 U (.loadBR ap (i:=24) rfl rfl U51 rfl hH (by simp) (by dsimp only [List.drop,List.take] <;> rfl) .nil) fun Y U=>plz (ecl U Tryz.func52 rfl (kL y.vo y.bl y.sz y.pe y.to y.ne y.fl y.hi y.place y.pins y.ws _ _ _ _ _ _ _ _ ((ap.rd (i:=21) rfl).any) ((ap.rd (i:=22) rfl).any) ((ap.rd (i:=23) rfl).any) hys.1 hys.2.1 hys.2.2.1 hys.2.2.2) ?_)
  rintro e bk ⟨aT,aU,aV,aW,aX,aY,rfl,aq,ar,au,av⟩
  have aZ:=ap.callF3 25 26 27 rfl rfl rfl av aq ar au
  clear aq ar au av
  refine⟨_,rfl,?_⟩;intro Y U
  refine g9 U (.move rfl .nil) fun Y U=>plz (stw U aZ 20 hH fun bm aJ _ =>?_)
  refine gz hK2 U (.assign rfl .nil) fun Y U=>rtd (iF (fn:=Tryz.f18) U aJ (i:=20) rfl rfl rfl rfl U51 rfl hH ?_)
  have aK:=aJ.mpClose (i:=2) rfl
  rw[hks9] at aK
  exact⟨y,true,_,_,_,_,_,_,rfl,(fun _=>⟨hyL,hy⟩),(fun h=>by cases h),aK.ren [(1,1),(2,2),(3,25),(4,26),(5,27)] (by decide)⟩
 have hno:∀ y∈L,y.vo≠id:=fun y hy he=>hF ⟨y,hy,he⟩
 refine wp_region_lit<|g9 U (.move rfl<|.nilCheck rfl<|.fa 0 rfl U87<|.lb m2 1 U85 rfl rfl rfl<|.move rfl .nil) fun Y U =>?_
 obtain⟨a0,a1,ad,aw,ax,aL⟩:=m2.mpOpen (i:=2) rfl
 clear m2 aw ax
 have ay:=jL ad ow
 refine g9 U (.c rfl (fun _ h_=>mW h_ aL (.agg #[.int .i64 0,.int .i64 0,.int .i64 0,.int .i64 0,.slice none 0 0,.int .i64 0,.int .i64 0,.bool false,.int .i64 0,.slice none 0 0,.slice none 0 0]) (i:=2) rfl rfl rfl U85 yq (KeyT.int (q:=.i64) U3) ay ⟨_,rfl⟩ (jL ad (kJ hno)))<|.move rfl<|.extract rfl rfl<|.extract rfl rfl .nil) fun Y U=>plz<|hZ U aL 21 iA rfl fun bn Y bo U a2 _ _=>plz (stw U a2 21 hH fun bp aM _ =>?_)
 refine gz hK1 U (.assign rfl .nil) fun Y U =>?_
 replace U:=U.oz [4,5,6,7]
 refine zsr fun K3 hK3=>g9 U (.loadBR aM (i:=21) rfl rfl U51 rfl hH (by simp) (by dsimp only [List.drop,List.take] <;> rfl) .nil) fun Y U=>plz (ecl U Tryz.func52 rfl (kL jM.vo jM.bl jM.sz jM.pe jM.to jM.ne jM.fl jM.hi jM.place jM.pins jM.ws _ _ _ _ _ _ _ _ (Rd.nilN _ _ .i64 none) (Rd.nilN _ _ .i64 none) (Rd.l0 none 0 2) (by decide) (by decide) (by decide) (fun e he=>by cases he)) ?_)
 rintro e bq ⟨a3,a4,a5,a6,a7,a8,rfl,az,aA,aB,aC⟩
 have a9:=aM.callF3 22 23 24 rfl rfl rfl aC az aA aB
 clear az aA aB aC
 refine⟨_,rfl,?_⟩;intro Y U
 refine g9 U (.move rfl .nil) fun Y U=>plz (stw U a9 20 hH fun br aN _ =>?_)
 refine gz hK3 U (.assign rfl .nil) fun Y U=>rtd (iF (fn:=Tryz.f18) U aN (i:=20) rfl rfl rfl rfl U51 rfl hH ?_)
 have aO:=aN.mpClose (i:=2) rfl
 rw[ad] at aO
 exact⟨jM,false,_,_,_,_,_,_,rfl,(fun h=>by cases h),(fun _=>⟨rfl,hF⟩),aO.ren [(1,1),(2,2),(3,22),(4,23),(5,24)] (by decide)⟩
theorem ro(X:Cx)(B G:Nat)(L:List VolV)(b:List Int)(hb:b.length≤1000000)(hbb:BytesL b)(hno:∀ x:Cm,CmdR x→(∀ e∈x.its,BytesL e.2)→cmE x≠b)(p:Option Addr)(c:Nat)(w0:World)(m0:MemOk X w0 [(1,.box B 87 [.map (some G)]),(2,.mp G 11 ((L).map iU) ((L).map ij)),(3,.dat (.slice p b.length c) (.ns .u8 b))] w0) :
   Calls Tryz.prog 14 #[.pointer (some ⟨B,0,none⟩),.slice p b.length c] w0 fun e w'=>e=.returned (.agg #[.int .i64 20,.int .i64 0,.int .i64 0,.int .i64 0,.slice none 0 0])∧MemOk X w0 [(1,.box B 87 [.map (some G)]),(2,.mp G 11 ((L).map iU) ((L).map ij))] w':=by
 refine iZ Tryz.func14 rfl Tryz.ntmps14 fun Y U=>zsr fun K0 hK0=>plz<|hZ U m0 20 iL rfl fun g1 Y w2 U m2 _ _=>znl<|hK0 _ _<|zsr fun K1 hK1=>g9 U (.move rfl .nil) fun Y U=>plz (ecl U Tryz.func28 rfl (rp _ b hb hbb hno _ _ _ (m2.into [(1,3)] (by decide) rfl)) ?_)
 rintro e w5 ⟨rfl,hm5⟩
 have mx5:=m2.back hm5 [(3,1)] (by decide);clear hm5 m2
 have m5:=mx5.oz [3,1,2,20]
 refine⟨_,rfl,?_⟩;intro Y U
 refine g9 U (.move rfl<|.extract rfl rfl<|.extract rfl rfl .nil) fun Y U=>plz<|hZ U m5 21 i8 rfl fun ad Y ae U ab _ _=>plz (stw U ab 21 ip fun ag ac _ =>?_)
 refine gz hK1 U (.assign rfl .nil) fun Y U=>wsk fun K2 hK2 =>?_
 replace U:=U.oz [0,4,5,6]
 refine hC U (.move rfl<|.neq rfl rfl .nil) fun Y U=>bcT U 13 fun U=>wct U<|zsr fun K3 hK3=>g9 U (.move rfl<|.build rfl iL vq rfl (by dsimp only [iY,List.set] <;> rfl) .nil) fun Y U=>plz (stw U ac 20 iz fun ah aa _ =>?_)
 refine znl<|hK3 _ _<|rtd (kG (fn:=Tryz.f14) U aa (i:=20) rfl rfl rfl U44 rfl iz ?_)
 exact⟨rfl,aa.only [1,2]⟩
end
section
theorem vz{L:List VolV}{Q:VolV→Prop}(h:∀ y∈L,Q y){z:VolV}(hz:Q z):∀ y∈L.set j z,Q y:=fun y hy=>by
 rcases List.mem_or_eq_of_mem_set hy with h1|h1
 · exact h y h1
 rw[h1];exact hz
theorem xG{L:List VolV}{x y:VolV}(h:L[j]? = some x)(hv:y.vo=x.vo):(L.set j y).map (·.vo)=L.map (·.vo):=by
 rw[List.map_set,hv]
 refine List.ext_getElem? (fun i =>?_)
 rw[List.getElem?_set]
 by_cases e:j=i
 · subst e
   obtain⟨hj,e2⟩:=List.getElem?_eq_some_iff.1 h
   simp [hj,e2]
 simp [e]
theorem rr{L:List VolV}{y:VolV}(h:(L.map (·.vo)).Nodup)(hn:∀ z∈L,z.vo≠y.vo):((L++[y]).map (·.vo)).Nodup:=by
 rw[List.map_append]
 refine List.nodup_append.2 ⟨h,by simp,fun a ha b hb =>?_⟩
 obtain⟨z,hz,rfl⟩:=List.mem_map.1 ha
 simp at hb;subst hb;exact hn z hz
theorem ua:∀ (L:List VolV),(L.map (·.vo)).Nodup→∃ R,L.Perm R∧SrtV R
 | [],_=>⟨[],List.Perm.refl _,List.Pairwise.nil⟩
 | x :: l,h=>by
   rw[List.map_cons,List.nodup_cons] at h
   obtain⟨R,h1,h2⟩:=ua l h.2
   refine⟨qt R x,?_,om h2 (fun⟨y,hy,he⟩=>h.1 (he ▸ List.mem_map_of_mem (h1.mem_iff.2 hy)))⟩
   exact((List.perm_append_singleton x l).symm.trans (h1.append_right [x])).trans kv
theorem s5{L:List VolV}(h:(L.map (·.vo)).Nodup):SrtV (j4 L):=by
 obtain⟨R,h1,h2⟩:=ua L h
 rw[kC h1 h2];exact h2
theorem nJ{L:List VolV}:(j4 L).length=L.length:=by rw[lL,lc,List.length_map]
theorem xH(X B)(b:List Int)(er p)(c:Nat)(w0)(hb:b.length≤1000000)(hbb:BytesL b)(m0:MemOk X w0 [(1,.box B 148 [.slice p (b).length c,.int .i64 er]),(2,.dat (.slice p (b).length c) (.ns .u8 (b)))] w0) :
   Calls Tryz.prog 61 #[.pointer (some ⟨B,0,none⟩)] w0 fun e w' => ∃ (x:VolV) (b':List Int) (er':Int) (p' p1 p2 p3:Option Addr) (c' d1 d2 d3:Nat),e=.returned (.agg #[.int .i64 x.vo,.int .i64 x.bl,.int .i64 x.sz,.int .i64 x.pe,.slice p1 x.place.length d1,.int .i64 x.to,.int .i64 x.ne,.bool x.hi,.int .i64 x.fl,.slice p2 x.pins.length d2,.slice p3 (x.ws.map wrD).length d3])∧RdN b er b' er'∧(x.place.length≤b.length∧x.pins.length≤b.length∧x.ws.length≤b.length∧(∀ e∈x.ws,e.2.length≤1000000)∧WBy x.ws)∧MemOk X w0 [(1,.box B 148 [.slice p' (b').length c',.int .i64 er']),(2,.dat (.slice p' (b').length c') (.ns .u8 (b'))),(3,.dat (.slice p1 x.place.length d1) (.ns .i64 x.place)),(4,.dat (.slice p2 x.pins.length d2) (.ns .i64 x.pins)),(5,.dat (.slice p3 (x.ws.map wrD).length d3) (.l 2 (x.ws.map wrD)))] w':=
 (rj X B b er p c w0 hb hbb m0).mono fun e w' ⟨x,b',er',p',p1,p2,p3,c',d1,d2,d3,he,h1,h2,hX,hm⟩=>⟨x,b',er',p',p1,p2,p3,c',d1,d2,d3,he,h1,h2,hm⟩
theorem xI(X:Cx)(B G:Nat)(L0:List VolV)(b:List Int)(hb:b.length≤60000)(hbb:BytesL b)(hno:∀ R:List VolV,SrtV R→(∀ y∈R,VQ y)→R.length≤8→iR R≠b)(p:Option Addr)(c:Nat)(w0:World)(m0:MemOk X w0 [(1,.box B 87 [.map (some G)]),(2,.mp G 11 ((L0).map iU) ((L0).map ij)),(3,.dat (.slice p b.length c) (.ns .u8 b))] w0) :
   Calls Tryz.prog 23 #[.pointer (some ⟨B,0,none⟩),.slice p b.length c] w0 fun e w'=>e=.returned (.bool false)∧MemOk X w0 [(1,.box B 87 [.map (some G)]),(2,.mp G 11 ((L0).map iU) ((L0).map ij))] w':=by
 refine iZ Tryz.func23 rfl Tryz.ntmps23 fun Y U =>?_
 have hb1m:b.length≤1000000:=by omega
 refine hC U (.assign rfl .nil) fun Y U=>zsr fun K0 hK0=>plz (ecl U Tryz.func9 rfl (ms _ _ (m0.into [] (by decide) rfl)) ?_)
 rintro e w2 ⟨B5,G5,rfl,hm2⟩
 have mx2:=m0.back hm2 [(51,1),(52,2)] (by decide);clear hm2 m0
 have m2:=mx2.oz [51,52,1,2,3]
 refine⟨_,rfl,?_⟩;intro Y U
 refine g9 U (.move rfl .nil) fun Y U=>plz (ecl U Tryz.func59 rfl (rm _ b _ _ _ (by omega) (m2.into [(1,3)] (by decide) rfl)) ?_)
 rintro e w5 ⟨B6,p5,c5,rfl,hm5⟩
 have mx5:=m2.back hm5 [(53,1),(54,2),(3,3)] (by decide);clear hm5 m2
 have m5:=mx5.oz [53,54,3,1,2,51,52]
 refine⟨_,rfl,?_⟩;intro Y U
 refine gz hK0 U (.assign rfl<|.assign rfl<|.nil) fun Y U=>zsr fun K1 hK1=>g9 U (.move rfl .nil) fun Y U=>plz (ecl U Tryz.func60 rfl (xp _ _ b 0 8 _ _ _ hb1m hbb (m5.into [(1,53),(2,54)] (by decide) rfl)) ?_)
 rintro e aR ⟨N,ap,aq,aS,aT,rfl,hN,ag,ah⟩
 have ar:=m5.back ah [(53,1),(54,2)] (by decide);clear ah m5
 have aF:=ar.oz [53,54,1,2,3,51,52]
 refine⟨_,rfl,?_⟩;intro Y U
 revert U
 obtain⟨nn,rfl⟩:∃ nn:Nat,N=(nn:Int):=⟨N.toNat,by omega⟩
 intro U
 refine gz hK1 U (.conv rfl jV U3 (r:=(nn:Int)) (IntWalk.i64_in _ (by omega))<|.assign rfl<|.nil) fun Y U=>wsk fun K2 hK2 =>?_
 replace U:=U.oz [0,1,4,5,6,7]
 refine hC U (.move rfl<|.move rfl .nil) fun Y U=>wp_block<|wp_loop_ghost (fun g a w => ∃ (k:Nat) (L:List VolV) (b1:List Int) (e1:Int) (q1:Option Addr) (d1:Nat),k≤nn∧g=nn - k∧L.length≤k∧(∀ y∈L,VQ y)∧(L.map (·.vo)).Nodup∧b1.length≤b.length∧BytesL b1∧Has 48 [(0,.pointer (some ⟨B,0,none⟩)),(1,.slice p b.length c),(5,.pointer (some ⟨B5,0,none⟩)),(6,.pointer (some ⟨B6,0,none⟩)),(15,.int .i64 (nn:Int)),(16,.int .i64 k)] a∧MemOk X w0 [(1,.box B 87 [.map (some G)]),(2,.mp G 11 ((L0).map iU) ((L0).map ij)),(3,.dat (.slice p b.length c) (.ns .u8 b)),(51,.box B5 87 [.map (some G5)]),(52,.mp G5 11 (L.map iU) (L.map ij)),(53,.box B6 148 [.slice q1 (b1).length d1,.int .i64 e1]),(54,.dat (.slice q1 (b1).length d1) (.ns .u8 (b1)))] w) (nn) ?_ ?_
 · exact⟨0,[],ap,aq,_,_,Nat.zero_le _,rfl,Nat.le_refl _,(fun y hy=>by cases hy),List.nodup_nil,ag.1,ag.2.1,U.only [0,1,5,6,15,16],aF.ren [(1,1),(2,2),(3,3),(51,51),(52,52),(53,53),(54,54)] (by decide)⟩
 clear U aF
 rintro g Y aU ⟨k,L,b1,e1,q1,d1,hkl,hg,hLl,hQ,hnd,hb1l,hbb1,U,ad⟩
 refine hC U (.lss rfl rfl .nil) fun Y U=>wsk fun K3 hK3=>bc U 17 ?_ ?_
 ·
  intro ab U;try simp only [QQ,Qax] at ab
  have hk:k<nn:=by omega
  refine wct U<|zss<|hK3 _ _<|wsk fun K4 hK4=>wp_block<|zsr fun K5 hK5=>g9 U (.move rfl .nil) fun Y U=>plz (ecl U Tryz.func61 rfl (xH _ _ b1 e1 _ _ _ (by omega) hbb1 (ad.into [(1,53),(2,54)] (by decide) rfl)) ?_)
  rintro e aV ⟨y,b2,e2,aW,aI,aJ,aK,aX,aL,aM,aN,rfl,hR2,hyW,ai⟩
  have au:=ad.back ai [(53,1),(54,2),(100,3),(101,4),(102,5)] (by decide);clear ai ad
  have aO:=au.oz [53,54,100,101,102,1,2,3,51,52]
  refine⟨_,rfl,?_⟩;intro Y U
  refine plz<|hZ U aO 103 iA rfl fun aY Y aZ U aP _ _=>plz (stw U aP 103 hH fun a0 av _ =>?_)
  refine znl<|hK5 _ _<|wsk fun K6 hK6=>zsr fun K7 hK7=>g9 U (.move rfl .nil) fun Y U=>plz (ecl U Tryz.func62 rfl (lQ _ _ _ _ _ _ _ (av.into [(1,53),(2,54)] (by decide) rfl)) ?_)
  rintro e a1 ⟨rfl,aj⟩
  have aw:=av.back aj [(53,1),(54,2)] (by decide);clear aj av
  have ae:=aw.oz [53,54,1,2,3,51,52,100,101,102,103]
  refine⟨_,rfl,?_⟩;intro Y U
  refine g9 U (.neq rfl rfl<|.move rfl .nil) fun Y U=>bc U 23 ?_ ?_
  ·
   intro ac U;try simp only [QQ,Qax] at ac
   refine gz hK7 U (.sk<|.sk<|.sk<|.pickT rfl rfl<|.nil) fun Y U=>wct U ?_
   replace U:=U.oz [0,1,5,6,15,16,8]
   refine hC U (.assign rfl .nil) fun Y U=>rt1 U ?_
   exact⟨rfl,ae.only [1,2]⟩
  intro ac U;try simp only [QQ,Qax] at ac
  refine g9 U (.loadBRZ ae (i:=103) rfl rfl U51 rfl hH (by simp) (by dsimp only [List.drop,List.take] <;> rfl) .nil) fun Y U=>stz U (ecl U Tryz.func63 rfl (nI y.vo y.bl y.sz y.pe y.to y.ne y.fl y.hi y.place y.pins y.ws _ _ _ _ _ _ _ _ ((ae.rd (i:=100) rfl).any) ((ae.rd (i:=101) rfl).any) ((ae.rd (i:=102) rfl).any) (by have:=hyW.1;omega) (by have:=hyW.2.1;omega) (by have:=hyW.2.2.1;omega) hyW.2.2.2.1) ?_)
  rintro e a2 ⟨yr,rfl,hyr,ax⟩
  have ay:=ae.later ax
  refine⟨_,rfl,?_⟩;intro Y U
  refine gz hK7 U (.notZ rfl<|.pickF rfl rfl<|.nil) fun Y U=>bc U 27 ?_ ?_
  ·
   intro aa U;try simp only [QQ,Qax] at aa
   refine wct U ?_
   replace U:=U.oz [0,1,5,6,15,16,8]
   refine hC U (.assign rfl .nil) fun Y U=>rt1 U ?_
   exact⟨rfl,ay.only [1,2]⟩
  intro aa U;try simp only [QQ,Qax] at aa
  have hyX:yr=true:=by have h9:=aa;first|exact h9|simpa using h9
  refine wcf U<|zss (hK6 _ _ ?_)
  have hyQ:VQ y:=⟨VolX.vp (hyr.1 hyX) (by have:=hyW.2.1;omega) (by have:=hyW.2.2.1;omega),hyr.1 hyX,hyW.2.2.2.2⟩
  by_cases hK9:∃ z∈L,z.vo=y.vo
  ·
   obtain⟨z,hzL,hje⟩:=hK9
   obtain⟨j,hj⟩:=List.getElem?_of_mem hzL
   replace U:=U.oz [0,1,5,6,15,16,8]
   have az:=ay.oz [1,2,3,51,52,53,54,100,101,102,103]
   refine region_p 7 (B:=[(1,_),(2,_),(3,_),(51,_),(52,_),(53,_),(54,_),(100,_),(101,_),(102,_),(103,_)]) (az.to kj) az (by kernel_rfl) (fun a3 aA ak =>?_);clear az
   refine goR aA [0,1,2,3,4,5,6] [3,5,6] 7 0 127 U (ak.to kj) (.move rfl<|.nilCheck rfl<|.fa 0 rfl U87<|.lb hh 51 U85 rfl rfl rfl<|.fa 0 rfl U51<|.lb hh 103 U3 rfl rfl rfl<|.loadBR hh (i:=103) rfl rfl U51 rfl hH (by simp) (by dsimp only [List.drop,List.take] <;> rfl) .nil) fun Y U=>se 7 ?_
   refine jE (Q:=_) U ak 52 rfl rfl rfl rfl U85 (KeyT.int (q:=.i64) U3) ow ⟨_,rfl⟩ rfl rfl (.cons (.v _) (.cons (.v _) (.cons (.v _) (.cons (.v _) (.cons (ak.rd (i:=100) rfl) (.cons (.v _) (.cons (.v _) (.cons (.v _) (.cons (.v _) (.cons (ak.rd (i:=101) rfl) (.cons (ak.rd (i:=102) rfl) .nil))))))))))) (some j) (rt hj hje) fun a4 aG _=>wad<|hK4 _ _ ?_
   replace U:=U.oz [0,1,5,6,15,16]
   refine wp_region_lit<|g9 U (.inc (k+1)<|.move rfl .nil) fun Y U=>wpList_nil ?_
   show ∃ n',n'<_∧_
   rw[pA hj hje.symm,pB hj hje.symm] at aG
   exact⟨nn - (k+1),by omega,k+1,L.set j y,b2,e2,_,_,by omega,rfl,by rw[List.length_set];omega,vz hQ hyQ,by rw[xG hj hje.symm];exact hnd,by have:=hR2.1;omega,hR2.2.1,U.only [0,1,5,6,15,16],aG.ren [(1,1),(2,2),(3,3),(51,51),(52,52),(53,53),(54,54)] (by decide)⟩
  have hno9:∀ z∈L,z.vo≠y.vo:=fun z hz he=>hK9 ⟨z,hz,he⟩
  replace U:=U.oz [0,1,5,6,15,16,8]
  have aB:=ay.oz [1,2,3,51,52,53,54,100,101,102,103]
  refine region_p 7 (B:=[(1,_),(2,_),(3,_),(51,_),(52,_),(53,_),(54,_),(100,_),(101,_),(102,_),(103,_)]) (aB.to kj) aB (by kernel_rfl) (fun a5 aC al =>?_);clear aB
  refine goR aC [0,1,2,3,4,5,6] [3,5,6] 7 0 127 U (al.to kj) (.move rfl<|.nilCheck rfl<|.fa 0 rfl U87<|.lb hh 51 U85 rfl rfl rfl<|.fa 0 rfl U51<|.lb hh 103 U3 rfl rfl rfl<|.loadBR hh (i:=103) rfl rfl U51 rfl hH (by simp) (by dsimp only [List.drop,List.take] <;> rfl) .nil) fun Y U=>se 7 ?_
  refine jE (Q:=_) U al 52 rfl rfl rfl rfl U85 (KeyT.int (q:=.i64) U3) ow ⟨_,rfl⟩ rfl rfl (.cons (.v _) (.cons (.v _) (.cons (.v _) (.cons (.v _) (.cons (al.rd (i:=100) rfl) (.cons (.v _) (.cons (.v _) (.cons (.v _) (.cons (.v _) (.cons (al.rd (i:=101) rfl) (.cons (al.rd (i:=102) rfl) .nil))))))))))) none (kJ hno9) fun a6 aH _=>wad<|hK4 _ _ ?_
  replace U:=U.oz [0,1,5,6,15,16]
  refine wp_region_lit<|g9 U (.inc (k+1)<|.move rfl .nil) fun Y U=>wpList_nil ?_
  show ∃ n',n'<_∧_
  rw[po,pr] at aH
  exact⟨nn - (k+1),by omega,k+1,L++[y],b2,e2,_,_,by omega,rfl,by rw[List.length_append,List.length_singleton];omega,lS hQ hyQ,rr hnd hno9,by have:=hR2.1;omega,hR2.2.1,U.only [0,1,5,6,15,16],aH.ren [(1,1),(2,2),(3,3),(51,51),(52,52),(53,53),(54,54)] (by decide)⟩
 intro ab U;try simp only [QQ,Qax] at ab
 have hL8:L.length≤8:=by omega
 refine wcf U<|wp_exit<|hK2 _ _<|wsk fun K8 hK8=>zsr fun K9 hK9=>g9 U (.move rfl .nil) fun Y U=>plz (ecl U Tryz.func22 rfl (pj _ _ _ L _ (fun y hy=>(hQ y hy).1) hL8 (ad.into [(1,51),(2,52)] (by decide) rfl)) ?_)
 rintro e a7 ⟨a8,a9,rfl,ao⟩
 have aD:=ad.back ao [(51,1),(52,2),(100,3)] (by decide);clear ao ad
 have aE:=aD.oz [51,52,100,1,2,3,53,54]
 refine⟨_,rfl,?_⟩;intro Y U
 refine g9 U (.move rfl .nil) fun Y U=>plz<|ecb U Tryz.func64 rfl aE (xq (hno _ (s5 hnd) (fun y hy=>nh hQ hy) (by rw[nJ];exact hL8)) _ _ _ _ _ ((aE.rd (i:=100) rfl).any) ((aE.rd (i:=3) rfl).any) (kn (fun y hy=>nh hQ hy) (by rw[nJ];exact hL8)) hbb) fun Y ba U aQ=>gz hK9 U (.not rfl .nil) fun Y U=>wct U ?_
 replace U:=U.oz [0,1,5,6,15,16]
 refine hC U (.assign rfl .nil) fun Y U=>rt1 U ?_
 exact⟨rfl,aQ.only [1,2]⟩
end
section
theorem jY{L:List VolV}(hV:∀ y∈L,VP y)(hl:L.length≤8)(k):(im [(L.length:Int)]++(L.take k).flatMap ja).length≤240900000:=by
 have h1:=ic [(L.length:Int)]
 have h2:=lK (l:=L.take k) (fun x hx=>hV x (List.mem_of_mem_take hx))
 have h3:(L.take k).length≤L.length:=by rw[List.length_take];omega
 rw[List.length_append];simp only [List.length_cons,List.length_nil] at h1;omega
theorem vA(b:Bool)(w0:World):Calls Tryz.prog 56 #[.bool b] w0 fun e w'=>e=.returned (.int .i64 (kS b))∧Below w0.heap.size w0 w':=by
 refine i9 Tryz.func56 rfl Tryz.ntmps56 fun Y U =>?_
 have m0:=MemOk.start (fun _=>False) w0
 refine hC U (.assign rfl .nil) fun Y U=>wsk fun K0 hK0=>hC U (.move rfl .nil) fun Y U=>bc U 3 ?_ ?_
 ·
  intro hb3 U;try simp only [QQ,Qax] at hb3
  have hb9:b=true:=hb3
  refine wct U<|hC U (.assign rfl .nil) fun Y U=>rt1 U ?_
  exact⟨by rw[hb9];rfl,m0.below⟩
 intro hb3 U;try simp only [QQ,Qax] at hb3
 have hb9:b=false:=hb3
 refine wcf U<|zss<|hK0 _ _<|hC U (.assign rfl .nil) fun Y U=>rt1 U ?_
 exact⟨by rw[hb9];rfl,m0.below⟩
theorem xJ(y:VolV)(pp pn pw:Option Addr)(np cp nn cn cw:Nat)(w0:World):Calls Tryz.prog 39 #[.agg #[.int .i64 y.vo,.int .i64 y.bl,.int .i64 y.sz,.int .i64 y.pe,.slice pp np cp,.int .i64 y.to,.int .i64 y.ne,.bool y.hi,.int .i64 y.fl,.slice pn nn cn,.slice pw (y.ws.map wrD).length cw]] w0 fun e w'=>e=.returned (.int .i64 (y.ws.length:Int))∧Below w0.heap.size w0 w':=
 (iH _ _ _ _ _ _ _ _ _ _ _ _ _ _ _ _ _ w0).mono fun e w' h=>⟨by rw[h.1,List.length_map],h.2⟩
theorem oA(X B)(L:List VolV)(p)(c:Nat)(w0)(hV:∀ y∈L,VP y)(hLl:L.length≤8)(m0:MemOk X w0 [(1,.box B 32 [.slice p ((L).map ij).length c]),(2,.dat (.slice p ((L).map ij).length c) (.l 11 ((L).map ij)))] w0) :
   Calls Tryz.prog 21 #[.pointer (some ⟨B,0,none⟩)] w0 fun e w' => ∃ (p' p3:Option Addr) (c' c3:Nat),e=.returned (.slice p3 (iR L).length c3)∧MemOk X w0 [(1,.box B 32 [.slice p' ((L).map ij).length c']),(2,.dat (.slice p' ((L).map ij).length c') (.l 11 ((L).map ij))),(3,.dat (.slice p3 (iR L).length c3) (.ns .u8 (iR L)))] w':=by
 refine i9 Tryz.func21 rfl Tryz.ntmps21 fun Y U=>hC U (.assign rfl .nil) fun Y U=>zsr fun K0 hK0=>g9 U (.move rfl<|.nilCheck rfl<|.fa 0 rfl U32<|.lb m0 1 U30 rfl rfl rfl<|.len rfl U30 .nil) fun Y U=>plz (iv U m0 60 (k:=.i64) rfl rfl U48 ki rfl rfl rfl rfl fun b5 Y b6 U bo =>?_)
 have a8:=bo.freezeN 60 rfl
 refine plz<|ecn U Tryz.func44 rfl a8 61 (jN [((L.map ij).length:Int)] _ _ _ ((a8.rd (i:=60) rfl).any) (by simp) (l63 (fun z hz=>by simp at hz;subst hz;omega))) fun b7 b8 Y b9 U aR=>gz hK0 U (.assign rfl .nil) fun Y U=>wsk fun K1 hK1 =>?_
 replace U:=U.oz [0,2,3]
 refine hC U (.assign rfl .nil) fun Y U=>wp_block<|wp_loop_ghost (fun g a w => ∃ (k c d8:Nat) (p p8:Option Addr),k≤L.length∧g=L.length - k∧Has 89 [(0,.pointer (some ⟨B,0,none⟩)),(3,.slice p8 (im [(L.length:Int)]++(L.take k).flatMap ja).length d8),(4,.int .i64 k)] a∧MemOk X w0 [(1,.box B 32 [.slice p ((L).map ij).length c]),(2,.dat (.slice p ((L).map ij).length c) (.l 11 ((L).map ij))),(8,.num (.slice p8 (im [(L.length:Int)]++(L.take k).flatMap ja).length d8) 5 .u8 (im [(L.length:Int)]++(L.take k).flatMap ja))] w) (L.length) ?_ ?_
 · rw[show im [((L.map ij).length:Int)]=im [(L.length:Int)]++(L.take 0).flatMap ja by simp] at aR U
   exact⟨0,_,_,_,_,Nat.zero_le _,rfl,U.only [0,3,4],aR.ren [(1,1),(2,2),(8,61)] (by decide)⟩
 clear U aR
 rintro g Y ca ⟨k,c,d8,p,p8,hkl,hg,U,aG⟩
 refine wsk fun K2 hK2=>hC U (.move rfl<|.move rfl<|.nilCheck rfl<|.fa 0 rfl U32<|.lb aG 1 U30 rfl rfl rfl<|.len rfl U30<|.lss rfl rfl .nil) fun Y U=>bc U 20 ?_ ?_
 ·
  intro ab U;try simp only [QQ,Qax] at ab
  rw[List.length_map] at ab
  have hk:k<L.length:=by first|omega|(simp at ab;omega)
  obtain⟨y,hes⟩:∃ e,L[k]? = some e:=⟨_,List.getElem?_eq_getElem hk⟩
  have hPy:=hV y (List.mem_of_getElem? hes)
  refine wct U<|zss<|hK2 _ _<|wsk fun K3 hK3=>wp_block ?_
  replace U:=U.oz [0,3,4]
  refine zsr fun K4 hK4=>g9 U (.move rfl<|.nilCheck rfl<|.fa 0 rfl U32<|.lb aG 1 U30 rfl rfl rfl<|.move rfl .nil) fun Y U =>?_
  obtain⟨cb,cc,bp,aS,aT,aU,a9⟩:=aG.openR (i:=2) rfl (k) (r:=[.v (.int .i64 y.vo),.v (.int .i64 y.bl),.v (.int .i64 y.sz),.v (.int .i64 y.pe),.ns .i64 y.place,.v (.int .i64 y.to),.v (.int .i64 y.ne),.v (.bool y.hi),.v (.int .i64 y.fl),.ns .i64 y.pins,.l 2 (y.ws.map wrD)]) (iT hes) 100 rfl
  revert U
  cases aS;clear aG aU
  rcases aT with _|⟨ah,_|⟨ai,_|⟨aj,_|⟨ak,_|⟨ac,_|⟨al,_|⟨ao,_|⟨ap,_|⟨aq,_|⟨ad,_|⟨aa,_|_⟩⟩⟩⟩⟩⟩⟩⟩⟩⟩⟩
  obtain rfl:=ah.v_out
  clear ah
  obtain rfl:=ai.v_out
  clear ai
  obtain rfl:=aj.v_out
  clear aj
  obtain rfl:=ak.v_out
  clear ak
  obtain⟨cd,ce,aV,bq⟩:=ac.ns_shape;subst aV
  intro U
  have ba:=a9.dat 101 rfl (ac.cast (fun _ h=>(ia rfl h)));clear a9 ac
  revert U
  obtain rfl:=al.v_out
  clear al
  obtain rfl:=ao.v_out
  clear ao
  obtain rfl:=ap.v_out
  clear ap
  obtain rfl:=aq.v_out
  clear aq
  obtain⟨cf,cg,aW,br⟩:=ad.ns_shape;subst aW
  intro U
  have bb:=ba.dat 102 rfl (ad.cast (fun _ h=>(ia rfl (ia rfl h))));clear ba ad
  revert U
  obtain⟨ch,ci,aX,bs⟩:=aa.l_shape;subst aX
  intro U
  have bd:=bb.dat 103 rfl (aa.cast (fun _ h=>(ia rfl (ia rfl (ia rfl h)))));clear bb aa
  refine g9 U (.c rfl (fun _ h_=>ii h_ rfl rfl U30 hH (k) rfl (by simpa using hk))<|.loadCR bd (i:=100) rfl rfl U51 rfl hH .nil) fun Y U=>plz<|hZ U bd 104 iA rfl fun cj Y ck U bt _ _=>plz (stw U bt 104 hH fun cl be _ =>?_)
  refine znl<|hK4 _ _<|wsk fun K5 hK5 =>?_
  have hC5:∀ (a:Act) (w:World),(∃ (B5 c c1 c2 c3 d8:Nat) (p p1 p2 p3 p8:Option Addr),Has 89 [(0,.pointer (some ⟨B,0,none⟩)),(3,.slice p8 ((im [(L.length:Int)]++(L.take k).flatMap ja)++im [y.vo,y.bl,y.sz,y.pe]++im ((y.place.length:Int) :: y.place)).length d8),(4,.int .i64 k),(5,.pointer (some ⟨B5,0,none⟩))] a∧MemOk X w0 [(1,.box B 32 [.slice p ((L).map ij).length c]),(2,.dat (.slice p ((L).map ij).length c) (.l 11 ((L).map ij))),(8,.num (.slice p8 ((im [(L.length:Int)]++(L.take k).flatMap ja)++im [y.vo,y.bl,y.sz,y.pe]++im ((y.place.length:Int) :: y.place)).length d8) 5 .u8 ((im [(L.length:Int)]++(L.take k).flatMap ja)++im [y.vo,y.bl,y.sz,y.pe]++im ((y.place.length:Int) :: y.place))),(20,.box B5 51 [.int .i64 y.vo,.int .i64 y.bl,.int .i64 y.sz,.int .i64 y.pe,.slice p1 y.place.length c1,.int .i64 y.to,.int .i64 y.ne,.bool y.hi,.int .i64 y.fl,.slice p2 y.pins.length c2,.slice p3 (y.ws.map wrD).length c3]),(21,.dat (.slice p1 y.place.length c1) (.ns .i64 y.place)),(22,.dat (.slice p2 y.pins.length c2) (.ns .i64 y.pins)),(23,.dat (.slice p3 (y.ws.map wrD).length c3) (.l 2 (y.ws.map wrD)))] w)→K5 a w:=by
    clear U be
    rintro Y cm ⟨B5,c,c1,c2,c3,d8,p,p1,p2,p3,p8,U,bf⟩
    refine hK5 _ _<|wsk fun K6 hK6 =>?_
    have hC6:∀ (a:Act) (w:World),(∃ (B5 c c1 c2 c3 d8:Nat) (p p1 p2 p3 p8:Option Addr),Has 89 [(0,.pointer (some ⟨B,0,none⟩)),(3,.slice p8 (((im [(L.length:Int)]++(L.take k).flatMap ja)++im [y.vo,y.bl,y.sz,y.pe]++im ((y.place.length:Int) :: y.place))++im [y.to,y.ne,kS y.hi,y.fl,(y.pins.length:Int)]).length d8),(4,.int .i64 k),(5,.pointer (some ⟨B5,0,none⟩))] a∧MemOk X w0 [(1,.box B 32 [.slice p ((L).map ij).length c]),(2,.dat (.slice p ((L).map ij).length c) (.l 11 ((L).map ij))),(8,.num (.slice p8 (((im [(L.length:Int)]++(L.take k).flatMap ja)++im [y.vo,y.bl,y.sz,y.pe]++im ((y.place.length:Int) :: y.place))++im [y.to,y.ne,kS y.hi,y.fl,(y.pins.length:Int)]).length d8) 5 .u8 (((im [(L.length:Int)]++(L.take k).flatMap ja)++im [y.vo,y.bl,y.sz,y.pe]++im ((y.place.length:Int) :: y.place))++im [y.to,y.ne,kS y.hi,y.fl,(y.pins.length:Int)])),(20,.box B5 51 [.int .i64 y.vo,.int .i64 y.bl,.int .i64 y.sz,.int .i64 y.pe,.slice p1 y.place.length c1,.int .i64 y.to,.int .i64 y.ne,.bool y.hi,.int .i64 y.fl,.slice p2 y.pins.length c2,.slice p3 (y.ws.map wrD).length c3]),(21,.dat (.slice p1 y.place.length c1) (.ns .i64 y.place)),(22,.dat (.slice p2 y.pins.length c2) (.ns .i64 y.pins)),(23,.dat (.slice p3 (y.ws.map wrD).length c3) (.l 2 (y.ws.map wrD)))] w)→K6 a w:=by
      clear U bf
      rintro Y co ⟨B5,c,c1,c2,c3,d8,p,p1,p2,p3,p8,U,bg⟩
      refine hK6 _ _<|wsk fun K7 hK7 =>?_
      have hC7:∀ (a:Act) (w:World),(∃ (B5 c c1 c2 c3 d8:Nat) (p p1 p2 p3 p8:Option Addr),Has 89 [(0,.pointer (some ⟨B,0,none⟩)),(3,.slice p8 ((((im [(L.length:Int)]++(L.take k).flatMap ja)++im [y.vo,y.bl,y.sz,y.pe]++im ((y.place.length:Int) :: y.place))++im [y.to,y.ne,kS y.hi,y.fl,(y.pins.length:Int)])++im y.pins++im [(y.ws.length:Int)]).length d8),(4,.int .i64 k),(5,.pointer (some ⟨B5,0,none⟩))] a∧MemOk X w0 [(1,.box B 32 [.slice p ((L).map ij).length c]),(2,.dat (.slice p ((L).map ij).length c) (.l 11 ((L).map ij))),(8,.num (.slice p8 ((((im [(L.length:Int)]++(L.take k).flatMap ja)++im [y.vo,y.bl,y.sz,y.pe]++im ((y.place.length:Int) :: y.place))++im [y.to,y.ne,kS y.hi,y.fl,(y.pins.length:Int)])++im y.pins++im [(y.ws.length:Int)]).length d8) 5 .u8 ((((im [(L.length:Int)]++(L.take k).flatMap ja)++im [y.vo,y.bl,y.sz,y.pe]++im ((y.place.length:Int) :: y.place))++im [y.to,y.ne,kS y.hi,y.fl,(y.pins.length:Int)])++im y.pins++im [(y.ws.length:Int)])),(20,.box B5 51 [.int .i64 y.vo,.int .i64 y.bl,.int .i64 y.sz,.int .i64 y.pe,.slice p1 y.place.length c1,.int .i64 y.to,.int .i64 y.ne,.bool y.hi,.int .i64 y.fl,.slice p2 y.pins.length c2,.slice p3 (y.ws.map wrD).length c3]),(21,.dat (.slice p1 y.place.length c1) (.ns .i64 y.place)),(22,.dat (.slice p2 y.pins.length c2) (.ns .i64 y.pins)),(23,.dat (.slice p3 (y.ws.map wrD).length c3) (.l 2 (y.ws.map wrD)))] w)→K7 a w:=by
        clear U bg
        rintro Y cq ⟨B5,c,c1,c2,c3,d8,p,p1,p2,p3,p8,U,aY⟩
        refine hK7 _ _<|hC U (.assign rfl .nil) fun Y U=>wp_block<|wp_loop_ghost (fun g a w => ∃ (j B5 c c1 c2 c3 d8:Nat) (p p1 p2 p3 p8:Option Addr),j≤y.ws.length∧g=y.ws.length - j∧Has 89 [(0,.pointer (some ⟨B,0,none⟩)),(3,.slice p8 ((im [(L.length:Int)]++(L.take k).flatMap ja)++jX y++wsE (y.ws.take j)).length d8),(4,.int .i64 k),(5,.pointer (some ⟨B5,0,none⟩)),(6,.int .i64 j)] a∧MemOk X w0 [(1,.box B 32 [.slice p ((L).map ij).length c]),(2,.dat (.slice p ((L).map ij).length c) (.l 11 ((L).map ij))),(8,.num (.slice p8 ((im [(L.length:Int)]++(L.take k).flatMap ja)++jX y++wsE (y.ws.take j)).length d8) 5 .u8 ((im [(L.length:Int)]++(L.take k).flatMap ja)++jX y++wsE (y.ws.take j))),(20,.box B5 51 [.int .i64 y.vo,.int .i64 y.bl,.int .i64 y.sz,.int .i64 y.pe,.slice p1 y.place.length c1,.int .i64 y.to,.int .i64 y.ne,.bool y.hi,.int .i64 y.fl,.slice p2 y.pins.length c2,.slice p3 (y.ws.map wrD).length c3]),(21,.dat (.slice p1 y.place.length c1) (.ns .i64 y.place)),(22,.dat (.slice p2 y.pins.length c2) (.ns .i64 y.pins)),(23,.dat (.slice p3 (y.ws.map wrD).length c3) (.l 2 (y.ws.map wrD)))] w) (y.ws.length) ?_ ?_
        · rw[show((((im [(L.length:Int)]++(L.take k).flatMap ja)++im [y.vo,y.bl,y.sz,y.pe]++im ((y.place.length:Int) :: y.place))++im [y.to,y.ne,kS y.hi,y.fl,(y.pins.length:Int)])++im y.pins++im [(y.ws.length:Int)])=(im [(L.length:Int)]++(L.take k).flatMap ja)++jX y++wsE (y.ws.take 0) by simp [jX,mc,wsE,im]] at aY U
          exact⟨0,_,_,_,_,_,_,_,_,_,_,_,Nat.zero_le _,rfl,U.only [0,3,4,5,6],aY.ren [(1,1),(2,2),(8,8),(20,20),(21,21),(22,22),(23,23)] (by decide)⟩
        clear U aY
        rintro g Y cr ⟨j,B5,c,c1,c2,c3,d8,p,p1,p2,p3,p8,hjl,hg2,U,aH⟩
        refine wsk fun K8 hK8=>hC U (.move rfl<|.fa 10 rfl U51<|.lb aH 20 U49 rfl rfl rfl<|.len rfl U49<|.lss rfl rfl .nil) fun Y U=>bc U 76 ?_ ?_
        ·
         intro ae U;try simp only [QQ,Qax] at ae
         rw[List.length_map] at ae
         have hj:j<y.ws.length:=by first|omega|(simp at ae;omega)
         obtain⟨⟨xs,xl⟩,hes2⟩:∃ e,y.ws[j]? = some e:=⟨_,List.getElem?_eq_getElem hj⟩
         have hx9:=hPy.it _ (List.mem_of_getElem? hes2)
         dsimp only at hx9
         refine wct U<|zss<|hK8 _ _<|wsk fun K9 hK9=>wp_block<|wp_region_lit<|g9 U (.move rfl<|.fa 10 rfl U51<|.lb aH 20 U49 rfl rfl rfl<|.move rfl .nil) fun Y U =>?_
         obtain⟨cs,ct,bu,aZ,a0,a1,bh⟩:=aH.openR (i:=23) rfl (j) (r:=[.v (.int .i64 xs),.l 2 (xl.map itD)]) (iI hes2) 500 rfl
         revert U
         cases aZ;clear aH a1
         rcases a0 with _|⟨ar,_|⟨ag,_|_⟩⟩
         obtain rfl:=ar.v_out
         clear ar
         obtain⟨cu,cv,a2,bv⟩:=ag.l_shape;subst a2
         intro U
         have a3:=bh.dat 501 rfl (ag.cast (fun _ h=>(ia rfl h)));clear bh ag
         refine g9 U (.c rfl (fun _ h_=>ii h_ rfl rfl U49 jR (j) rfl (by simpa using hj))<|.fieldAddrQ 1 rfl j1 rfl (s:=0) (by kernel_rfl) rfl<|.loadC1 a3 (i:=500) (q:=1) rfl rfl rfl U36 rfl .nil) fun Y U=>plz<|ecn U Tryz.func46 rfl a3 502 (lT xl _ _ _ _ ((a3.rd (i:=501) rfl).any) (by have:=hx9.1;omega) (fun e he=>by have:=hx9.2 e he;omega)) fun cw cy Y cz U bi=>plz<|iC U bi 8 rfl rfl rfl (bi.numsO (i:=502) rfl) U22 jU (by decide) (by have hA:=jY hV hLl k;have h1:=kT hPy;have h2:=q8 hPy j;have h3:=ou hx9;simp only [List.length_append] at *;omega) rfl fun cA cB Y cC U bj=>gz hK9 U (.assign rfl .nil) fun Y U =>?_
         replace U:=U.oz [0,3,4,5,6]
         refine wp_region_lit<|g9 U (.move rfl<|.add rfl rfl (r:=((j+1:Nat):Int)) (by have:=hPy.ws;rw[IntWalk.i64_in _ (by omega)];omega)<|.assign rfl .nil) fun Y U=>wpList_nil ?_
         show ∃ n',n'<_∧_
         rw[pf hes2] at bj U
         exact⟨y.ws.length - (j+1),by omega,j+1,_,_,_,_,_,_,_,_,_,_,_,by omega,rfl,U.only [0,3,4,5,6],bj.ren [(1,1),(2,2),(8,8),(20,20),(21,21),(22,22),(23,23)] (by decide)⟩
        intro ae U;try simp only [QQ,Qax] at ae
        rw[List.length_map] at ae
        revert U
        obtain rfl:j=y.ws.length:=by first|omega|(simp at ae;omega)
        intro U
        rw[List.take_length,List.append_assoc,show jX y++wsE y.ws=ja y from rfl,List.append_assoc,nG hes] at aH U
        refine wcf U<|wp_exit<|hK3 _ _<|wp_region_lit<|g9 U (.move rfl<|.inc (k+1)<|.assign rfl .nil) fun Y U=>wpList_nil ?_
        show ∃ n',n'<_∧_
        exact⟨L.length - (k+1),by omega,k+1,_,_,_,_,by omega,rfl,U.only [0,3,4],aH.ren [(1,1),(2,2),(8,8)] (by decide)⟩
      have a4:=bg.oz [1,2,8,20,21,22,23]
      refine region_p 11 (B:=[(1,_),(2,_),(20,_),(21,_),(22,_),(23,_)]) (a4.to i6l) a4 (by kernel_rfl) (fun cD aI a5 =>?_);clear a4
      refine goR aI [0,1,2,5] [2,5] 4 0 39 U (a5.to i6l) (.move rfl<|.fa 9 rfl U51<|.lb hh 20 U48 rfl rfl rfl<|.loadBR hh (i:=20) rfl rfl U51 rfl hH (by simp) (by dsimp only [List.drop,List.take] <;> rfl) .nil) fun Y U=>so 3 ?_
      refine ecn U Tryz.func44 rfl a5 300 (jN y.pins _ _ _ ((a5.rd (i:=22) rfl).any) (by have:=hPy.pn.1;omega) (l63 (fun z hz=>by have:=hPy.pn.2 z hz;omega))) fun cE cF Y cG U a6=>⟨a6.to i6l,?_⟩
      refine so 4 ?_
      refine iC U a6 8 rfl rfl rfl (a6.numsO (i:=300) rfl) U22 jU (by decide) (by have hA:=jY hV hLl k;have h1:=ic [y.vo,y.bl,y.sz,y.pe];have h2:=ic ((y.place.length:Int) :: y.place);have h3:=ic [y.to,y.ne,kS y.hi,y.fl,(y.pins.length:Int)];have h4:=ic y.pins;have h5:=ic [(y.ws.length:Int)];have h6:=hPy.pl.1;have h7:=hPy.pn.1;simp only [List.length_append,List.length_cons,List.length_nil] at *;omega) rfl fun cH cI Y cJ U bk=>⟨bk.to i6l,?_⟩
      refine so 6 ?_
      refine ecb U Tryz.func39 rfl bk (xJ y _ _ _ _ _ _ _ _ _ ) fun Y cK U bm=>⟨bm.to i6l,?_⟩
      refine so 7 ?_
      refine iv U bm 301 (k:=.i64) rfl rfl U48 ki rfl rfl rfl rfl fun cL Y cM U bn=>⟨bn.to i6l,?_⟩
      have aJ:=bn.freezeN 301 rfl
      refine so 8 ?_
      refine ecn U Tryz.func44 rfl aJ 302 (jN [(y.ws.length:Int)] _ _ _ ((aJ.rd (i:=301) rfl).any) (by simp) (l63 (fun z hz=>by simp at hz;subst hz;have:=hPy.ws;omega))) fun bw bx Y bz U aw=>⟨aw.to i6l,?_⟩
      refine so 9 ?_
      refine iC U aw 8 rfl rfl rfl (aw.numsO (i:=302) rfl) U22 jU (by decide) (by have hA:=jY hV hLl k;have h1:=ic [y.vo,y.bl,y.sz,y.pe];have h2:=ic ((y.place.length:Int) :: y.place);have h3:=ic [y.to,y.ne,kS y.hi,y.fl,(y.pins.length:Int)];have h4:=ic y.pins;have h5:=ic [(y.ws.length:Int)];have h6:=hPy.pl.1;have h7:=hPy.pn.1;simp only [List.length_append,List.length_cons,List.length_nil] at *;omega) rfl fun bA bB Y bC U ax=>⟨ax.to i6l,?_⟩
      refine goA aI [10] 1 1023 2047 U (ax.to i6l) (.assign rfl .nil) fun Y U=>wad ?_
      show K7 _ _
      exact hC7 _ _ ⟨_,_,_,_,_,_,_,_,_,_,_,U.only [0,3,4,5],ax.ren [(1,1),(2,2),(8,8),(20,20),(21,21),(22,22),(23,23)] (by decide)⟩
    have ay:=bf.oz [1,2,8,20,21,22,23]
    refine region_p 17 (B:=[(1,_),(2,_),(20,_),(21,_),(22,_),(23,_)]) (ay.to i6l) ay (by kernel_rfl) (fun bE au aK =>?_);clear ay
    refine goR au [0,1,2,3,4,5,6,8,9,10,11,12] [2,4,6,9,11] 12 0 8063 U (aK.to i6l) (.move rfl<|.fa 5 rfl U51<|.lb hh 20 U3 rfl rfl rfl<|.fa 6 rfl U51<|.lb hh 20 U3 rfl rfl rfl<|.fa 7 rfl U51<|.lb hh 20 U4 rfl rfl rfl<|.fa 8 rfl U51<|.lb hh 20 U2 rfl rfl rfl<|.fa 9 rfl U51<|.lb hh 20 U48 rfl rfl rfl<|.len rfl U48 .nil) fun Y U=>so 7 ?_
    refine ecb U Tryz.func56 rfl aK (vA _ _) fun Y bF U aL=>⟨aL.to i6l,?_⟩
    refine so 13 ?_
    refine iv U aL 200 (k:=.i64) rfl rfl U48 ki rfl rfl rfl rfl fun bG Y bH U aM=>⟨aM.to i6l,?_⟩
    have aN:=aM.freezeN 200 rfl
    refine so 14 ?_
    refine ecn U Tryz.func44 rfl aN 201 (jN [y.to,y.ne,kS y.hi,y.fl,(y.pins.length:Int)] _ _ _ ((aN.rd (i:=200) rfl).any) (by simp) (l63 (fun z hz=>by simp at hz;have:=hPy.h4;have:=hPy.h3;have:=lJ y.hi;have:=hPy.pn.1;omega))) fun bI bJ Y bK U az=>⟨az.to i6l,?_⟩
    refine so 15 ?_
    refine iC U az 8 rfl rfl rfl (az.numsO (i:=201) rfl) U22 jU (by decide) (by have hA:=jY hV hLl k;have h1:=ic [y.vo,y.bl,y.sz,y.pe];have h2:=ic ((y.place.length:Int) :: y.place);have h3:=ic [y.to,y.ne,kS y.hi,y.fl,(y.pins.length:Int)];have h4:=ic y.pins;have h5:=ic [(y.ws.length:Int)];have h6:=hPy.pl.1;have h7:=hPy.pn.1;simp only [List.length_append,List.length_cons,List.length_nil] at *;omega) rfl fun bL bM Y bN U aA=>⟨aA.to i6l,?_⟩
    refine goA au [16] 1 65535 131071 U (aA.to i6l) (.assign rfl .nil) fun Y U=>wad ?_
    show K6 _ _
    exact hC6 _ _ ⟨_,_,_,_,_,_,_,_,_,_,_,U.only [0,3,4,5],aA.ren [(1,1),(2,2),(8,8),(20,20),(21,21),(22,22),(23,23)] (by decide)⟩
  replace U:=U.oz [0,3,4,5]
  have aB:=be.oz [1,2,8,100,101,102,103,104]
  refine region_p 17 (B:=[(1,_),(2,_),(100,_),(101,_),(102,_),(103,_),(104,_)]) (aB.to i7l) aB (by kernel_rfl) (fun bO av aO =>?_);clear aB
  refine goR av [0,1,2,3,4,5,6,7,8,12,13] [2,4,6,8,13] 11 0 12799 U (aO.to i7l) (.move rfl<|.fa 0 rfl U51<|.lb hh 104 U3 rfl rfl rfl<|.fa 1 rfl U51<|.lb hh 104 U3 rfl rfl rfl<|.fa 2 rfl U51<|.lb hh 104 U3 rfl rfl rfl<|.fa 3 rfl U51<|.lb hh 104 U3 rfl rfl rfl<|.fa 4 rfl U51<|.lb hh 104 U35 rfl rfl rfl .nil) fun Y U=>so 9 ?_
  refine iv U aO 105 (k:=.i64) rfl rfl U48 ki rfl rfl rfl rfl fun bP Y bQ U aP=>⟨aP.to i7l,?_⟩
  have aQ:=aP.freezeN 105 rfl
  refine so 10 ?_
  refine ecn U Tryz.func44 rfl aQ 106 (jN [y.vo,y.bl,y.sz,y.pe] _ _ _ ((aQ.rd (i:=105) rfl).any) (by simp) (l63 (fun z hz=>by simp at hz;have:=hPy.h4;have:=hPy.h3;have:=lJ y.hi;have:=hPy.pn.1;omega))) fun bR bS Y bT U aC=>⟨aC.to i7l,?_⟩
  refine so 11 ?_
  refine iC U aC 8 rfl rfl rfl (aC.numsO (i:=106) rfl) U22 jU (by decide) (by have hA:=jY hV hLl k;have h1:=ic [y.vo,y.bl,y.sz,y.pe];have h2:=ic ((y.place.length:Int) :: y.place);have h3:=ic [y.to,y.ne,kS y.hi,y.fl,(y.pins.length:Int)];have h4:=ic y.pins;have h5:=ic [(y.ws.length:Int)];have h6:=hPy.pl.1;have h7:=hPy.pn.1;simp only [List.length_append,List.length_cons,List.length_nil] at *;omega) rfl fun bU bV Y bW U aD=>⟨aD.to i7l,?_⟩
  refine so 14 ?_
  refine ecn U Tryz.func45 rfl aD 107 (pC y.place _ _ _ ((aD.rd (i:=101) rfl).any) (by have:=hPy.pl.1;omega) (l63 (fun z hz=>by have:=hPy.pl.2 z hz;omega))) fun bX bY Y bZ U aE=>⟨aE.to i7l,?_⟩
  refine so 15 ?_
  refine iC U aE 8 rfl rfl rfl (aE.numsO (i:=107) rfl) U22 jU (by decide) (by have hA:=jY hV hLl k;have h1:=ic [y.vo,y.bl,y.sz,y.pe];have h2:=ic ((y.place.length:Int) :: y.place);have h3:=ic [y.to,y.ne,kS y.hi,y.fl,(y.pins.length:Int)];have h4:=ic y.pins;have h5:=ic [(y.ws.length:Int)];have h6:=hPy.pl.1;have h7:=hPy.pn.1;simp only [List.length_append,List.length_cons,List.length_nil] at *;omega) rfl fun b0 b1 Y b4 U aF=>⟨aF.to i7l,?_⟩
  refine goA av [16] 1 65535 131071 U (aF.to i7l) (.assign rfl .nil) fun Y U=>wad ?_
  show K5 _ _
  exact hC5 _ _ ⟨_,_,_,_,_,_,_,_,_,_,_,U.only [0,3,4,5],aF.ren [(1,1),(2,2),(8,8),(20,104),(21,101),(22,102),(23,103)] (by decide)⟩
 intro ab U;try simp only [QQ,Qax] at ab
 rw[List.length_map] at ab
 revert U
 obtain rfl:k=L.length:=by first|omega|(simp at ab;omega)
 intro U
 rw[List.take_length] at aG U
 refine wcf U<|wp_exit<|hK1 _ _ ?_
 replace U:=U.oz [0,3,4]
 refine hC U (.move rfl<|.assign rfl .nil) fun Y U=>rt1 U ?_
 have a7:=aG.freezeN 8 rfl
 exact⟨_,_,_,_,rfl,a7.ren [(1,1),(2,2),(3,8)] (by decide)⟩
end
section

end
section
theorem s6:iO Tryz.prog 103 [.int .i64 0,.slice none 0 0]=true:=by kernel_rfl
theorem vB(X B)(b:List Int)(er p)(c:Nat)(w0)(hb:b.length≤1000000)(hbb:BytesL b)(m0:MemOk X w0 [(1,.box B 115 [.slice p (b).length c,.int .i64 er]),(2,.dat (.slice p (b).length c) (.ns .u8 (b)))] w0) :
   Calls Tryz.prog 66 #[.pointer (some ⟨B,0,none⟩)] w0 fun e w' => ∃ (x:VolV) (b':List Int) (er':Int) (p' p1 p2 p3:Option Addr) (c' d1 d2 d3:Nat),e=.returned (.agg #[.int .i64 x.vo,.int .i64 x.bl,.int .i64 x.sz,.int .i64 x.pe,.slice p1 x.place.length d1,.int .i64 x.to,.int .i64 x.ne,.bool x.hi,.int .i64 x.fl,.slice p2 x.pins.length d2,.slice p3 (x.ws.map wrD).length d3])∧RdN b er b' er'∧(x.place.length≤256∧x.pins.length≤b.length+1∧x.ws.length≤b.length+1∧(∀ e∈x.ws,e.2.length≤1000000)∧WBy x.ws)∧(∀ y:VolV,VP y→(∀ (k:Nat) (w:PWr),y.ws[k]? = some w→w.1=(k:Int)+1)→XE b er (ja y) (x=y) b' er')∧MemOk X w0 [(1,.box B 115 [.slice p' (b').length c',.int .i64 er']),(2,.dat (.slice p' (b').length c') (.ns .u8 (b'))),(3,.dat (.slice p1 x.place.length d1) (.ns .i64 x.place)),(4,.dat (.slice p2 x.pins.length d2) (.ns .i64 x.pins)),(5,.dat (.slice p3 (x.ws.map wrD).length d3) (.l 2 (x.ws.map wrD)))] w':=by
 refine i9 Tryz.func66 rfl Tryz.ntmps66 fun Y U=>zsr fun K0 hK0=>plz<|hZ U m0 40 iA rfl fun g1 Y w2 U m2 _ _=>znl<|hK0 _ _<|zsr fun K1 hK1=>plz<|hZ U m2 41 iA rfl fun g3 Y w4 U m4 _ _=>znl<|hK1 _ _<|zsr fun K2 hK2=>g9 U (.move rfl .nil) fun Y U=>plz (ecl U Tryz.func65 rfl (iV _ _ b er 8 _ _ _ hb hbb (by decide) (m4.into [(1,1),(2,2)] (by decide) rfl)) ?_)
 rintro e w7 ⟨xq7,bq7,eq7,p7,c7,rfl,hxq7,hX7,hq7,hm7⟩
 have mx7:=m4.back hm7 [(1,1),(2,2)] (by decide);clear hm7 m4
 have m7:=mx7.oz [1,2,40,41]
 refine⟨_,rfl,?_⟩;intro Y U
 have hR7:RdN b er bq7 eq7:=hq7
 refine g9 U (.conv rfl jV U3 (IntWalk.i64_in _ (by omega))<|.fa 0 rfl U51 .nil) fun Y U=>plz (st1 U m7 41 iG fun dF bS _ =>?_)
 refine znl<|hK2 _ _<|zsr fun K3 hK3=>g9 U (.move rfl .nil) fun Y U=>plz (ecl U Tryz.func65 rfl (iV _ _ bq7 eq7 256 _ _ _ (Nat.le_trans hR7.1 hb) hR7.2.1 (by decide) (bS.into [(1,1),(2,2)] (by decide) rfl)) ?_)
 rintro e dG ⟨ad,aW,aX,dH,dI,rfl,cN,aY,bT,aZ⟩
 have bU:=bS.back aZ [(1,1),(2,2)] (by decide);clear aZ bS
 have c2:=bU.oz [1,2,40,41]
 refine⟨_,rfl,?_⟩;intro Y U
 have aH:RdN b er aW aX:=hR7.tr bT
 refine g9 U (.conv rfl jV U3 (IntWalk.i64_in _ (by omega))<|.fa 1 rfl U51 .nil) fun Y U=>plz (st1 U c2 41 iG fun dJ bV _ =>?_)
 refine znl (hK3 _ _ ?_)
 replace U:=U.oz [0,2,3]
 refine zsr fun K4 hK4=>g9 U (.move rfl .nil) fun Y U=>plz (ecl U Tryz.func65 rfl (iV _ _ aW aX 32 _ _ _ (Nat.le_trans aH.1 hb) aH.2.1 (by decide) (bV.into [(1,1),(2,2)] (by decide) rfl)) ?_)
 rintro e dK ⟨ae,a0,a1,dL,dM,rfl,cO,a2,bW,a3⟩
 have bX:=bV.back a3 [(1,1),(2,2)] (by decide);clear a3 bV
 have c3:=bX.oz [1,2,40,41]
 refine⟨_,rfl,?_⟩;intro Y U
 have aI:RdN b er a0 a1:=aH.tr bW
 refine g9 U (.conv rfl jV U3 (IntWalk.i64_in _ (by omega))<|.fa 2 rfl U51 .nil) fun Y U=>plz (st1 U c3 41 iG fun dN bY _ =>?_)
 refine znl<|hK4 _ _<|zsr fun K5 hK5=>g9 U (.move rfl .nil) fun Y U=>plz (ecl U Tryz.func65 rfl (iV _ _ a0 a1 256 _ _ _ (Nat.le_trans aI.1 hb) aI.2.1 (by decide) (bY.into [(1,1),(2,2)] (by decide) rfl)) ?_)
 rintro e dO ⟨ag,a4,a5,dP,dQ,rfl,cP,a6,bZ,a7⟩
 have b0:=bY.back a7 [(1,1),(2,2)] (by decide);clear a7 bY
 have c6:=b0.oz [1,2,40,41]
 refine⟨_,rfl,?_⟩;intro Y U
 have aJ:RdN b er a4 a5:=aI.tr bZ
 refine g9 U (.conv rfl jV U3 (IntWalk.i64_in _ (by omega))<|.fa 3 rfl U51 .nil) fun Y U=>plz (st1 U c6 41 iG fun dR b4 _ =>?_)
 refine znl (hK5 _ _ ?_)
 replace U:=U.oz [0,2,3]
 refine zsr fun K6 hK6=>g9 U (.move rfl .nil) fun Y U=>plz (ecl U Tryz.func77 rfl (pD _ _ a4 a5 _ _ _ (Nat.le_trans aJ.1 hb) aJ.2.1 (b4.into [(1,1),(2,2)] (by decide) rfl)) ?_)
 rintro e dS ⟨aa,a8,a9,dT,dU,c8,c9,rfl,aA,cQ,ba,b5,bb⟩
 have b6:=b4.back bb [(1,1),(2,2),(42,3)] (by decide);clear bb b4
 have da:=b6.oz [1,2,42,40,41]
 refine⟨_,rfl,?_⟩;intro Y U
 have aK:RdN b er a8 a9:=aJ.tr b5
 refine g9 U (.fieldAddr (off:=4) rfl U51 rfl (s:=0) (by kernel_rfl) rfl .nil) fun Y U=>plz (st1 U da 41 n0 fun dV b7 _ =>?_)
 refine znl<|hK6 _ _<|zsr fun K7 hK7=>g9 U (.move rfl .nil) fun Y U=>plz (ecl U Tryz.func65 rfl (iV _ _ a8 a9 1099511627776 _ _ _ (Nat.le_trans aK.1 hb) aK.2.1 (by decide) (b7.into [(1,1),(2,2)] (by decide) rfl)) ?_)
 rintro e dW ⟨ah,bd,be,dX,dY,rfl,cR,bf,b8,bg⟩
 have b9:=b7.back bg [(1,1),(2,2)] (by decide);clear bg b7
 have db:=b9.oz [1,2,40,41,42]
 refine⟨_,rfl,?_⟩;intro Y U
 have aL:RdN b er bd be:=aK.tr b8
 refine g9 U (.conv rfl jV U3 (IntWalk.i64_in _ (by omega))<|.fa 5 rfl U51 .nil) fun Y U=>plz (st1 U db 41 iG fun dZ ca _ =>?_)
 refine znl (hK7 _ _ ?_)
 replace U:=U.oz [0,2,3]
 refine zsr fun K8 hK8=>g9 U (.move rfl .nil) fun Y U=>plz (ecl U Tryz.func65 rfl (iV _ _ bd be 1099511627776 _ _ _ (Nat.le_trans aL.1 hb) aL.2.1 (by decide) (ca.into [(1,1),(2,2)] (by decide) rfl)) ?_)
 rintro e d0 ⟨ai,bh,bi,d4,d5,rfl,cS,bj,cb,bk⟩
 have cc:=ca.back bk [(1,1),(2,2)] (by decide);clear bk ca
 have dc:=cc.oz [1,2,40,41,42]
 refine⟨_,rfl,?_⟩;intro Y U
 have aM:RdN b er bh bi:=aL.tr cb
 refine g9 U (.conv rfl jV U3 (IntWalk.i64_in _ (by omega))<|.fa 6 rfl U51 .nil) fun Y U=>plz (st1 U dc 41 iG fun d6 cd _ =>?_)
 refine znl<|hK8 _ _<|zsr fun K9 hK9=>g9 U (.move rfl .nil) fun Y U=>plz (ecl U Tryz.func65 rfl (iV _ _ bh bi 1 _ _ _ (Nat.le_trans aM.1 hb) aM.2.1 (by decide) (cd.into [(1,1),(2,2)] (by decide) rfl)) ?_)
 rintro e d7 ⟨aj,bm,bn,d8,d9,rfl,cT,bo,ce,bp⟩
 have cf:=cd.back bp [(1,1),(2,2)] (by decide);clear bp cd
 have de:=cf.oz [1,2,40,41,42]
 refine⟨_,rfl,?_⟩;intro Y U
 have aN:RdN b er bm bn:=aM.tr ce
 refine g9 U (.eql rfl rfl<|.fa 7 rfl U51 .nil) fun Y U=>plz (st1 U de 41 sJ fun ea cg _ =>?_)
 refine znl (hK9 _ _ ?_)
 replace U:=U.oz [0,2,3]
 refine zsr fun eb ch=>g9 U (.move rfl .nil) fun Y U=>plz (ecl U Tryz.func65 rfl (iV _ _ bm bn 1099511627776 _ _ _ (Nat.le_trans aN.1 hb) aN.2.1 (by decide) (cg.into [(1,1),(2,2)] (by decide) rfl)) ?_)
 rintro e ec ⟨ak,au,av,ed,ee,rfl,cU,bq,ci,br⟩
 have cj:=cg.back br [(1,1),(2,2)] (by decide);clear br cg
 have df:=cj.oz [1,2,40,41,42]
 refine⟨_,rfl,?_⟩;intro Y U
 have aO:RdN b er au av:=aN.tr ci
 refine g9 U (.conv rfl jV U2 (IntWalk.i64_in _ (by omega))<|.fa 8 rfl U51 .nil) fun Y U=>plz (st1 U df 41 iP fun ef ck _ =>?_)
 refine znl<|ch _ _<|zsr fun eg cl=>g9 U (.move rfl .nil) fun Y U=>plz (ecl U Tryz.func65 rfl (iV _ _ au av 2147483648 _ _ _ (Nat.le_trans aO.1 hb) aO.2.1 (by decide) (ck.into [(1,1),(2,2)] (by decide) rfl)) ?_)
 rintro e eh ⟨ab,bs,bt,ei,ej,rfl,cV,cm,co,bu⟩
 have cq:=ck.back bu [(1,1),(2,2)] (by decide);clear bu ck
 have cr:=cq.oz [1,2,40,41,42]
 refine⟨_,rfl,?_⟩;intro Y U
 have bv:RdN b er bs bt:=aO.tr co
 refine gz cl U (.assign rfl .nil) fun Y U=>wsk fun cs ct =>?_
 have bw:∀ (a:Act) (w:World),(∃ (l b1:List Int) (e1:Int) (B2 B3:Nat) (p4 q1 q3:Option Addr) (c4 d1 d3:Nat),l.length≤b.length+1∧RdN b er b1 e1∧(∀ z:List Int,z.length≤2147483648→(∀ y∈z,(fun y:Int=>0≤y∧y≤1099511627776) y)→XE au av (enc z.length++z.flatMap enc) (l=z) b1 e1)∧Has 90 [(0,.pointer (some ⟨B,0,none⟩)),(2,.pointer (some ⟨B2,0,none⟩)),(3,.pointer (some ⟨B3,0,none⟩))] a∧MemOk X w0 [(1,.box B 115 [.slice q1 b1.length d1,.int .i64 e1]),(2,.dat (.slice q1 b1.length d1) (.ns .u8 b1)),(5,.box B2 51 [.int .i64 0,.int .i64 0,.int .i64 0,.int .i64 0,.slice none 0 0,.int .i64 0,.int .i64 0,.bool false,.int .i64 0,.slice none 0 0,.slice none 0 0]),(6,.box B3 51 [.int .i64 xq7,.int .i64 ad,.int .i64 ae,.int .i64 ag,.slice p4 aa.length c4,.int .i64 ah,.int .i64 ai,.bool (decide (aj=1)),.int .i64 ak,.slice q3 l.length d3,.slice none 0 0]),(7,.dat (.slice p4 aa.length c4) (.ns .i64 aa)),(8,.num (.slice q3 l.length d3) 2 .i64 l)] w)→cs a w:=by
   clear U cr
   rintro Y ek ⟨l,b1,e1,B2,B3,p4,q1,q3,c4,d1,d3,hlP,hRp,hXP,U,cu⟩
   refine ct _ _<|zsr fun el cv=>g9 U (.move rfl .nil) fun Y U=>plz (ecl U Tryz.func65 rfl (iV _ _ b1 e1 2147483648 _ _ _ (Nat.le_trans hRp.1 hb) hRp.2.1 (by decide) (cu.into [(1,1),(2,2)] (by decide) rfl)) ?_)
   rintro e em ⟨ac,bx,bz,en,eo,rfl,cW,cw,cy,bA⟩
   have cz:=cu.back bA [(1,1),(2,2)] (by decide);clear bA cu
   have dg:=cz.oz [1,2,5,6,7,8]
   refine⟨_,rfl,?_⟩;intro Y U
   have bB:RdN b er bx bz:=hRp.tr cy
   refine gz cv U (.assign rfl .nil) fun Y U=>wsk fun ep bC=>hC U (.assign rfl .nil) fun Y U=>wp_block ?_
   have cX:=dg.freezeN 8 rfl
   refine wp_loop_ghost (fun g a w => ∃ (k:Nat) (W:List (List (Int×List Int))) (b2:List Int) (e2:Int) (B2 B3:Nat) (p4 p5 q1 q3:Option Addr) (c4 c5 d1 d3:Nat),W.length=k∧(k:Int)≤ac∧g=ac.toNat - k∧(W.length≤b.length+1∧(e2=0→W.length+b2.length≤b.length))∧(∀ xl∈W,xl.length≤1000000∧∀ e∈xl,BytesL e.2)∧RdN b er b2 e2∧XL isE (fun x:List (Int×List Int)=>x.length≤8∧∀ y∈x,(0≤y.1∧y.1≤256)∧(y.2.length:Int)≤32) 2147483648 b1 e1 ac W b2 e2∧Has 90 [(0,.pointer (some ⟨B,0,none⟩)),(2,.pointer (some ⟨B2,0,none⟩)),(3,.pointer (some ⟨B3,0,none⟩)),(4,.int .u64 ac),(6,.int .u64 (k:Int))] a∧MemOk X w0 [(1,.box B 115 [.slice q1 b2.length d1,.int .i64 e2]),(2,.dat (.slice q1 b2.length d1) (.ns .u8 b2)),(5,.box B2 51 [.int .i64 0,.int .i64 0,.int .i64 0,.int .i64 0,.slice none 0 0,.int .i64 0,.int .i64 0,.bool false,.int .i64 0,.slice none 0 0,.slice none 0 0]),(6,.box B3 51 [.int .i64 xq7,.int .i64 ad,.int .i64 ae,.int .i64 ag,.slice p4 aa.length c4,.int .i64 ah,.int .i64 ai,.bool (decide (aj=1)),.int .i64 ak,.slice p5 l.length c5,.slice q3 ((wsN W).map wrD).length d3]),(7,.dat (.slice p4 aa.length c4) (.ns .i64 aa)),(8,.dat (.slice p5 l.length c5) (.ns .i64 l)),(9,.row (.slice q3 ((wsN W).map wrD).length d3) 103 2 ((wsN W).map wrD))] w) (ac.toNat) ?_ ?_
   · have mz:=cX.nilR 99 103 2
     exact⟨0,[],bx,bz,_,_,_,_,_,_,_,_,_,_,rfl,by omega,rfl,⟨Nat.zero_le _,fun _=>by simpa using bB.1⟩,(fun _ h=>by cases h),bB,XL.start cw,U.only [0,2,3,4,6],mz.ren [(1,1),(2,2),(5,5),(6,6),(7,7),(8,8),(9,99)] (by decide)⟩
   clear U cX
   rintro g Y es ⟨k,W,b2,e2,B2,B3,p4,p5,q1,q3,c4,c5,d1,d3,hlk,hku,hg,hlw,hall,hRw,hxw,U,aV⟩
   refine wsk fun et cA=>zsr fun eu bE=>g9 U (.move rfl<|.move rfl<|.lss rfl rfl<|.move rfl .nil) fun Y U=>bc U 69 ?_ ?_
   ·
    intro aP U;try simp only [QQ,Qax] at aP
    have hku2:(k:Int)<ac:=by omega
    refine gz bE U (.moveZ rfl<|.nilCheckZ rfl<|.faZ 1 rfl kH<|.loadB1Z aV (i:=1) rfl rfl rfl U3 rfl<|.eqlZ rfl rfl<|.pickT rfl rfl<|.nil) fun Y U=>bc U 75 ?_ ?_
    ·
     intro al U;try simp only [QQ,Qax] at al
     have he0:e2=0:=by omega
     refine wct U<|zss<|cA _ _<|wsk fun ew cB=>wp_block ?_
     replace U:=U.oz [0,2,3,4,6]
     have aQ:=aV.oz [1,2,5,6,7,8,9]
     refine region_p 9 (B:=[(5,_),(6,_),(7,_),(8,_),(9,_)]) (aQ.to i5l) aQ (by kernel_rfl) (fun dh ao aw =>?_);clear aQ
     refine goR ao [0,1,2,3,4,5] [1] 6 0 63 U (aw.to i5l) (.fa 10 rfl U51<|.lb hh 6 U49 rfl rfl rfl<|.move rfl<|.conv rfl jV U2 (r:=(k:Int)) (IntWalk.i64_in _ (by omega))<|.add rfl rfl (r:=(k:Int)+1) (IntWalk.i64_in _ (by omega))<|.move rfl .nil) fun Y U=>so 6 ?_
     refine ecl U Tryz.func78 rfl (pE _ _ b2 e2 _ _ _ (Nat.le_trans hRw.1 hb) hRw.2.1 (aw.into [(1,1),(2,2)] (by decide) rfl)) ?_
     rintro e di ⟨aB,bF,cY,dj,dk,cZ,c0,rfl,cC,aR,bG,aC,aD⟩
     have bH:=aw.back aD [(1,1),(2,2),(200,3)] (by decide);clear aD aw
     have ax:=bH.oz [1,2,200,5,6,7,8,9]
     refine⟨_,rfl,?_⟩;intro Y U
     refine⟨ax.to i5l,?_⟩
     refine goA ao [7] 1 127 255 U (ax.to i5l) (.build rfl qr s6 rfl (by dsimp only [iY,List.set] <;> rfl) .nil) fun Y U=>so 8 ?_
     refine iN U ax 201 (mm:=2) rfl (.cons rfl rfl (.cons (.v _) (.cons (ax.rd (i:=200) rfl) .nil)) .nil) U49 pV rfl rfl rfl rfl rfl fun dl Y dm U bI=>⟨bI.to i5l,?_⟩
     have bJ:=bI.freezeR 201 rfl
     refine se 9 ?_
     refine iM U bJ 9 rfl rfl rfl (bJ.rd (i:=201) rfl) U49 pV rfl rfl (by decide) (by have:=hlw.1;have:=lf W;rw[List.length_map,List.length_singleton];omega) rfl fun dn dp Y dq U cD=>goB ao [10] 1 1023 2047 U (.fa 10 rfl U51 .nil) fun Y U=>se 11 ?_
     refine st1 U cD 6 n5 fun dr bK _ =>?_
     refine wad<|cB _ _ ?_
     replace U:=U.oz [0,2,3,4,6]
     refine wp_region_lit<|g9 U (.move rfl<|.add rfl rfl (r:=((k+1:Nat):Int)) (by rw[IntWalk.u64_in _ (by omega)];omega)<|.assign rfl .nil) fun Y U=>wpList_nil ?_
     show ∃ n',n'<_∧_
     have hE:=vf W aB
     rw[hlk] at hE
     rw[← hE] at bK
     exact⟨ac.toNat - (k+1),by omega,k+1,W++[aB],bF,_,_,_,_,_,_,_,_,_,_,_,by rw[List.length_append,hlk];rfl,by omega,rfl,⟨by rw[List.length_append,List.length_singleton];have:=hlw.2 he0;omega,fun h9=>by have h8:=(aC.2.2 h9).2;have:=hlw.2 he0;rw[List.length_append,List.length_singleton];omega⟩,lS hall ⟨by omega,fun e he=>(aR e he).2⟩,hRw.tr aC,hxw.step (by omega) (fun x hx=>bG x hx.1 hx.2),U.only [0,2,3,4,6],bK.ren [(1,1),(2,2),(5,5),(6,6),(7,7),(8,8),(9,9)] (by decide)⟩
    intro al U;try simp only [QQ,Qax] at al
    have hexW:¬ ((W.length:Int)<ac∧e2=0):=by omega
    refine wcf U<|wp_exit<|bC _ _ ?_
    replace U:=U.oz [0,2,3,4,6]
    refine zsr fun ex cE=>g9 U (.loadBR aV (i:=6) rfl rfl U51 rfl hH (by simp) (by dsimp only [List.drop,List.take] <;> rfl) .nil) fun Y U=>plz (stw U aV 5 hH fun ds bL _ =>?_)
    refine znl<|cE _ _<|rtd (kG (fn:=Tryz.f66) U bL (i:=5) rfl rfl rfl U51 rfl hH ?_)
    have cF:=bL.freezeR 9 rfl
    exact⟨⟨xq7,ad,ae,ag,aa,ah,ai,decide (aj=1),ak,l,wsN W⟩,_,_,_,_,_,_,_,_,_,_,rfl,hRw,⟨aA,hlP,by rw[lf];exact hlw.1,re hall⟩,rg hX7 aY a2 a6 ba bf bj bo bq hXP (hxw.fin hexW),cF.ren [(1,1),(2,2),(3,7),(4,8),(5,9)] (by decide)⟩
   intro aP U;try simp only [QQ,Qax] at aP
   have hexW:¬ ((W.length:Int)<ac∧e2=0):=by omega
   refine gz bE U (.sk<|.sk<|.sk<|.sk<|.sk<|.pickF rfl rfl<|.nil) fun Y U=>wcf U<|wp_exit<|bC _ _ ?_
   replace U:=U.oz [0,2,3,4,6]
   refine zsr fun ey cG=>g9 U (.loadBR aV (i:=6) rfl rfl U51 rfl hH (by simp) (by dsimp only [List.drop,List.take] <;> rfl) .nil) fun Y U=>plz (stw U aV 5 hH fun dt bM _ =>?_)
   refine znl<|cG _ _<|rtd (kG (fn:=Tryz.f66) U bM (i:=5) rfl rfl rfl U51 rfl hH ?_)
   have cH:=bM.freezeR 9 rfl
   exact⟨⟨xq7,ad,ae,ag,aa,ah,ai,decide (aj=1),ak,l,wsN W⟩,_,_,_,_,_,_,_,_,_,_,rfl,hRw,⟨aA,hlP,by rw[lf];exact hlw.1,re hall⟩,rg hX7 aY a2 a6 ba bf bj bo bq hXP (hxw.fin hexW),cH.ren [(1,1),(2,2),(3,7),(4,8),(5,9)] (by decide)⟩
 replace U:=U.oz [0,2,3,4]
 refine hC U (.assign rfl .nil) fun Y U=>wp_block<|wp_loop_ghost (fun g a w => ∃ (k:Nat) (l b1:List Int) (e1:Int) (B2 B3:Nat) (p4 q1 q3:Option Addr) (c4 d1 d3:Nat),l.length=k∧(k:Int)≤ab∧g=ab.toNat - k∧(l.length≤b.length+1∧(e1=0→l.length+b1.length≤b.length))∧RdN b er b1 e1∧XL enc (fun y:Int=>0≤y∧y≤1099511627776) 2147483648 au av ab l b1 e1∧Has 90 [(0,.pointer (some ⟨B,0,none⟩)),(2,.pointer (some ⟨B2,0,none⟩)),(3,.pointer (some ⟨B3,0,none⟩)),(4,.int .u64 ab),(5,.int .u64 (k:Int))] a∧MemOk X w0 [(1,.box B 115 [.slice q1 b1.length d1,.int .i64 e1]),(2,.dat (.slice q1 b1.length d1) (.ns .u8 b1)),(5,.box B2 51 [.int .i64 0,.int .i64 0,.int .i64 0,.int .i64 0,.slice none 0 0,.int .i64 0,.int .i64 0,.bool false,.int .i64 0,.slice none 0 0,.slice none 0 0]),(6,.box B3 51 [.int .i64 xq7,.int .i64 ad,.int .i64 ae,.int .i64 ag,.slice p4 aa.length c4,.int .i64 ah,.int .i64 ai,.bool (decide (aj=1)),.int .i64 ak,.slice q3 l.length d3,.slice none 0 0]),(7,.dat (.slice p4 aa.length c4) (.ns .i64 aa)),(8,.num (.slice q3 l.length d3) 2 .i64 l)] w) (ab.toNat) ?_ ?_
 · have mz:=cr.nilN 99 2 .i64
   exact⟨0,[],bs,bt,_,_,_,_,_,_,_,_,rfl,by omega,rfl,⟨Nat.zero_le _,fun _=>by simpa using bv.1⟩,bv,XL.start cm,U.only [0,2,3,4,5],mz.ren [(1,1),(2,2),(5,40),(6,41),(7,42),(8,99)] (by decide)⟩
 clear U cr
 rintro g Y du ⟨k,l,b1,e1,B2,B3,p4,q1,q3,c4,d1,d3,hlk,hku,hg,hlb,hRp,hxl,U,ay⟩
 refine wsk fun ez cI=>zsr fun eA bN=>g9 U (.move rfl<|.move rfl<|.lss rfl rfl<|.move rfl .nil) fun Y U=>bc U 47 ?_ ?_
 ·
  intro ap U;try simp only [QQ,Qax] at ap
  have hku2:(k:Int)<ab:=by omega
  refine gz bN U (.moveZ rfl<|.nilCheckZ rfl<|.faZ 1 rfl kH<|.loadB1Z ay (i:=1) rfl rfl rfl U3 rfl<|.eqlZ rfl rfl<|.pickT rfl rfl<|.nil) fun Y U=>bc U 53 ?_ ?_
  ·
   intro aq U;try simp only [QQ,Qax] at aq
   have he0:e1=0:=by omega
   refine wct U<|zss<|cI _ _<|wsk fun eB cJ=>wp_block ?_
   replace U:=U.oz [0,2,3,4,5,51]
   have aS:=ay.oz [1,2,5,6,7,8]
   refine region_p 6 (B:=[(5,_),(6,_),(7,_),(8,_)]) (aS.to i4l) aS (by kernel_rfl) (fun dv ar az =>?_);clear aS
   refine goR ar [0,1,2] [1] 3 0 7 U (az.to i4l) (.fa 9 rfl U51<|.lb hh 6 U48 rfl rfl rfl<|.move rfl .nil) fun Y U=>so 3 ?_
   refine ecl U Tryz.func65 rfl (iV _ _ b1 e1 1099511627776 _ _ _ (Nat.le_trans hRp.1 hb) hRp.2.1 (by decide) (az.into [(1,1),(2,2)] (by decide) rfl)) ?_
   rintro e dw ⟨c1,aE,bO,dx,dy,rfl,cK,bP,aF,aG⟩
   have bQ:=az.back aG [(1,1),(2,2)] (by decide);clear aG az
   have aT:=bQ.oz [1,2,5,6,7,8]
   refine⟨_,rfl,?_⟩;intro Y U
   refine⟨aT.to i4l,?_⟩
   have bR:RdN b er aE bO:=hRp.tr aF
   refine goA ar [4] 1 15 31 U (aT.to i4l) (.conv rfl jV U2 (IntWalk.i64_in _ (by omega)) .nil) fun Y U=>so 5 ?_
   refine iv U aT 100 (k:=.i64) rfl rfl U48 ki rfl rfl rfl rfl fun dz Y dA U aU=>⟨aU.to i4l,?_⟩
   refine se 6 ?_
   refine iC U aU 8 rfl rfl rfl (aU.numsO (i:=100) rfl) U48 ki (by decide) (by have:=hlb.1;simp;omega) rfl fun dB dC Y dD U cL=>goB ar [7] 1 127 255 U (.fa 9 rfl U51 .nil) fun Y U=>se 8 ?_
   refine st1 U cL 6 lq fun dE cM _ =>?_
   refine wad<|cJ _ _ ?_
   replace U:=U.oz [0,2,3,4,5,51]
   refine wp_region_lit<|g9 U (.move rfl<|.add rfl rfl (r:=((k+1:Nat):Int)) (by rw[IntWalk.u64_in _ (by omega)];omega)<|.assign rfl .nil) fun Y U=>wpList_nil ?_
   show ∃ n',n'<_∧_
   exact⟨ab.toNat - (k+1),by omega,k+1,_,aE,_,_,_,_,_,_,_,_,_,by rw[List.length_append,hlk];rfl,by omega,rfl,⟨by rw[List.length_append,List.length_singleton];have:=hlb.2 he0;omega,fun h9=>by have h8:=(aF.2.2 h9).2;have:=hlb.2 he0;rw[List.length_append,List.length_singleton];omega⟩,bR,hxl.step (by omega) (fun x hx=>bP x hx.1 hx.2),U.only [0,2,3,4,5],cM.ren [(1,1),(2,2),(5,5),(6,6),(7,7),(8,8)] (by decide)⟩
  intro aq U;try simp only [QQ,Qax] at aq
  have hexP:¬ ((l.length:Int)<ab∧e1=0):=by omega
  refine wcf U<|wp_exit ?_
  show cs _ _
  exact bw _ _ ⟨l,b1,e1,_,_,_,_,_,_,_,_,hlb.1,hRp,hxl.fin hexP,U.only [0,2,3],ay.ren [(1,1),(2,2),(5,5),(6,6),(7,7),(8,8)] (by decide)⟩
 intro ap U;try simp only [QQ,Qax] at ap
 have hexP:¬ ((l.length:Int)<ab∧e1=0):=by omega
 refine gz bN U (.sk<|.sk<|.sk<|.sk<|.sk<|.pickF rfl rfl<|.nil) fun Y U=>wcf U<|wp_exit ?_
 show cs _ _
 exact bw _ _ ⟨l,b1,e1,_,_,_,_,_,_,_,_,hlb.1,hRp,hxl.fin hexP,U.only [0,2,3],ay.ren [(1,1),(2,2),(5,5),(6,6),(7,7),(8,8)] (by decide)⟩
end
end Go.Proofs.YtkehgingagggaaaGreat.K
