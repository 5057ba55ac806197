/- General laws of walks. -/
import Derived.Test.YteglmahnkfgelaaGreatG17
import Derived.Test.YteglmahnkfgelaaGreatG25
namespace Go.Proofs.YteglmahnkfgelaaGreat.K
open Go.ChangeShapes Go.WideShapes Go.ChangeAt Go.RowKit
set_option linter.unusedVariables false
set_option linter.unusedSimpArgs false
set_option maxRecDepth 100000
set_option maxHeartbeats 4000000
set_option autoImplicit true
set_option relaxedAutoImplicit true
section
theorem sl(X:Cx)(h:List Ver)(p1 p2:Option Addr)(n1 c1 n2 c2:Nat)(w0:World)(hl:h.length≤1000000)(m0:MemOk X w0 [(1,.dat (.slice p1 n1 c1) (.l 2 (h.map itD))),(2,.dat (.slice p2 n2 c2) (.l 2 (h.map itD)))] w0) :
   Calls Tryz.prog 50 #[.slice p1 n1 c1,.slice p2 n2 c2] w0 fun e w'=>e=.returned (.bool true)∧MemOk X w0 [(1,.dat (.slice p1 n1 c1) (.l 2 (h.map itD))),(2,.dat (.slice p2 n2 c2) (.l 2 (h.map itD)))] w':=by
 refine mR Tryz.func50 rfl Tryz.ntmps50 fun Y U =>?_
 have hn1:n1=h.length:=nX (m0.rd (i:=1) rfl)
 have hn2:n2=h.length:=nX (m0.rd (i:=2) rfl)
 revert U
 subst hn1 hn2
 intro U
 refine la U (.assign rfl .nil) fun Y U =>?_
 refine wsk fun K0 hK0 =>?_
 refine la U (.move rfl<|.len rfl U94<|.move rfl<|.len rfl U94<|.neq rfl rfl .nil) fun Y U =>?_
 refine bcF U 10 fun U =>?_
 refine wcf U ?_
 refine zss (hK0 _ _ ?_)
 refine wsk fun K1 hK1 =>?_
 refine la U (.assign rfl .nil) fun Y U =>?_
 refine wp_block ?_
 refine wp_loop_ghost (fun g a w => ∃ (k:Nat),k≤h.length∧g=h.length - k∧Has 43 [(0,.slice p1 h.length c1),(1,.slice p2 h.length c2),(5,.int .i64 k)] a∧MemOk X w0 [(1,.dat (.slice p1 h.length c1) (.l 2 (h.map itD))),(2,.dat (.slice p2 h.length c2) (.l 2 (h.map itD)))] w) (h.length) ?_ ?_
 · exact⟨0,Nat.zero_le _,rfl,U.only [0,1,5],m0.only [1,2]⟩
 clear U m0
 rintro g Y w9 ⟨k,hkl,hg,U,m9⟩
 refine wsk fun K2 hK2 =>?_
 refine la U (.move rfl<|.move rfl<|.len rfl U94<|.lss rfl rfl .nil) fun Y U =>?_
 refine bc U 14 ?_ ?_
 ·
  intro ae U;try simp only [QQ,Qax] at ae
  have hk:k<h.length:=by have:=ae;first|omega|(simp at this;omega)
  obtain⟨⟨xs,xd⟩,hes⟩:∃ e,h[k]? = some e:=⟨_,List.getElem?_eq_getElem hk⟩
  refine wct U ?_
  refine zss (hK2 _ _ ?_)
  refine wsk fun K3 hK3 =>?_
  refine wp_block ?_
  refine wsk fun K4 hK4 =>?_
  obtain⟨aX,aY,aO,al,ao,ap,aH⟩:=m9.openR (i:=1) rfl (k) (r:=[.v (.int .i64 xs),.ns .u8 xd]) (lm hes) 100 rfl
  revert U
  cases al;clear m9 ap
  rcases ao with _|⟨ag,_|⟨aa,_|_⟩⟩
  obtain rfl:=ag.v_out
  clear ag
  obtain⟨aZ,a0,aq,aP⟩:=aa.ns_shape;subst aq
  intro U
  have aI:=aH.dat 101 rfl (aa.cast (fun _ h=>(lf rfl h)));clear aH aa
  obtain⟨a1,a2,aQ,ar,au,av,aJ⟩:=aI.openR (i:=2) rfl (k) (r:=[.v (.int .i64 xs),.ns .u8 xd]) (lm hes) 102 rfl
  revert U
  cases ar;clear aI av
  rcases au with _|⟨ah,_|⟨ab,_|_⟩⟩
  obtain rfl:=ah.v_out
  clear ah
  obtain⟨a3,a4,aw,aR⟩:=ab.ns_shape;subst aw
  intro U
  have aK:=aJ.dat 103 rfl (ab.cast (fun _ h=>(lf rfl h)));clear aJ ab
  obtain⟨a5,a6,aS,ax,ay,az,aL⟩:=aK.openR (i:=1) rfl (k) (r:=[.v (.int .i64 xs),.ns .u8 xd]) (lm hes) 104 rfl
  revert U
  cases ax;clear aK az
  rcases ay with _|⟨ai,_|⟨ac,_|_⟩⟩
  obtain rfl:=ai.v_out
  clear ai
  obtain⟨a7,a8,aA,aT⟩:=ac.ns_shape;subst aA
  intro U
  have aM:=aL.dat 105 rfl (ac.cast (fun _ h=>(lf rfl h)));clear aL ac
  obtain⟨a9,ba,aU,aB,aC,aD,aN⟩:=aM.openR (i:=2) rfl (k) (r:=[.v (.int .i64 xs),.ns .u8 xd]) (lm hes) 106 rfl
  revert U
  cases aB;clear aM aD
  rcases aC with _|⟨aj,_|⟨ad,_|_⟩⟩
  obtain rfl:=aj.v_out
  clear aj
  obtain⟨bb,bd,aE,aV⟩:=ad.ns_shape;subst aE
  intro U
  have aW:=aN.dat 107 rfl (ad.cast (fun _ h=>(lf rfl h)));clear aN ad
  have aF:=aW.oz [1,2,100,101,102,103,104,105,106,107]
  refine region_p 26 (B:=[(1,_),(2,_),(100,_),(101,_),(102,_),(103,_),(104,_),(105,_),(106,_),(107,_)]) (aF.to qt) aF (by kernel_rfl) (fun be ak aG =>?_);clear aF
  refine goR ak [0,1,2,3,4,5,6,7,8,9,10,11] [4,9] 12 0 4095 U (aG.to qt) (.move rfl<|.move rfl<|.p (fun _ _ h_=>li h_ rfl rfl U94 lN (k) rfl hk)<|.fieldAddrQ 0 rfl nf rfl (s:=0) (by kernel_rfl) rfl<|.loadC0 hh (i:=100) rfl rfl U2 rfl<|.move rfl<|.move rfl<|.p (fun _ _ h_=>li h_ rfl rfl U94 lN (k) rfl hk)<|.fieldAddrQ 0 rfl nf rfl (s:=0) (by kernel_rfl) rfl<|.loadC0 hh (i:=102) rfl rfl U2 rfl<|.neq rfl rfl<|.move rfl .nil) fun Y U =>?_
  refine bcF U 28 fun U =>?_
  refine goR ak [12,13,14,15,16,17,18,19,20,21,22,23,24,25] [16,17,22,23] 14 4095 67108863 U (aG.to qt) (.move rfl<|.move rfl<|.p (fun _ _ h_=>li h_ rfl rfl U94 lN (k) rfl hk)<|.fieldAddrQ 1 rfl nf rfl (s:=0) (by kernel_rfl) rfl<|.loadC1 hh (i:=104) (q:=1) rfl rfl rfl U22 rfl<|.str rfl (fun _ h_=>(h_.nums (i:=105) rfl)) U22 U5 U9<|.move rfl<|.move rfl<|.p (fun _ _ h_=>li h_ rfl rfl U94 lN (k) rfl hk)<|.fieldAddrQ 1 rfl nf rfl (s:=0) (by kernel_rfl) rfl<|.loadC1 hh (i:=106) (q:=1) rfl rfl rfl U22 rfl<|.str rfl (fun _ h_=>(h_.nums (i:=107) rfl)) U22 U5 U9<|.neqS rfl rfl<|.pickF rfl rfl .nil) fun Y U =>?_
  refine wad ?_
  refine hK4 _ _ ?_
  refine bcF U 42 fun U =>?_
  refine wcf U ?_
  refine zss (hK3 _ _ ?_)
  replace U:=U.oz [0,1,5]
  refine wp_region_lit ?_
  refine k9 U (.move rfl<|.inc (k+1)<|.assign rfl .nil) fun Y U =>?_
  refine wpList_nil ?_
  show ∃ n',n'<_∧_
  exact⟨h.length - (k+1),by omega,k+1,by omega,rfl,U.only [0,1,5],aG.only [1,2]⟩
 intro ae U;try simp only [QQ,Qax] at ae
 revert U
 obtain rfl:k=h.length:=by have:=ae;first|omega|(simp at this;omega)
 intro U
 refine wcf U ?_
 refine wp_exit ?_
 refine hK1 _ _ ?_
 refine la U (.assign rfl .nil) fun Y U =>?_
 refine rt1 U ?_
 exact⟨rfl,m9.only [1,2]⟩
theorem qy(X:Cx)(vo ch cn sz mk fl:Int)(H:List (List Ver))(p1 p2:Option Addr)(c1 c2:Nat)(w0:World)(hl:H.length≤1000000)(hok:∀ h∈H,h.length≤1000000)(m0:MemOk X w0 [(1,.dat (.slice p1 H.length c1) (.l 1 (H.map hD))),(2,.dat (.slice p2 H.length c2) (.l 1 (H.map hD)))] w0) :
   Calls Tryz.prog 16 #[.agg #[.int .i64 vo,.int .i64 ch,.int .i64 cn,.int .i64 sz,.int .i64 mk,.int .i64 fl,.slice p1 H.length c1],.agg #[.int .i64 vo,.int .i64 ch,.int .i64 cn,.int .i64 sz,.int .i64 mk,.int .i64 fl,.slice p2 H.length c2]] w0 fun e w'=>e=.returned (.bool true)∧MemOk X w0 [(1,.dat (.slice p1 H.length c1) (.l 1 (H.map hD))),(2,.dat (.slice p2 H.length c2) (.l 1 (H.map hD)))] w':=by
 refine mR Tryz.func16 rfl Tryz.ntmps16 fun Y U =>?_
 refine zsr fun K0 hK0 =>?_
 refine plz (ly U m0 20 (cs:=[_,_,_,_,_,_,_]) rfl rfl rfl fun g1 Y w2 U m2 _ _ =>?_)
 refine plz (ly U m2 21 (cs:=[_,_,_,_,_,_,_]) rfl rfl rfl fun g3 Y w4 U m4 _ _ =>?_)
 refine gz hK0 U (.assign rfl .nil) fun Y U =>?_
 refine wsk fun K1 hK1 =>?_
 refine zsr fun K2 hK2 =>?_
 refine k9 U (.fa 0 rfl U39<|.lb m4 20 U3 rfl rfl rfl<|.fa 0 rfl U39<|.lb m4 21 U3 rfl rfl rfl<|.neq rfl rfl<|.move rfl .nil) fun Y U =>?_
 refine bcF U 11 fun U =>?_
 refine k9 U (.faZ 1 rfl U39<|.loadB1Z m4 (i:=20) rfl rfl rfl U3 rfl<|.faZ 1 rfl U39<|.loadB1Z m4 (i:=21) rfl rfl rfl U3 rfl<|.neqZ rfl rfl<|.pickF rfl rfl<|.move rfl .nil) fun Y U =>?_
 refine bcF U 18 fun U =>?_
 refine k9 U (.faZ 2 rfl U39<|.loadB1Z m4 (i:=20) rfl rfl rfl U3 rfl<|.faZ 2 rfl U39<|.loadB1Z m4 (i:=21) rfl rfl rfl U3 rfl<|.neqZ rfl rfl<|.pickF rfl rfl<|.move rfl .nil) fun Y U =>?_
 refine bcF U 25 fun U =>?_
 refine k9 U (.faZ 3 rfl U39<|.loadB1Z m4 (i:=20) rfl rfl rfl U3 rfl<|.faZ 3 rfl U39<|.loadB1Z m4 (i:=21) rfl rfl rfl U3 rfl<|.neqZ rfl rfl<|.pickF rfl rfl<|.move rfl .nil) fun Y U =>?_
 refine bcF U 32 fun U =>?_
 refine k9 U (.faZ 4 rfl U39<|.loadB1Z m4 (i:=20) rfl rfl rfl U2 rfl<|.faZ 4 rfl U39<|.loadB1Z m4 (i:=21) rfl rfl rfl U2 rfl<|.neqZ rfl rfl<|.pickF rfl rfl<|.move rfl .nil) fun Y U =>?_
 refine bcF U 39 fun U =>?_
 refine k9 U (.faZ 5 rfl U39<|.loadB1Z m4 (i:=20) rfl rfl rfl U2 rfl<|.faZ 5 rfl U39<|.loadB1Z m4 (i:=21) rfl rfl rfl U2 rfl<|.neqZ rfl rfl<|.pickF rfl rfl<|.move rfl .nil) fun Y U =>?_
 refine bcF U 46 fun U =>?_
 refine gz hK2 U (.faZ 6 rfl U39<|.loadB1Z m4 (i:=20) rfl rfl rfl U37 rfl<|.lenZ rfl U37<|.faZ 6 rfl U39<|.loadB1Z m4 (i:=21) rfl rfl rfl U37 rfl<|.lenZ rfl U37<|.neqZ rfl rfl<|.pickF rfl rfl<|.nil) fun Y U =>?_
 refine bcF U 54 fun U =>?_
 refine wcf U ?_
 refine zss (hK1 _ _ ?_)
 refine wsk fun K3 hK3 =>?_
 replace U:=U.oz [2,3,4]
 refine la U (.assign rfl .nil) fun Y U =>?_
 refine wp_block ?_
 refine wp_loop_ghost (fun g a w => ∃ (k g1 g2:Nat),k≤H.length∧g=H.length - k∧Has 74 [(2,.pointer (some ⟨g1,0,none⟩)),(3,.pointer (some ⟨g2,0,none⟩)),(5,.int .i64 k)] a∧MemOk X w0 [(1,.dat (.slice p1 H.length c1) (.l 1 (H.map hD))),(2,.dat (.slice p2 H.length c2) (.l 1 (H.map hD))),(10,.box g1 39 [.int .i64 vo,.int .i64 ch,.int .i64 cn,.int .i64 sz,.int .i64 mk,.int .i64 fl,.slice p1 H.length c1]),(11,.box g2 39 [.int .i64 vo,.int .i64 ch,.int .i64 cn,.int .i64 sz,.int .i64 mk,.int .i64 fl,.slice p2 H.length c2])] w) (H.length) ?_ ?_
 · exact⟨0,_,_,Nat.zero_le _,rfl,U.only [2,3,5],m4.ren [(1,1),(2,2),(10,20),(11,21)] (by decide)⟩
 clear U m4
 rintro g Y aF ⟨k,g1,g2,hkl,hg,U,ag⟩
 refine wsk fun K4 hK4 =>?_
 refine la U (.move rfl<|.fa 6 rfl U39<|.lb ag 10 U37 rfl rfl rfl<|.len rfl U37<|.lss rfl rfl .nil) fun Y U =>?_
 refine bc U 59 ?_ ?_
 ·
  intro ac U;try simp only [QQ,Qax] at ac
  have hk:k<H.length:=by have:=ac;first|omega|(simp at this;omega)
  obtain⟨h9,hes⟩:∃ e,H[k]? = some e:=⟨_,List.getElem?_eq_getElem hk⟩
  have hh9:=hok _ (List.mem_of_getElem? hes)
  refine wct U ?_
  refine zss (hK4 _ _ ?_)
  refine wsk fun K5 hK5 =>?_
  refine wp_block ?_
  refine wsk fun K6 hK6 =>?_
  obtain⟨aG,aH,aA,ai,aj,ak,ax⟩:=ag.openR (i:=1) rfl (k) (r:=[.l 2 (h9.map itD)]) (mS hes) 100 rfl
  revert U
  cases ai;clear ag ak
  rcases aj with _|⟨aa,_|_⟩
  obtain⟨aI,aJ,al,aB⟩:=aa.l_shape;subst al
  intro U
  have ay:=ax.dat 101 rfl (aa.cast (fun _ h=>(lf rfl h)));clear ax aa
  obtain⟨aK,aL,aC,ao,ap,aq,az⟩:=ay.openR (i:=2) rfl (k) (r:=[.l 2 (h9.map itD)]) (mS hes) 102 rfl
  revert U
  cases ao;clear ay aq
  rcases ap with _|⟨ab,_|_⟩
  obtain⟨aM,aN,ar,aD⟩:=ab.l_shape;subst ar
  intro U
  have aE:=az.dat 103 rfl (ab.cast (fun _ h=>(lf rfl h)));clear az ab
  have au:=aE.oz [1,2,10,11,100,101,102,103]
  refine region_p 12 (B:=[(1,_),(2,_),(10,_),(11,_),(100,_),(101,_),(102,_),(103,_)]) (au.to i8l) au (by kernel_rfl) (fun aO ad ah =>?_);clear au
  refine goR ad [0,1,2,3,4,5,6,7,8,9] [1,4,6,9] 10 0 1023 U (ah.to i8l) (.fa 6 rfl U39<|.lb hh 10 U37 rfl rfl rfl<|.move rfl<|.p (fun _ _ h_=>li h_ rfl rfl U37 mJ (k) rfl hk)<|.loadC0 hh (i:=100) rfl rfl U94 rfl<|.fa 6 rfl U39<|.lb hh 11 U37 rfl rfl rfl<|.move rfl<|.p (fun _ _ h_=>li h_ rfl rfl U37 mJ (k) rfl hk)<|.loadC0 hh (i:=102) rfl rfl U94 rfl .nil) fun Y U =>?_
  refine so 10 ?_
  refine ecl U Tryz.func50 rfl (sl _ h9 _ _ _ _ _ _ _ hh9 (ah.into [(1,101),(2,103)] (by decide) rfl)) ?_
  rintro e aP ⟨rfl,ae⟩
  have av:=ah.back ae [(101,1),(103,2)] (by decide);clear ae ah
  have aw:=av.oz [101,103,1,2,10,11,100,102]
  refine⟨_,rfl,?_⟩;intro Y U
  refine⟨aw.to i8l,?_⟩
  refine goA ad [11] 1 2047 4095 U (aw.to i8l) (.not rfl .nil) fun Y U =>?_
  refine wad ?_
  refine hK6 _ _ ?_
  refine wcf U ?_
  refine zss (hK5 _ _ ?_)
  replace U:=U.oz [2,3,5]
  refine wp_region_lit ?_
  refine k9 U (.move rfl<|.inc (k+1)<|.assign rfl .nil) fun Y U =>?_
  refine wpList_nil ?_
  show ∃ n',n'<_∧_
  exact⟨H.length - (k+1),by omega,k+1,_,_,by omega,rfl,U.only [2,3,5],aw.ren [(1,1),(2,2),(10,10),(11,11)] (by decide)⟩
 intro ac U;try simp only [QQ,Qax] at ac
 revert U
 obtain rfl:k=H.length:=by have:=ac;first|omega|(simp at this;omega)
 intro U
 refine wcf U ?_
 refine wp_exit ?_
 refine hK3 _ _ ?_
 refine la U (.assign rfl .nil) fun Y U =>?_
 refine rt1 U ?_
 exact⟨rfl,ag.only [1,2]⟩
end
section
section
variable {P:Program} {n:Nat} {T:List (Nat×Value)} {a:Act} {w w0:World} {X:Cx} {M:Mm}
theorem qa(ha:Has n T a)(m:MemOk X w0 M w){fn:Func}{t u s:Tmp}{ty ty2:TypeId}{td td2:TypeDesc}{i g i2 g2:Nat}{e e2:TypeId}{cs cs2:List Value}{x:Value}{R:Ending→World→Prop}(hr:fn.results=#[.cell t ty,.tmp u,.cell s ty2])(hv:lk T t=some (.pointer (some ⟨g,0,none⟩)))(hvu:lk T u=some x)(hv2:lk T s=some (.pointer (some ⟨g2,0,none⟩)))(hm:lk M i=some (.box g e cs))(hm2:lk M i2=some (.box g2 e2 cs2))(hu:P.underlying ty=some td)(hd:td.isRow=true)(hs:(P.info? ty).map (·.size)=some cs.length)(hu2:P.underlying ty2=some td2)(hd2:td2.isRow=true)(hs2:(P.info? ty2).map (·.size)=some cs2.length)(h:R (.returned (.tuple #[.agg cs.toArray,x,.agg cs2.toArray])) w):bodyPost P fn R .ret a w:=
 ⟨ha.d,_,by
   have h1:=ha.h t _ hv
   have h2:=ha.h s _ hv2
   have h3:=ha.h u _ hvu
   rw[Array.getD_eq_getD_getElem?] at h1 h2 h3
   simp [results,hr,h1,h2,h3,asAddr,ms m hm hu hd hs,ms m hm2 hu2 hd2 hs2],h⟩
end
theorem yH{x:Int}{n:Nat}(hx:0≤x):∃ mk:Nat,x.tmod ((n:Int)+1)=(mk:Int)∧mk≤n:=by
 rw[Int.tmod_eq_emod_of_nonneg hx]
 have h1:=Int.emod_nonneg x (show(n:Int)+1≠0 by omega)
 have h2:=Int.emod_lt_of_pos x (show(0:Int)<(n:Int)+1 by omega)
 exact⟨(x % ((n:Int)+1)).toNat,by omega,by omega⟩
theorem yh(l:List Int)(pl:Option Addr)(cl n1 nm:Nat)(w0:World)(hn:n1≤255)(hnm:nm≤255)(hl80:l.length≤80)(h1:Rd (fun _=>True) w0 (.slice pl l.length cl) (.ns .u8 l))(hlb:∀ j,j<l.length→0≤l.getD j 0∧l.getD j 0≤255) :
   Calls Tryz.prog 9 #[.slice pl l.length cl,.int .u8 (n1:Int),.int .u8 (nm:Int)] w0 fun e w' => ∃ (y:VolV) (k fn cnt mk:Nat) (pp pn pw pq:Option Addr) (cp nn9 cn9 cw cq:Nat),VolS l.length y∧CkOk y k fn cnt∧mk≤y.ws.length∧e=.returned (.tuple #[.agg #[.int .i64 y.vo,.int .i64 y.bl,.int .i64 y.sz,.int .i64 y.pe,.slice pp y.place.length cp,.int .i64 y.to,.int .i64 y.ne,.bool y.hi,.int .i64 y.fl,.slice pn nn9 cn9,.slice pw (y.ws.map wrD).length cw],.int .i64 (k:Int),.agg #[.int .i64 y.vo,.int .i64 (k:Int),.int .i64 (cnt:Int),.int .i64 y.sz,.int .i64 (mk:Int),.int .i64 (tqN y mk:Int),.int .i64 (min y.fl (tqN y mk:Int)),.slice pq (pwN y fn cnt mk).length cq]])∧Rd (New w0) w' (.slice pw (y.ws.map wrD).length cw) (.l 2 (y.ws.map wrD))∧Rd (New w0) w' (.slice pq (pwN y fn cnt mk).length cq) (.l 2 ((pwN y fn cnt mk).map wrD))∧Below w0.heap.size w0 w':=by
 refine qr Tryz.func9 rfl Tryz.ntmps9 fun Y U =>?_
 have m0:=MemOk.start (fun _=>False) w0
 refine zsr fun K0 hK0 =>?_
 refine plz (lc U m0 70 mo rfl fun g1 Y w2 U m2 _ _ =>?_)
 refine k9 U (.assign rfl .nil) fun Y U =>?_
 refine plz (lc U m2 71 mL rfl fun g4 Y w5 U m5 _ _ =>?_)
 refine znl (hK0 _ _ ?_)
 refine zsr fun K1 hK1 =>?_
 refine k9 U (.move rfl .nil) fun Y U =>?_
 refine plz (ecl U Tryz.func31 rfl (wu l _ _ _ ((h1.now' m5 rfl).any) (by omega) hlb) ?_)
 rintro e w8 ⟨y,a0,a1,a2,a3,a4,a5,rfl,hS,hd8,he8,hf8,hb8⟩
 have m9:=m5.callF3 72 73 74 rfl rfl rfl hb8 hd8 he8 hf8
 clear hb8 hd8 he8 hf8
 have hF:VolF y:=hS.f (by omega)
 have hwo:rT y.ws:=hS.1.its.1
 have aP:y.ws.length≤80:=by have:=hS.2.2.2.1;omega
 have hf0:=hF.fl0
 have hf1:=hF.fl1
 have hwl:=hF.wl
 have hvb:=hF.bl
 have hvp:=hF.pe
 have hpl:0<y.place.length:=uT hS
 have hpl2:y.place.length≤1000:=uU hS
 obtain⟨k,hk⟩:∃ k:Nat,n1 % y.place.length=k:=⟨_,rfl⟩
 have hkp:k<y.place.length:=by rw[← hk];exact Nat.mod_lt _ hpl
 obtain⟨fn,cnt,hC⟩:=Ay hS hkp
 have hc1:=hC.pos
 have hc2:=hC.c256
 have hc3:=hC.fnb
 have hc4:=hC.top
 have hc5:=hC.k255
 have hc6:=hC.fe
 refine⟨_,rfl,?_⟩;intro Y U
 refine plz (lc U m9 75 mo rfl fun a6 Y a7 U aQ _ _ =>?_)
 refine plz (stw U aQ 75 ld fun a8 aK _ =>?_)
 refine znl (hK1 _ _ ?_)
 refine la U (.move rfl<|.conv rfl U5 U3 (r:=(n1:Int)) (IntWalk.i64_in _ (by omega))<|.fa 4 rfl U34<|.lb aK 75 U31 rfl rfl rfl<|.len rfl U31<|.rem rfl rfl (by omega) (r:=(k:Int)) (by rw[xr,hk])<|.assign rfl .nil) fun Y U =>?_
 refine wsk fun K2 hK2 =>?_
 replace U:=U.oz [2,6,7,8,9,10]
 obtain⟨mk,hmke,hmkn⟩:=yH (x:=(nm:Int)) (n:=y.ws.length) (by omega)
 have az:=aK.oz [70,71,72,73,74,75]
 refine region_p 13 (B:=[(70,_),(71,_),(72,_),(73,_),(74,_),(75,_)]) (az.to i6l) az (by kernel_rfl) (fun a9 aa aA =>?_);clear az
 refine goR aa [0,1,2,3,4] [0,4] 5 0 31 U (aA.to i6l) (.loadBR hh (i:=75) rfl rfl U34 rfl ld (by simp) (by dsimp only [List.drop,List.take] <;> rfl)<|.move rfl<|.move rfl<|.conv rfl U5 U2 (r:=(nm:Int)) (IntWalk.i64_in _ (by omega))<|.loadBR hh (i:=75) rfl rfl U34 rfl ld (by simp) (by dsimp only [List.drop,List.take] <;> rfl) .nil) fun Y U =>?_
 refine dtw 5 12 ?_ ?_
 ·
  refine ecb U Tryz.func37 rfl aA (uy y _ _ _ _ _ _ _ _ _) fun Y ba U ah =>?_
  refine⟨fun _=>(ah.to i6l),?_⟩
  refine goA aa [6,7] 2 63 255 U (ah.to i6l) (.add rfl rfl (r:=(y.ws.length:Int)+1) (IntWalk.i64_in _ (by omega))<|.rem rfl rfl (by omega) (r:=(mk:Int)) hmke .nil) fun Y U =>?_
  refine dtw 8 12 ?_ ?_
  ·
   refine ecl U Tryz.func36 rfl (pD _ y k fn cnt mk hC hF hwo _ _ _ _ _ _ _ _ _ rfl hmkn (ah.into [(3,74)] (by decide) rfl)) ?_
   rintro e bb ⟨bd,be,rfl,ai⟩
   have aB:=ah.back ai [(74,3),(76,9)] (by decide);clear ai ah
   have aC:=aB.oz [74,76,70,71,72,73,75]
   refine⟨_,rfl,?_⟩;intro Y U
   refine⟨fun _=>(aC.to i6l),?_⟩
   refine goA aa [9,10,11] 3 511 4095 U (aC.to i6l) (.move rfl<|.extract rfl rfl<|.extract rfl rfl .nil) fun Y U =>?_
   refine so 12 ?_
   refine lc U aC 77 mL rfl fun bf Y bg U aL _ _ =>?_
   refine⟨aL.to i6l,?_⟩
   refine se 13 ?_
   refine stw U aL 77 lF fun bh aR _ =>?_
   refine goB aa [14] 1 16383 32767 U (.assign rfl .nil) fun Y U =>?_
   refine wad ?_
   refine hK2 _ _ ?_
   refine wsk fun K3 hK3 =>?_
   replace U:=U.oz [6,7,8,9,10,25,11]
   have aD:=aR.oz [70,71,72,73,74,75,76,77]
   refine region_p 3 (B:=[(70,_),(71,_),(72,_),(73,_),(74,_),(75,_),(76,_),(77,_)]) (aD.to i8l) aD (by kernel_rfl) (fun bi ad aj =>?_);clear aD
   refine goR ad [0,1] [0] 2 0 3 U (aj.to i8l) (.loadBR hh (i:=75) rfl rfl U34 rfl ld (by simp) (by dsimp only [List.drop,List.take] <;> rfl)<|.move rfl .nil) fun Y U =>?_
   refine dtw 2 3 ?_ ?_
   ·
    refine e_y U rfl (mI U aj (i:=77) rfl rfl U25 rfl lF (by simp) (by dsimp only [List.drop,List.take] <;> rfl)) fun Y U =>?_
    refine⟨fun _=>(aj.to i8l),?_⟩
    refine se 3 ?_
    refine stw U aj 70 ld fun bj aS _ =>?_
    refine goB ad [4] 1 15 31 U (.assign rfl .nil) fun Y U =>?_
    refine se 5 ?_
    refine stw U aS 71 lF fun bk au _ =>?_
    refine wad ?_
    refine hK3 _ _ ?_
    refine rtd (qa (fn:=Tryz.f9) U au (i:=70) (i2:=71) rfl rfl rfl rfl rfl rfl U34 rfl ld U25 rfl lF ?_)
    exact⟨y,k,fn,cnt,mk,_,_,_,_,_,_,_,_,_,hS,hC,hmkn,rfl,au.outF (i:=74) rfl,au.outF (i:=76) rfl,au.below⟩
   refine stw U aj 70 ld fun bm aM _ =>?_
   refine⟨fun h=>(Bool.false_ne_true (h.symm.trans (by rfl))).elim,?_⟩
   refine goB ad [4] 1 11 27 U (.assign rfl .nil) fun Y U =>?_
   refine se 2 ?_
   refine e_y U rfl (mI U aM (i:=77) rfl rfl U25 rfl lF (by simp) (by dsimp only [List.drop,List.take] <;> rfl)) fun Y U =>?_
   refine se 5 ?_
   refine stw U aM 71 lF fun bn av _ =>?_
   refine wad ?_
   refine hK3 _ _ ?_
   refine rtd (qa (fn:=Tryz.f9) U av (i:=70) (i2:=71) rfl rfl rfl rfl rfl rfl U34 rfl ld U25 rfl lF ?_)
   exact⟨y,k,fn,cnt,mk,_,_,_,_,_,_,_,_,_,hS,hC,hmkn,rfl,av.outF (i:=74) rfl,av.outF (i:=76) rfl,av.below⟩
  refine lc U ah 76 mL rfl fun bo Y bp U aw _ _ =>?_
  refine⟨fun _=>(aw.to i6l),?_⟩
  refine so 8 ?_
  refine ecl U Tryz.func36 rfl (pD _ y k fn cnt mk hC hF hwo _ _ _ _ _ _ _ _ _ rfl hmkn (aw.into [(3,74)] (by decide) rfl)) ?_
  rintro e bq ⟨br,bs,rfl,ak⟩
  have aE:=aw.back ak [(74,3),(77,9)] (by decide);clear ak aw
  have aF:=aE.oz [74,77,70,71,72,73,75,76]
  refine⟨_,rfl,?_⟩;intro Y U
  refine⟨aF.to i6l,?_⟩
  refine goA aa [9,10,11] 3 4607 8191 U (aF.to i6l) (.move rfl<|.extract rfl rfl<|.extract rfl rfl .nil) fun Y U =>?_
  refine se 13 ?_
  refine stw U aF 76 lF fun bt aT _ =>?_
  refine goB aa [14] 1 16383 32767 U (.assign rfl .nil) fun Y U =>?_
  refine wad ?_
  refine hK2 _ _ ?_
  refine wsk fun K4 hK4 =>?_
  replace U:=U.oz [6,7,8,9,10,25,11]
  have aG:=aT.oz [70,71,72,73,74,75,76,77]
  refine region_p 3 (B:=[(70,_),(71,_),(72,_),(73,_),(74,_),(75,_),(76,_),(77,_)]) (aG.to i8l) aG (by kernel_rfl) (fun bu ae al =>?_);clear aG
  refine goR ae [0,1] [0] 2 0 3 U (al.to i8l) (.loadBR hh (i:=75) rfl rfl U34 rfl ld (by simp) (by dsimp only [List.drop,List.take] <;> rfl)<|.move rfl .nil) fun Y U =>?_
  refine dtw 2 3 ?_ ?_
  ·
   refine e_y U rfl (mI U al (i:=76) rfl rfl U25 rfl lF (by simp) (by dsimp only [List.drop,List.take] <;> rfl)) fun Y U =>?_
   refine⟨fun _=>(al.to i8l),?_⟩
   refine se 3 ?_
   refine stw U al 70 ld fun bv aU _ =>?_
   refine goB ae [4] 1 15 31 U (.assign rfl .nil) fun Y U =>?_
   refine se 5 ?_
   refine stw U aU 71 lF fun bw ax _ =>?_
   refine wad ?_
   refine hK4 _ _ ?_
   refine rtd (qa (fn:=Tryz.f9) U ax (i:=70) (i2:=71) rfl rfl rfl rfl rfl rfl U34 rfl ld U25 rfl lF ?_)
   exact⟨y,k,fn,cnt,mk,_,_,_,_,_,_,_,_,_,hS,hC,hmkn,rfl,ax.outF (i:=74) rfl,ax.outF (i:=77) rfl,ax.below⟩
  refine stw U al 70 ld fun bx aN _ =>?_
  refine⟨fun h=>(Bool.false_ne_true (h.symm.trans (by rfl))).elim,?_⟩
  refine goB ae [4] 1 11 27 U (.assign rfl .nil) fun Y U =>?_
  refine se 2 ?_
  refine e_y U rfl (mI U aN (i:=76) rfl rfl U25 rfl lF (by simp) (by dsimp only [List.drop,List.take] <;> rfl)) fun Y U =>?_
  refine se 5 ?_
  refine stw U aN 71 lF fun bz ay _ =>?_
  refine wad ?_
  refine hK4 _ _ ?_
  refine rtd (qa (fn:=Tryz.f9) U ay (i:=70) (i2:=71) rfl rfl rfl rfl rfl rfl U34 rfl ld U25 rfl lF ?_)
  exact⟨y,k,fn,cnt,mk,_,_,_,_,_,_,_,_,_,hS,hC,hmkn,rfl,ay.outF (i:=74) rfl,ay.outF (i:=77) rfl,ay.below⟩
 refine lc U aA 76 mL rfl fun bA Y bB U aO _ _ =>?_
 refine⟨fun _=>(aO.to i6l),?_⟩
 refine so 5 ?_
 refine ecb U Tryz.func37 rfl aO (uy y _ _ _ _ _ _ _ _ _) fun Y bC U ao =>?_
 refine⟨ao.to i6l,?_⟩
 refine goA aa [6,7] 2 4159 4351 U (ao.to i6l) (.add rfl rfl (r:=(y.ws.length:Int)+1) (IntWalk.i64_in _ (by omega))<|.rem rfl rfl (by omega) (r:=(mk:Int)) hmke .nil) fun Y U =>?_
 refine so 8 ?_
 refine ecl U Tryz.func36 rfl (pD _ y k fn cnt mk hC hF hwo _ _ _ _ _ _ _ _ _ rfl hmkn (ao.into [(3,74)] (by decide) rfl)) ?_
 rintro e bE ⟨bF,bG,rfl,ap⟩
 have aH:=ao.back ap [(74,3),(77,9)] (by decide);clear ap ao
 have aI:=aH.oz [74,77,70,71,72,73,75,76]
 refine⟨_,rfl,?_⟩;intro Y U
 refine⟨aI.to i6l,?_⟩
 refine goA aa [9,10,11] 3 4607 8191 U (aI.to i6l) (.move rfl<|.extract rfl rfl<|.extract rfl rfl .nil) fun Y U =>?_
 refine se 13 ?_
 refine stw U aI 76 lF fun bH aV _ =>?_
 refine goB aa [14] 1 16383 32767 U (.assign rfl .nil) fun Y U =>?_
 refine wad ?_
 refine hK2 _ _ ?_
 refine wsk fun K5 hK5 =>?_
 replace U:=U.oz [6,7,8,9,10,25,11]
 have aJ:=aV.oz [70,71,72,73,74,75,76,77]
 refine region_p 3 (B:=[(70,_),(71,_),(72,_),(73,_),(74,_),(75,_),(76,_),(77,_)]) (aJ.to i8l) aJ (by kernel_rfl) (fun bI ag aq =>?_);clear aJ
 refine goR ag [0,1] [0] 2 0 3 U (aq.to i8l) (.loadBR hh (i:=75) rfl rfl U34 rfl ld (by simp) (by dsimp only [List.drop,List.take] <;> rfl)<|.move rfl .nil) fun Y U =>?_
 refine dtw 2 3 ?_ ?_
 ·
  refine e_y U rfl (mI U aq (i:=76) rfl rfl U25 rfl lF (by simp) (by dsimp only [List.drop,List.take] <;> rfl)) fun Y U =>?_
  refine⟨fun _=>(aq.to i8l),?_⟩
  refine se 3 ?_
  refine stw U aq 70 ld fun bJ aW _ =>?_
  refine goB ag [4] 1 15 31 U (.assign rfl .nil) fun Y U =>?_
  refine se 5 ?_
  refine stw U aW 71 lF fun aX ab _ =>?_
  refine wad ?_
  refine hK5 _ _ ?_
  refine rtd (qa (fn:=Tryz.f9) U ab (i:=70) (i2:=71) rfl rfl rfl rfl rfl rfl U34 rfl ld U25 rfl lF ?_)
  exact⟨y,k,fn,cnt,mk,_,_,_,_,_,_,_,_,_,hS,hC,hmkn,rfl,ab.outF (i:=74) rfl,ab.outF (i:=77) rfl,ab.below⟩
 refine stw U aq 70 ld fun aY ar _ =>?_
 refine⟨fun h=>(Bool.false_ne_true (h.symm.trans (by rfl))).elim,?_⟩
 refine goB ag [4] 1 11 27 U (.assign rfl .nil) fun Y U =>?_
 refine se 2 ?_
 refine e_y U rfl (mI U ar (i:=76) rfl rfl U25 rfl lF (by simp) (by dsimp only [List.drop,List.take] <;> rfl)) fun Y U =>?_
 refine se 5 ?_
 refine stw U ar 71 lF fun aZ ac _ =>?_
 refine wad ?_
 refine hK5 _ _ ?_
 refine rtd (qa (fn:=Tryz.f9) U ac (i:=70) (i2:=71) rfl rfl rfl rfl rfl rfl U34 rfl ld U25 rfl lF ?_)
 exact⟨y,k,fn,cnt,mk,_,_,_,_,_,_,_,_,_,hS,hC,hmkn,rfl,ac.outF (i:=74) rfl,ac.outF (i:=77) rfl,ac.below⟩
end
end Go.Proofs.YteglmahnkfgelaaGreat.K
