/- General laws of walks. -/
import Derived.Test.YteglmahnkfgelaaGreatG9
namespace Go.Proofs.YteglmahnkfgelaaGreat.K
open Go.ChangeShapes Go.WideShapes Go.ChangeAt Go.RowKit
set_option linter.unusedVariables false
set_option linter.unusedSimpArgs false
set_option maxRecDepth 100000
set_option maxHeartbeats 4000000
set_option autoImplicit true
set_option relaxedAutoImplicit true
section
def A1(es:List (Int×List Int)):Prop:=∀ e∈es,e.2.length≤1000∧lg e.2
theorem zV(xs:List Int)(q:Option Addr)(cq:Nat)(w0:World)(h0:Rd (fun _=>True) w0 (.slice q xs.length cq) (.ns .i64 xs))(hl:xs.length≤1000000) :
   Calls Tryz.prog 106 #[.slice q xs.length cq] w0 fun e w' => ∃ (b:List Int) (p:Option Addr) (c:Nat),e=.returned (.slice p b.length c)∧b.length≤10+10*xs.length∧lg b∧w'.ownsRow w0.heap.size 5 1 (.slice p b.length c) b.length (b.map (Value.int .u8))∧Below w0.heap.size w0 w':=by
 refine mp Tryz.func106 rfl Tryz.ntmps106 fun Y U =>?_
 have m0:=MemOk.start (fun _=>False) w0
 refine la U (.assign rfl .nil) fun Y U =>?_
 refine zsr fun K0 hK0 =>?_
 refine k9 U (.move rfl<|.len rfl U31 .nil) fun Y U =>?_
 refine plz (lj U m0 20 (k:=.i64) rfl rfl U32 lS rfl rfl rfl rfl fun g6 Y w7 U m7 =>?_)
 have m8:=m7.freezeN 20 rfl
 refine plz (ecl U Tryz.func105 rfl (sv [(xs.length:Int)] _ _ _ ((m8.rd (i:=20) rfl).any) (by simp)) ?_)
 rintro e w9 ⟨d0,p9,c9,rfl,hld0,hbd0,ho9,hb9⟩
 have ah:=m8.newN 21 hb9 ho9
 refine⟨_,rfl,?_⟩;intro Y U
 refine gz hK0 U (.assign rfl .nil) fun Y U =>?_
 refine wsk fun K1 hK1 =>?_
 refine la U (.assign rfl .nil) fun Y U =>?_
 refine wp_block ?_
 refine wp_loop_ghost (fun g a w => ∃ (k:Nat) (b:List Int) (p:Option Addr) (c:Nat),k≤xs.length∧g=xs.length - k∧b.length≤10+10*k∧lg b∧Has 24 [(0,.slice q xs.length cq),(3,.slice p b.length c),(4,.int .i64 k)] a∧MemOk (cn w0) w0 [(9,.num (.slice p b.length c) 5 .u8 b)] w) (xs.length) ?_ ?_
 · exact⟨0,d0,_,_,Nat.zero_le _,rfl,by simpa using hld0,hbd0,U.only [0,3,4],ah.ren [(9,21)] (by decide)⟩
 clear U ah
 rintro g Y ar ⟨k,b,p,c,hkl,hg,hbl,hbb,U,ac⟩
 refine wsk fun K2 hK2 =>?_
 refine la U (.move rfl<|.move rfl<|.len rfl U31<|.lss rfl rfl .nil) fun Y U =>?_
 refine bc U 12 ?_ ?_
 ·
  intro aa U;try simp only [QQ,Qax] at aa
  have hk:k<xs.length:=by omega
  refine wct U ?_
  refine zss (hK2 _ _ ?_)
  refine wsk fun K3 hK3 =>?_
  refine wp_block ?_
  refine wp_region_lit ?_
  refine k9 U (.move rfl<|.move rfl<|.move rfl .nil) fun Y U =>?_
  obtain⟨ak,al,ad,ao,ab⟩:=h0.extN (k) hk
  revert U
  cases ad
  intro U
  refine k9 U (.c rfl (fun _ h_=>li h_ rfl rfl U31 ma (k) rfl hk)<|.loadAt1 (ab ac rfl) (q:=0) rfl rfl rfl U3 rfl .nil) fun Y U =>?_
  refine plz (lj U ac 100 (k:=.i64) rfl rfl U32 lS rfl rfl rfl rfl fun au Y av U ap =>?_)
  have ai:=ap.freezeN 100 rfl
  refine plz (ecl U Tryz.func105 rfl (sv [xs.getD k 0] _ _ _ ((ai.rd (i:=100) rfl).any) (by simp)) ?_)
  rintro e aw ⟨d1,ax,ay,rfl,hld1,hbd1,ae,ag⟩
  have aj:=ai.newN 101 ag ae
  refine⟨_,rfl,?_⟩;intro Y U
  refine plz (lE U aj 9 rfl rfl rfl (aj.numsO (i:=101) rfl) U22 lJ (by decide) (by simp at hld1 ⊢;omega) rfl fun az aA Y aB U aq =>?_)
  refine gz hK3 U (.assign rfl .nil) fun Y U =>?_
  replace U:=U.oz [0,3,4]
  refine wp_region_lit ?_
  refine k9 U (.move rfl<|.inc (k+1)<|.assign rfl .nil) fun Y U =>?_
  refine wpList_nil ?_
  show ∃ n',n'<_∧_
  exact⟨xs.length - (k+1),by omega,k+1,_,_,_,by omega,rfl,by simp at hld1 ⊢;omega,mE hbb hbd1,U.only [0,3,4],aq.only [9]⟩
 intro aa U;try simp only [QQ,Qax] at aa
 revert U
 obtain rfl:k=xs.length:=by omega
 intro U
 refine wcf U ?_
 refine wp_exit ?_
 refine hK1 _ _ ?_
 refine la U (.move rfl<|.assign rfl .nil) fun Y U =>?_
 refine rt1 U ?_
 exact⟨_,_,_,rfl,hbl,hbb,ac.ok 9 _ rfl,ac.below⟩
theorem ve(es:List (Int×List Int))(q:Option Addr)(nn cq:Nat)(w0:World)(h0:Rd (fun _=>True) w0 (.slice q nn cq) (.l 2 (es.map itD)))(hl:es.length≤10000)(hok:A1 es) :
   Calls Tryz.prog 43 #[.slice q nn cq] w0 fun e w' => ∃ (b:List Int) (p:Option Addr) (c:Nat),e=.returned (.slice p b.length c)∧b.length≤10+1020*es.length∧lg b∧w'.ownsRow w0.heap.size 5 1 (.slice p b.length c) b.length (b.map (Value.int .u8))∧Below w0.heap.size w0 w':=by
 obtain rfl:nn=es.length:=by obtain⟨pq,c9,hv,_⟩:=h0.l_shape;injection hv with _ e2 _;rw[List.length_map] at e2;exact e2
 refine mp Tryz.func43 rfl Tryz.ntmps43 fun Y U =>?_
 have m0:=MemOk.start (fun _=>False) w0
 refine la U (.assign rfl .nil) fun Y U =>?_
 refine zsr fun K0 hK0 =>?_
 refine k9 U (.move rfl<|.len rfl U28 .nil) fun Y U =>?_
 refine plz (lj U m0 20 (k:=.i64) rfl rfl U32 lS rfl rfl rfl rfl fun g6 Y w7 U m7 =>?_)
 have m8:=m7.freezeN 20 rfl
 refine plz (ecl U Tryz.func42 rfl (vd [(es.length:Int)] _ _ _ ((m8.rd (i:=20) rfl).any) (by simp)) ?_)
 rintro e w9 ⟨d0,p9,c9,rfl,hld0,hbd0,ho9,hb9⟩
 have aD:=m8.newN 21 hb9 ho9
 refine⟨_,rfl,?_⟩;intro Y U
 refine gz hK0 U (.assign rfl .nil) fun Y U =>?_
 refine wsk fun K1 hK1 =>?_
 refine la U (.assign rfl .nil) fun Y U =>?_
 refine wp_block ?_
 refine wp_loop_ghost (fun g a w => ∃ (k:Nat) (b:List Int) (p:Option Addr) (c:Nat),k≤es.length∧g=es.length - k∧b.length≤10+1020*k∧lg b∧Has 32 [(0,.slice q es.length cq),(3,.slice p b.length c),(4,.int .i64 k)] a∧MemOk (cn w0) w0 [(9,.num (.slice p b.length c) 5 .u8 b)] w) (es.length) ?_ ?_
 · exact⟨0,d0,_,_,Nat.zero_le _,rfl,by simpa using hld0,hbd0,U.only [0,3,4],aD.ren [(9,21)] (by decide)⟩
 clear U aD
 rintro g Y aR ⟨k,b,p,c,hkl,hg,hbl,hbb,U,aj⟩
 refine wsk fun K2 hK2 =>?_
 refine la U (.move rfl<|.move rfl<|.len rfl U28<|.lss rfl rfl .nil) fun Y U =>?_
 refine bc U 12 ?_ ?_
 ·
  intro ad U;try simp only [QQ,Qax] at ad
  have hk:k<es.length:=by omega
  obtain⟨⟨xb,xd⟩,hes⟩:∃ e,es[k]? = some e:=⟨_,List.getElem?_eq_getElem hk⟩
  have hed:=hok _ (List.mem_of_getElem? hes)
  dsimp only at hed
  refine wct U ?_
  refine zss (hK2 _ _ ?_)
  refine wsk fun K3 hK3 =>?_
  refine wp_block ?_
  obtain⟨aH,aI,aJ,ak,aK,al,ag⟩:=h0.extA (k) (r:=[.v (.int .i64 xb),.ns .u8 xd]) (lm hes)
  revert U
  cases ak
  rcases al with _|⟨aa,_|⟨ae,_|_⟩⟩
  obtain rfl:=aa.v_out
  clear aa
  obtain⟨aS,aT,ao,aL⟩:=ae.ns_shape;subst ao
  intro U
  obtain⟨aM,aN,aO,ap,aP,aq,ah⟩:=h0.extA (k) (r:=[.v (.int .i64 xb),.ns .u8 xd]) (lm hes)
  revert U
  cases ap
  rcases aq with _|⟨ab,_|⟨ac,_|_⟩⟩
  obtain rfl:=ab.v_out
  clear ab
  obtain⟨aU,aV,ar,aQ⟩:=ac.ns_shape;subst ar
  intro U
  have au:=aj.oz [9]
  refine region_p 17 (B:=[]) (au.to trivial) au (by kernel_rfl) (fun aW ai aE =>?_);clear au
  refine goR ai [0,1,2,3,4,5,9,10,11,12,13] [5,13] 11 0 15935 U (aE.to trivial) (.move rfl<|.move rfl<|.move rfl<|.p (fun _ _ h_=>li h_ rfl rfl U28 lX (k) rfl hk)<|.fieldAddrQ 0 rfl U78 rfl (s:=0) (by kernel_rfl) rfl<|.loadAt1 (fun _ h_=>(ag h_ rfl)) (q:=0) rfl rfl rfl U3 rfl<|.move rfl<|.move rfl<|.p (fun _ _ h_=>li h_ rfl rfl U28 lX (k) rfl hk)<|.fieldAddrQ 1 rfl U78 rfl (s:=0) (by kernel_rfl) rfl<|.loadAt1 (fun _ h_=>(ah h_ rfl)) (q:=1) rfl rfl rfl U22 rfl .nil) fun Y U =>?_
  refine so 6 ?_
  refine lj U aE 102 (k:=.i64) rfl rfl U32 lS rfl rfl rfl rfl fun aX Y aY U aF =>?_
  refine⟨aF.to trivial,?_⟩
  have aG:=aF.freezeN 102 rfl
  refine so 7 ?_
  refine ecl U Tryz.func42 rfl (vd [xb] _ _ _ ((aG.rd (i:=102) rfl).any) (by simp)) ?_
  rintro e aZ ⟨d1,a0,a1,rfl,hld1,hbd1,av,aw⟩
  have ax:=aG.newN 103 aw av
  refine⟨_,rfl,?_⟩;intro Y U
  refine⟨ax.to trivial,?_⟩
  refine so 8 ?_
  refine lE U ax 9 rfl rfl rfl (ax.numsO (i:=103) rfl) U22 lJ (by decide) (by simp at hld1 ⊢;omega) rfl fun a2 a3 Y a4 U ay =>?_
  refine⟨ay.to trivial,?_⟩
  refine so 14 ?_
  refine ecl U Tryz.func66 rfl (AC xd _ _ _ ((ac.now' ay rfl).any) (by omega) hed.2) ?_
  rintro e a5 ⟨d2,a6,a7,rfl,hld2,hbd2,az,aA⟩
  have aB:=ay.newN 104 aA az
  refine⟨_,rfl,?_⟩;intro Y U
  refine⟨aB.to trivial,?_⟩
  refine so 15 ?_
  refine lE U aB 9 rfl rfl rfl (aB.numsO (i:=104) rfl) U22 lJ (by decide) (by simp at hld1 ⊢;omega) rfl fun a8 a9 Y ba U aC =>?_
  refine⟨aC.to trivial,?_⟩
  refine goA ai [16] 1 65535 131071 U (aC.to trivial) (.assign rfl .nil) fun Y U =>?_
  refine wad ?_
  refine hK3 _ _ ?_
  replace U:=U.oz [0,3,4]
  refine wp_region_lit ?_
  refine k9 U (.move rfl<|.inc (k+1)<|.assign rfl .nil) fun Y U =>?_
  refine wpList_nil ?_
  show ∃ n',n'<_∧_
  exact⟨es.length - (k+1),by omega,k+1,_,_,_,by omega,rfl,by simp at hld1 ⊢;omega,mE (mE hbb hbd1) hbd2,U.only [0,3,4],aC.only [9]⟩
 intro ad U;try simp only [QQ,Qax] at ad
 revert U
 obtain rfl:k=es.length:=by omega
 intro U
 refine wcf U ?_
 refine wp_exit ?_
 refine hK1 _ _ ?_
 refine la U (.move rfl<|.assign rfl .nil) fun Y U =>?_
 refine rt1 U ?_
 exact⟨_,_,_,rfl,hbl,hbb,aj.ok 9 _ rfl,aj.below⟩
end
section
theorem zY:lR Tryz.prog 78 [.int .i64 0,.slice none 0 0]=true:=by kernel_rfl
theorem wU{es:List (Int×List Int)}{x:Int×List Int}(h:(∀ e∈es,e.2.length≤32∧lg e.2))(hx:x.2.length≤32∧lg x.2):∀ e∈es++[x],e.2.length≤32∧lg e.2:=fun e he=>by
 rcases List.mem_append.1 he with h1|h1
 · exact h e h1
 rw[List.mem_singleton.1 h1];exact hx
theorem tX(X:Cx)(B:Nat)(b:List Int)(er:Int)(p:Option Addr)(c:Nat)(w0:World)(hb:b.length≤1000000)(hbb:lg b)(m0:MemOk X w0 [(1,.box B 66 [.slice p b.length c,.int .i64 er]),(2,.dat (.slice p b.length c) (.ns .u8 b))] w0) :
   Calls Tryz.prog 68 #[.pointer (some ⟨B,0,none⟩)] w0 fun e w' => ∃ (es:List (Int×List Int)) (b':List Int) (p':Option Addr) (c':Nat) (er':Int) (p3:Option Addr) (c3:Nat),e=.returned (.slice p3 (es.map itD).length c3)∧es.length≤8∧(∀ e∈es,e.2.length≤32∧lg e.2)∧b'.length≤b.length∧lg b'∧MemOk X w0 [(1,.box B 66 [.slice p' b'.length c',.int .i64 er']),(2,.dat (.slice p' b'.length c') (.ns .u8 b')),(3,.dat (.slice p3 (es.map itD).length c3) (.l 2 (es.map itD)))] w':=by
 refine mp Tryz.func68 rfl Tryz.ntmps68 fun Y U =>?_
 refine la U (.assign rfl .nil) fun Y U =>?_
 refine la U (.assign rfl .nil) fun Y U =>?_
 refine zsr fun K0 hK0 =>?_
 refine k9 U (.move rfl .nil) fun Y U =>?_
 refine plz (ecl U Tryz.func67 rfl (tV _ _ b _ 8 _ _ _ (by omega) hbb (by decide) (m0.into [(1,1),(2,2)] (by decide) rfl)) ?_)
 rintro e w5 ⟨un,b2,p5,c5,er5,rfl,huun,hbl2,hbb2,hm5⟩
 have mx5:=m0.back hm5 [(1,1),(2,2)] (by decide);clear hm5 m0
 have m5:=mx5.oz [1,2]
 refine⟨_,rfl,?_⟩;intro Y U
 refine gz hK0 U (.assign rfl .nil) fun Y U =>?_
 refine wsk fun K1 hK1 =>?_
 refine la U (.assign rfl .nil) fun Y U =>?_
 refine wp_block ?_
 refine wp_loop_ghost (fun g a w => ∃ (k:Nat) (es:List (Int×List Int)) (b1:List Int) (p1:Option Addr) (c1:Nat) (er1:Int) (p3:Option Addr) (c3:Nat),(k:Int)≤un∧g=un.toNat - k∧es.length≤k∧(∀ e∈es,e.2.length≤32∧lg e.2)∧b1.length≤b.length∧lg b1∧Has 33 [(0,.pointer (some ⟨B,0,none⟩)),(3,.slice p3 (es.map itD).length c3),(4,.int .u64 un),(5,.int .u64 (k:Int))] a∧MemOk X w0 [(1,.box B 66 [.slice p1 b1.length c1,.int .i64 er1]),(2,.dat (.slice p1 b1.length c1) (.ns .u8 b1)),(9,.row (.slice p3 (es.map itD).length c3) 78 2 (es.map itD))] w) (un.toNat) ?_ ?_
 · have mz:=m5.nilR 9 78 2
   exact⟨0,[],b2,_,_,_,_,_,by omega,rfl,Nat.le_refl _,(fun e h=>by cases h),hbl2,hbb2,U.only [0,3,4,5],mz.only [1,2,9]⟩
 clear U m5
 rintro g Y w9 ⟨k,es,b1,p1,c1,er1,p3,c3,hku,hg,hel,hes,hbl1,hbb1,U,m9⟩
 refine wsk fun K2 hK2 =>?_
 refine zsr fun K3 hK3 =>?_
 refine k9 U (.move rfl<|.move rfl<|.lss rfl rfl<|.move rfl .nil) fun Y U =>?_
 refine bc U 12 ?_ ?_
 ·
  intro aa U;try simp only [QQ,Qax] at aa
  refine gz hK3 U (.moveZ rfl<|.nilCheckZ rfl<|.faZ 1 rfl U66<|.loadB1Z m9 (i:=1) rfl rfl rfl U3 rfl<|.eqlZ rfl rfl<|.pickT rfl rfl<|.nil) fun Y U =>?_
  refine bc U 18 ?_ ?_
  ·
   intro ab U;try simp only [QQ,Qax] at ab
   refine wct U ?_
   refine zss (hK2 _ _ ?_)
   refine wsk fun K4 hK4 =>?_
   refine wp_block ?_
   replace U:=U.oz [0,3,4,5]
   refine zsr fun K5 hK5 =>?_
   refine k9 U (.move rfl .nil) fun Y U =>?_
   refine plz (ecl U Tryz.func67 rfl (tV _ _ b1 _ 256 _ _ _ (by omega) hbb1 (by decide) (m9.into [(1,1),(2,2)] (by decide) rfl)) ?_)
   rintro e ay ⟨uv,b3,az,aA,ao,rfl,huuv,hbl3,hbb3,ac⟩
   have ae:=m9.back ac [(1,1),(2,2)] (by decide);clear ac m9
   have ag:=ae.oz [1,2,9]
   refine⟨_,rfl,?_⟩;intro Y U
   refine gz hK5 U (.conv rfl nb U3 (r:=uv) (IntWalk.i64_in _ (by omega))<|.assign rfl<|.nil) fun Y U =>?_
   refine wp_region_lit ?_
   refine k9 U (.move rfl<|.move rfl<|.move rfl .nil) fun Y U =>?_
   refine plz (ecl U Tryz.func70 rfl (zX _ _ b3 _ 32 _ _ _ (by omega) hbb3 (by decide) (ag.into [(1,1),(2,2)] (by decide) rfl)) ?_)
   rintro e aB ⟨xd,b4,aC,aD,ap,aq,ar,rfl,hxd,hbxd,hbl4,hbb4,ad⟩
   have ah:=ag.back ad [(1,1),(2,2),(100,3)] (by decide);clear ad ag
   have ai:=ah.oz [1,2,100,9]
   refine⟨_,rfl,?_⟩;intro Y U
   refine plz (oa U ai 101 rfl rfl (ai.nums (i:=100) rfl) U22 lJ (by decide) (by omega) rfl fun aE aF Y aG U au =>?_)
   refine k9 U (.build rfl pz zY rfl (by dsimp only [l9,List.set] <;> rfl) .nil) fun Y U =>?_
   have aj:=au.freezeN 101 rfl
   refine plz (lq U aj 102 (mm:=2) rfl (.cons rfl rfl (.cons (.v _) (.cons (aj.rd (i:=101) rfl) .nil)) .nil) U28 ow rfl rfl rfl rfl rfl fun aH Y aI U av =>?_)
   have ak:=av.freezeR 102 rfl
   refine plz (lC U ak 9 rfl rfl rfl (ak.rd (i:=102) rfl) U28 ow rfl rfl (by decide) (by simp;omega) rfl fun aJ aK Y aL U al =>?_)
   refine gz hK4 U (.assign rfl .nil) fun Y U =>?_
   replace U:=U.oz [0,3,4,5]
   refine wp_region_lit ?_
   refine k9 U (.move rfl<|.add rfl rfl (r:=((k+1:Nat):Int)) (by rw[IntWalk.u64_in _ (by omega)];omega)<|.assign rfl .nil) fun Y U =>?_
   refine wpList_nil ?_
   show ∃ n',n'<_∧_
   have hE:es.map itD++[[D.v (.int .i64 uv),.ns .u8 xd]]=(es++[(uv,xd)]).map itD:=by rw[List.map_append];rfl
   rw[hE] at al U
   exact⟨un.toNat - (k+1),by omega,k+1,es++[(uv,xd)],b4,_,_,_,_,_,by omega,rfl,by simp;omega,wU hes ⟨by have:=hxd;simp only;omega,hbxd⟩,by omega,hbb4,U.only [0,3,4,5],al.only [1,2,9]⟩
  intro ab U;try simp only [QQ,Qax] at ab
  refine wcf U ?_
  refine wp_exit ?_
  refine hK1 _ _ ?_
  replace U:=U.oz [0,3,4,5]
  refine la U (.move rfl<|.assign rfl .nil) fun Y U =>?_
  refine rt1 U ?_
  have aw:=m9.freezeR 9 rfl
  exact⟨es,b1,_,_,_,_,_,rfl,by omega,hes,hbl1,hbb1,aw.ren [(1,1),(2,2),(3,9)] (by decide)⟩
 intro aa U;try simp only [QQ,Qax] at aa
 refine gz hK3 U (.sk<|.sk<|.sk<|.sk<|.sk<|.pickF rfl rfl<|.nil) fun Y U =>?_
 refine wcf U ?_
 refine wp_exit ?_
 refine hK1 _ _ ?_
 replace U:=U.oz [0,3,4,5]
 refine la U (.move rfl<|.assign rfl .nil) fun Y U =>?_
 refine rt1 U ?_
 have ax:=m9.freezeR 9 rfl
 exact⟨es,b1,_,_,_,_,_,rfl,by omega,hes,hbl1,hbb1,ax.ren [(1,1),(2,2),(3,9)] (by decide)⟩
end
end Go.Proofs.YteglmahnkfgelaaGreat.K
