/- General laws of walks. -/
import Derived.Test.YteglmahnkfgelaaGreatG22
import Derived.Test.YteglmahnkfgelaaGreatG26
import Derived.Test.YteglmahnkfgelaaGreatG25
import Derived.Test.YteglmahnkfgelaaGreatG3
import Derived.Test.YteglmahnkfgelaaGreatG8
import Derived.OpenShut
namespace Go.Proofs.YteglmahnkfgelaaGreat.K
open Go.ChangeShapes Go.WideShapes Go.ChangeAt Go.RowKit
set_option linter.unusedVariables false
set_option linter.unusedSimpArgs false
set_option maxRecDepth 100000
set_option maxHeartbeats 4000000
set_option autoImplicit true
set_option relaxedAutoImplicit true
section
theorem yg{qs:List Pu}{i:Nat}{q:Pu}(h:qs[i]? = some q):(qs.map puD)[i]? = some [.v (.int .i64 q.vo),.v (.int .i64 q.ch),.v (.int .i64 q.cn),.v (.int .i64 q.sz),.v (.int .i64 q.fr),.v (.int .i64 q.to),.v (.int .i64 q.fl),.l 2 (q.W.map wrD)]:=by rw[List.getElem?_map,h];rfl
theorem us4{a b c d:Pu}{Q:Pu→Prop}(ha:Q a)(hb:Q b)(hc:Q c)(hd:Q d):∀ z∈[a,b,c,d],Q z:=fun z hz=>by
 simp only [List.mem_cons,List.not_mem_nil,or_false] at hz
 rcases hz with rfl|rfl|rfl|rfl
 · exact ha
 · exact hb
 · exact hc
 exact hd
theorem rS{W:List (Int×List (Int×List Int))}{k:Nat}{xs:Int}{xl:List (Int×List Int)}(h:∀ e∈W.take k,SmallI e.2)(hes:W[k]? = some (xs,xl))(hx:SmallI xl):∀ e∈W.take (k+1),SmallI e.2:=fun e he=>by
 rw[ln hes] at he
 rcases List.mem_append.1 he with he|he
 · exact h e he
 rw[List.mem_singleton.1 he];exact hx
theorem qY(n:Nat):HB 900000 (List.replicate n ([]:List Ver)):=fun h hh=>by
 rw[List.eq_of_mem_replicate hh]
 exact⟨List.Pairwise.nil,by simp,by simp,by decide⟩
theorem xn{q:Pu}{n9:Nat}(hP:PuQ q)(hn:q.cn=(n9:Int)):xi q.vo q.ch q.cn q.sz (nj q.vo q.ch q.cn q.sz 0 0 (List.replicate n9 []) q).1 (nj q.vo q.ch q.cn q.sz 0 0 (List.replicate n9 []) q).2.1 (nj q.vo q.ch q.cn q.sz 0 0 (List.replicate n9 []) q).2.2∧vr (nj q.vo q.ch q.cn q.sz 0 0 (List.replicate n9 []) q).2.2:=by
 have hP':nA q.vo q.ch (n9:Int) q.sz q.fr q.to q.fl q.W:=hn ▸ hP
 have h1:xi q.vo q.ch q.cn q.sz (nj q.vo q.ch q.cn q.sz 0 0 (List.replicate n9 []) q).1 (nj q.vo q.ch q.cn q.sz 0 0 (List.replicate n9 []) q).2.1 (nj q.vo q.ch q.cn q.sz 0 0 (List.replicate n9 []) q).2.2:=by
   rw[hn]
   unfold nj
   split
   · exact uq hP'
   exact ts hP'
 refine⟨h1,fun h hh=>⟨(nk (qY n9)).2 h hh,fun v hv =>?_⟩⟩
 obtain⟨j,hj,rfl⟩:=List.getElem_of_mem hh
 have h2:=h1.2.2.2.2 j hj
 rw[List.getD,List.getElem?_eq_getElem hj] at h2
 obtain⟨i,hi,rfl⟩:=List.getElem_of_mem hv
 have h3:=(h2.2.2 i hi).2
 have h4:(List.getD (((nj q.vo q.ch q.cn q.sz 0 0 (List.replicate n9 []) q).2.2)[j]) i v0)=(((nj q.vo q.ch q.cn q.sz 0 0 (List.replicate n9 []) q).2.2)[j])[i]:=by rw[List.getD,List.getElem?_eq_getElem hi];rfl
 rw[show((some (((nj q.vo q.ch q.cn q.sz 0 0 (List.replicate n9 []) q).2.2)[j])).getD [])=((nj q.vo q.ch q.cn q.sz 0 0 (List.replicate n9 []) q).2.2)[j] from rfl,h4] at h3
 have:=hP.1.2.2.2
 omega
theorem zq{y:VolV}{k fn cnt mk n:Nat}(hC:CkOk y k fn cnt)(hF:VolF y)(hm:mk≤y.ws.length)(hS:VolS n y):WOk 4 (pwN y fn cnt mk):=by
 have hP:=zr hC hF hm
 refine⟨hP.2.2.2.2.1,fun e he=>⟨oA hP e he,?_⟩⟩
 obtain⟨w,hw,rfl⟩:=qx he
 have hwm:w∈y.ws:=List.mem_of_mem_take (List.mem_of_mem_drop hw)
 intro x hx
 obtain⟨z,hz,rfl⟩:=List.mem_map.1 hx
 exact hS.2.2.2.2 w hwm z (List.mem_filter.1 hz).1
theorem sO(X:Cx)(q:Pu)(n9:Nat)(hn:q.cn=(n9:Int))(h:n9≤256)(pw:Option Addr)(nw cw:Nat)(w0:World)(m0:MemOk X w0 [] w0) :
   Calls Tryz.prog 21 #[.agg #[.int .i64 q.vo,.int .i64 q.ch,.int .i64 q.cn,.int .i64 q.sz,.int .i64 q.fr,.int .i64 q.to,.int .i64 q.fl,.slice pw nw cw]] w0 fun e w' => ∃ (p9:Option Addr) (c9:Nat),e=.returned (.agg #[.int .i64 q.vo,.int .i64 q.ch,.int .i64 q.cn,.int .i64 q.sz,.int .i64 0,.int .i64 0,.slice p9 (List.replicate n9 ([]:List Ver)).length c9])∧MemOk X w0 [(9,.dat (.slice p9 (List.replicate n9 ([]:List Ver)).length c9) (.l 1 ((List.replicate n9 ([]:List Ver)).map hD)))] w':=by
 rw[hn,List.length_replicate]
 refine(xo X q.vo q.ch q.sz q.fr q.to q.fl n9 pw nw cw w0 h m0).mono ?_
 rintro e w' ⟨p9,c9,he,hm⟩
 exact⟨p9,c9,he,hm.freezeR 9 rfl |>.only [9]⟩
theorem xp(X:Cx)(q:Pu)(n9:Nat)(hn:q.cn=(n9:Int))(h:n9≤256)(pw:Option Addr)(nw cw:Nat)(w0:World)(m0:MemOk X w0 [] w0) :
   Calls Tryz.prog 22 #[.agg #[.int .i64 q.vo,.int .i64 q.ch,.int .i64 q.cn,.int .i64 q.sz,.int .i64 q.fr,.int .i64 q.to,.int .i64 q.fl,.slice pw nw cw]] w0 fun e w' => ∃ (p9:Option Addr) (c9:Nat),e=.returned (.agg #[.int .i64 q.vo,.int .i64 q.ch,.int .i64 q.cn,.int .i64 q.sz,.int .i64 0,.int .i64 0,.slice p9 (List.replicate n9 ([]:List Ver)).length c9])∧MemOk X w0 [(9,.dat (.slice p9 (List.replicate n9 ([]:List Ver)).length c9) (.l 1 ((List.replicate n9 ([]:List Ver)).map hD)))] w':=by
 rw[hn,List.length_replicate]
 refine(xq X q.vo q.ch q.sz q.fr q.to q.fl n9 pw nw cw w0 h m0).mono ?_
 rintro e w' ⟨p9,c9,he,hm⟩
 exact⟨p9,c9,he,hm.freezeR 9 rfl |>.only [9]⟩
theorem pushes_walk(l:List Int)(raw:Pu)(pl pr:Option Addr)(cl cr n1 nm hv:Nat)(what vv:Int)(w0:World)(hn:n1≤255)(hnm:nm≤255)(hhv:hv≤255)(hwh:0≤what∧what≤255)(hvv : -9223372036854775808≤vv∧vv≤9223372036854775807)(h0:Rd (fun _=>True) w0 (.slice pl l.length cl) (.ns .u8 l))(hlb:∀ j,j<l.length→0≤l.getD j 0∧l.getD j 0≤255)(h1:Rd (fun _=>True) w0 (.slice pr (raw.W.map wrD).length cr) (.l 2 (raw.W.map wrD)))(hrl:∀ e∈raw.W,e.2.length≤140737488351232)(hrb:∀ e∈raw.W,∀ x∈e.2,lg x.2) :
   Calls Tryz.prog 3 #[.slice pl l.length cl,.int .u8 (n1:Int),.int .u8 (nm:Int),.int .u8 (hv:Int),.agg #[.int .i64 raw.vo,.int .i64 raw.ch,.int .i64 raw.cn,.int .i64 raw.sz,.int .i64 raw.fr,.int .i64 raw.to,.int .i64 raw.fl,.slice pr (raw.W.map wrD).length cr],.int .u8 what,.int .i64 vv] w0 fun e w'=>e=.returned (.bool true)∧Below w0.heap.size w0 w':=by
 refine AU Tryz.func3 rfl Tryz.ntmps3 fun Y U =>?_
 have m0:=(((MemOk.start (fun _=>True) w0).dat 11 rfl (h0.cast (fun _ _=>(qp (fun _=>trivial))))).dat 12 rfl (h1.cast (fun _ _=>(lf rfl (qp (fun _=>trivial))))))
 refine zsr fun K0 hK0 =>?_
 refine plz (ly U m0 70 (cs:=[_,_,_,_,_,_,_,_]) rfl rfl rfl fun g1 Y w2 U m2 _ _ =>?_)
 refine gz hK0 U (.assign rfl .nil) fun Y U =>?_
 refine wsk fun K1 hK1 =>?_
 refine zsr fun K2 hK2 =>?_
 refine plz (ecb U Tryz.func7 rfl m2 (vN _) fun Y w4 U m5 =>?_)
 refine gz hK2 U (.not rfl .nil) fun Y U =>?_
 refine wcf U ?_
 refine zss (hK1 _ _ ?_)
 refine wsk fun K3 hK3 =>?_
 refine zsr fun K4 hK4 =>?_
 refine k9 U (.move rfl<|.len rfl U22<|.gtr rfl rfl<|.move rfl .nil) fun Y U =>?_
 refine bc U 33 ?_ ?_
 ·
  intro aO U;try simp only [QQ,Qax] at aO
  refine gz hK4 U (.sk<|.sk<|.sk<|.sk<|.pickT rfl rfl<|.nil) fun Y U =>?_
  refine wct U ?_
  replace U:=U.oz [0,1,2,3,5,6,11,14]
  refine la U (.assign rfl .nil) fun Y U =>?_
  refine rt1 U ?_
  exact⟨rfl,m5.below⟩
 intro aO U;try simp only [QQ,Qax] at aO
 have eg:l.length≤60:=by have:=aO;first|omega|(simp at this;omega)
 refine gz hK4 U (.faZ 7 rfl U25<|.loadB1Z m5 (i:=70) rfl rfl rfl U23 rfl<|.lenZ rfl U23<|.gtrZ rfl rfl<|.pickF rfl rfl<|.nil) fun Y U =>?_
 refine bc U 38 ?_ ?_
 ·
  intro aP U;try simp only [QQ,Qax] at aP
  refine wct U ?_
  replace U:=U.oz [0,1,2,3,5,6,11,14]
  refine la U (.assign rfl .nil) fun Y U =>?_
  refine rt1 U ?_
  exact⟨rfl,m5.below⟩
 intro aP U;try simp only [QQ,Qax] at aP
 have hr6:raw.W.length≤6:=by have:=aP;first|omega|(simp at this;omega)
 refine wcf U ?_
 refine zss (hK3 _ _ ?_)
 refine wsk fun K5 hK5 =>?_
 replace U:=U.oz [0,1,2,3,5,6,11,14]
 refine la U (.assign rfl .nil) fun Y U =>?_
 refine wp_block ?_
 refine wp_loop_ghost (fun g a w => ∃ (k gB:Nat),k≤raw.W.length∧g=raw.W.length - k∧(∀ e∈raw.W.take k,SmallI e.2)∧Has 154 [(0,.slice pl l.length cl),(1,.int .u8 (n1:Int)),(2,.int .u8 (nm:Int)),(3,.int .u8 (hv:Int)),(5,.int .u8 what),(6,.int .i64 vv),(11,.pointer (some ⟨gB,0,none⟩)),(15,.int .i64 k)] a∧MemOk (cx (fun _=>True) w0) w0 [(11,.dat (.slice pl l.length cl) (.ns .u8 l)),(12,.dat (.slice pr (raw.W.map wrD).length cr) (.l 2 (raw.W.map wrD))),(20,.box gB 25 [.int .i64 raw.vo,.int .i64 raw.ch,.int .i64 raw.cn,.int .i64 raw.sz,.int .i64 raw.fr,.int .i64 raw.to,.int .i64 raw.fl,.slice pr (raw.W.map wrD).length cr])] w) (raw.W.length) ?_ ?_
 · exact⟨0,_,Nat.zero_le _,rfl,(fun e he=>by cases he),U.only [0,1,2,3,5,6,11,15],m5.ren [(11,11),(12,12),(20,70)] (by decide)⟩
 clear U m5
 rintro g Y gn ⟨k,gB,hkl,hg,hsm,U,b9⟩
 refine wsk fun K6 hK6 =>?_
 refine la U (.move rfl<|.fa 7 rfl U25<|.lb b9 20 U23 rfl rfl rfl<|.len rfl U23<|.lss rfl rfl .nil) fun Y U =>?_
 refine bc U 43 ?_ ?_
 ·
  intro aB U;try simp only [QQ,Qax] at aB
  have hk:k<raw.W.length:=by have:=aB;first|omega|(simp at this;omega)
  obtain⟨⟨xs,xl⟩,hes⟩:∃ e,raw.W[k]? = some e:=⟨_,List.getElem?_eq_getElem hk⟩
  refine wct U ?_
  refine zss (hK6 _ _ ?_)
  refine wsk fun K7 hK7 =>?_
  refine wp_block ?_
  refine zsr fun K8 hK8 =>?_
  refine k9 U (.fa 7 rfl U25<|.lb b9 20 U23 rfl rfl rfl<|.move rfl .nil) fun Y U =>?_
  obtain⟨gp,gq,eh,dg,dh,di,d3⟩:=b9.openR (i:=12) rfl (k) (r:=[.v (.int .i64 xs),.l 2 (xl.map itD)]) (mj hes) 100 rfl
  revert U
  cases dg;clear b9 di
  rcases dh with _|⟨aC,_|⟨ai,_|_⟩⟩
  obtain rfl:=aC.v_out
  clear aC
  obtain⟨gr,gs,dj,ei⟩:=ai.l_shape;subst dj
  intro U
  have dk:=d3.dat 101 rfl (ai.cast (fun _ h=>(lf rfl h)));clear d3 ai
  refine k9 U (.c rfl (fun _ h_=>li h_ rfl rfl U23 nV (k) rfl (by simpa using hk))<|.fieldAddrQ 1 rfl U30 rfl (s:=0) (by kernel_rfl) rfl<|.loadC1 dk (i:=100) (q:=1) rfl rfl rfl U28 rfl .nil) fun Y U =>?_
  refine plz (ecl U Tryz.func8 rfl (tB xl _ _ _ _ ((dk.rd (i:=101) rfl).any) (hrl _ (List.mem_of_getElem? hes))) ?_)
  rintro e gu ⟨sb,rfl,hsb,dl⟩
  have d4:=dk.later dl
  refine⟨_,rfl,?_⟩;intro Y U
  refine gz hK8 U (.not rfl .nil) fun Y U =>?_
  refine bc U 53 ?_ ?_
  ·
   intro aQ U;try simp only [QQ,Qax] at aQ
   refine wct U ?_
   replace U:=U.oz [0,1,2,3,5,6,11,15,53]
   refine la U (.assign rfl .nil) fun Y U =>?_
   refine rt1 U ?_
   exact⟨rfl,d4.below⟩
  intro aQ U;try simp only [QQ,Qax] at aQ
  have hsbT:=aQ
  refine wcf U ?_
  refine zss (hK7 _ _ ?_)
  replace U:=U.oz [0,1,2,3,5,6,11,15,53]
  refine wp_region_lit ?_
  refine k9 U (.move rfl<|.inc (k+1)<|.assign rfl .nil) fun Y U =>?_
  refine wpList_nil ?_
  show ∃ n',n'<_∧_
  exact⟨raw.W.length - (k+1),by omega,k+1,_,by omega,rfl,rS hsm hes (hsb (by simp_all)),U.only [0,1,2,3,5,6,11,15],d4.ren [(11,11),(12,12),(20,20)] (by decide)⟩
 intro aB U;try simp only [QQ,Qax] at aB
 revert U
 obtain rfl:k=raw.W.length:=by have:=aB;first|omega|(simp at this;omega)
 intro U
 rw[List.take_length] at hsm
 refine wcf U ?_
 refine wp_exit ?_
 refine hK5 _ _ ?_
 refine zsr fun K9 hK9 =>?_
 refine k9 U (.move rfl<|.move rfl<|.move rfl .nil) fun Y U =>?_
 refine plz (ecl U Tryz.func9 rfl (yh l _ _ n1 nm _ (by omega) (by omega) (by omega) ((b9.rd (i:=11) rfl).any) hlb) ?_)
 rintro e gv ⟨y,k,fn,cnt,mk,ej,ek,el,em,en,eo,ep,es,et,hS,hC,hmkn,rfl,ca,dm,dn⟩
 have eu:l.length≤80:=by omega
 have ew:=b9.callF3 100 101 102 rfl rfl rfl dn ca dm ca
 have hF:VolF y:=hS.f (by omega)
 have hwo:rT y.ws:=hS.1.its.1
 have ex:y.ws.length≤80:=by have:=hS.2.2.2.1;omega
 have hf0:=hF.fl0
 have hf1:=hF.fl1
 have hwl:=hF.wl
 have hvb:=hF.bl
 have hvp:=hF.pe
 have hc1:=hC.pos
 have hc2:=hC.c256
 have hc3:=hC.fnb
 have hc4:=hC.top
 have hc5:=hC.k255
 have hc6:=hC.fe
 refine⟨_,rfl,?_⟩;intro Y U
 refine k9 U (.move rfl<|.extract rfl rfl<|.extract rfl rfl<|.extract rfl rfl .nil) fun Y U =>?_
 refine plz (lc U ew 103 mo rfl fun gw Y gx U ey _ _ =>?_)
 refine plz (lc U ey 104 mL rfl fun gy Y gA U ez _ _ =>?_)
 refine plz (stw U ez 103 ld fun gD eA _ =>?_)
 refine k9 U (.assign rfl .nil) fun Y U =>?_
 refine plz (stw U eA 104 lF fun gE df _ =>?_)
 refine znl (hK9 _ _ ?_)
 replace U:=U.oz [0,1,2,3,5,6,11,15,16,18,17]
 refine zsr fun gF dp =>?_
 refine k9 U (.loadBR df (i:=103) rfl rfl U34 rfl ld (by simp) (by dsimp only [List.drop,List.take] <;> rfl)<|.move rfl<|.move rfl<|.rem rfl rfl (by omega) (r:=((hv % 20:Nat):Int)) (by have:=xr hv 20;simpa using this)<|.conv rfl U5 U2 (IntWalk.i64_in _ (by omega)) .nil) fun Y U =>?_
 refine plz (ecl U Tryz.func10 rfl (vO _ y k fn cnt hC hF hwo _ _ _ _ _ _ _ _ _ (df.into [(3,100)] (by decide) rfl)) ?_)
 rintro e gG ⟨m,gH,gI,hmn,hfin,rfl,cb⟩
 have dq:=df.back cb [(100,3),(105,9)] (by decide);clear cb df
 have eB:=dq.oz [100,105,11,12,20,101,102,103,104]
 refine⟨_,rfl,?_⟩;intro Y U
 refine plz (lc U eB 106 oV rfl fun gJ Y gK U eC _ _ =>?_)
 refine plz (stw U eC 106 lH fun gL d5 _ =>?_)
 refine znl (dp _ _ ?_)
 refine wsk fun gM dr =>?_
 refine wsk fun d6 ds =>?_
 have dt:∀ (a:Act) (w:World),(∃ (qs:List Pu) (cv cc cn cs mk fl:Int) (H:List (List Ver)) (gC c8 c9:Nat) (pc p9:Option Addr),qs.length=4∧(∀ q∈qs,WOk 1000 q.W)∧HB 900000 H∧(H.length:Int)=cn∧H.length≤1000∧Has 154 [(19,.pointer (some ⟨gC,0,none⟩)),(79,.slice p9 4 c9),(80,.int .i64 4),(81,.int .i64 0)] a∧MemOk (cx (fun _=>True) w0) w0 [(9,.dat (.slice p9 4 c9) (.l 8 (qs.map puD))),(24,.box gC 39 [.int .i64 cv,.int .i64 cc,.int .i64 cn,.int .i64 cs,.int .i64 mk,.int .i64 fl,.slice pc H.length c8]),(25,.dat (.slice pc H.length c8) (.l 1 (H.map hD)))] w)→d6 a w:=by
   clear U d5
   rintro Y eD ⟨qs,cv,cc,cn,cs,mk,fl,H,gC,c8,c9,pc,p9,hql,hqsW,hHB,hHn,hHl,U,cd⟩
   refine ds _ _ ?_
   refine wp_block ?_
   refine wp_loop_ghost (fun g a w => ∃ (i gC c8 c9:Nat) (pc p9:Option Addr),i≤4∧g=4 - i∧Has 154 [(19,.pointer (some ⟨gC,0,none⟩)),(79,.slice p9 4 c9),(80,.int .i64 4),(81,.int .i64 i)] a∧MemOk (cx (fun _=>True) w0) w0 [(9,.dat (.slice p9 4 c9) (.l 8 (qs.map puD))),(24,.box gC 39 [.int .i64 cv,.int .i64 cc,.int .i64 cn,.int .i64 cs,.int .i64 mk,.int .i64 fl,.slice pc H.length c8]),(25,.dat (.slice pc H.length c8) (.l 1 (H.map hD)))] w) (4) ?_ ?_
   · exact⟨0,_,_,_,_,_,Nat.zero_le _,rfl,U.only [19,79,80,81],cd.ren [(9,9),(24,24),(25,25)] (by decide)⟩
   clear U cd
   rintro g Y eE ⟨i,gC,c8,c9,pc,p9,hil,hgB,U,aR⟩
   refine la U (.lss rfl rfl .nil) fun Y U =>?_
   refine wsk fun gN du =>?_
   refine bc U 82 ?_ ?_
   ·
    intro aD U;try simp only [QQ,Qax] at aD
    have hi:i<qs.length:=by omega
    obtain⟨q,hes⟩:∃ e,qs[i]? = some e:=⟨_,List.getElem?_eq_getElem hi⟩
    refine wct U ?_
    refine zss (du _ _ ?_)
    refine wsk fun gO aS =>?_
    refine wp_block ?_
    refine wsk fun d7 dv =>?_
    have dw:∀ (a:Act) (w:World),(∃ (q:Pu) (gC gQ c8 c9 cq:Nat) (pc p9 pq:Option Addr),WOk 1000 q.W∧Has 154 [(19,.pointer (some ⟨gC,0,none⟩)),(79,.slice p9 4 c9),(80,.int .i64 4),(81,.int .i64 i),(21,.pointer (some ⟨gQ,0,none⟩))] a∧MemOk (cx (fun _=>True) w0) w0 [(9,.dat (.slice p9 4 c9) (.l 8 (qs.map puD))),(24,.box gC 39 [.int .i64 cv,.int .i64 cc,.int .i64 cn,.int .i64 cs,.int .i64 mk,.int .i64 fl,.slice pc H.length c8]),(25,.dat (.slice pc H.length c8) (.l 1 (H.map hD))),(22,.box gQ 25 [.int .i64 q.vo,.int .i64 q.ch,.int .i64 q.cn,.int .i64 q.sz,.int .i64 q.fr,.int .i64 q.to,.int .i64 q.fl,.slice pq (q.W.map wrD).length cq]),(23,.dat (.slice pq (q.W.map wrD).length cq) (.l 2 (q.W.map wrD)))] w)→d7 a w:=by
      clear U aR
      rintro Y eF ⟨q,gC,gQ,c8,c9,cq,pc,p9,pq,hqW,U,ae⟩
      refine dv _ _ ?_
      refine wsk fun gP ce =>?_
      by_cases hP:PuQ q
      ·
       refine wp_region_lit ?_
       refine k9 U (.loadBR ae (i:=22) rfl rfl U25 rfl lF (by simp) (by dsimp only [List.drop,List.take] <;> rfl) .nil) fun Y U =>?_
       refine plz (ecl U Tryz.func12 rfl (oO _ q.vo q.ch q.cn q.sz q.fr q.to q.fl q.W _ _ _ _ hP (ae.into [(1,23)] (by decide) rfl)) ?_)
       rintro e eG ⟨eH,eI,rfl,bg⟩
       have cf:=ae.back bg [(23,1),(400,9)] (by decide);clear bg ae
       have aE:=cf.oz [23,400,9,22,24,25]
       refine⟨_,rfl,?_⟩;intro Y U
       refine gz ce U (.move rfl<|.extract rfl rfl<|.extract rfl rfl<|.assign rfl<|.assign rfl<|.nil) fun Y U =>?_
       refine wsk fun d8 dx =>?_
       have dy:∀ (a:Act) (w:World),(∃ (b:List Int) (er:Int) (p1 p2:Option Addr) (c1 c2:Nat),((PuQ q∧er=0∧b=mO q.vo q.ch q.cn q.sz q.fr q.to q.fl q.W)∨(¬ PuQ q∧er=23))∧Has 154 [(19,.pointer (some ⟨gC,0,none⟩)),(79,.slice p9 4 c9),(80,.int .i64 4),(81,.int .i64 i),(21,.pointer (some ⟨gQ,0,none⟩)),(22,.slice p1 b.length c1),(23,.int .i64 er),(24,.slice p2 b.length c2),(25,.int .i64 er)] a∧MemOk (cx (fun _=>True) w0) w0 [(9,.dat (.slice p9 4 c9) (.l 8 (qs.map puD))),(24,.box gC 39 [.int .i64 cv,.int .i64 cc,.int .i64 cn,.int .i64 cs,.int .i64 mk,.int .i64 fl,.slice pc H.length c8]),(25,.dat (.slice pc H.length c8) (.l 1 (H.map hD))),(22,.box gQ 25 [.int .i64 q.vo,.int .i64 q.ch,.int .i64 q.cn,.int .i64 q.sz,.int .i64 q.fr,.int .i64 q.to,.int .i64 q.fl,.slice pq (q.W.map wrD).length cq]),(23,.dat (.slice pq (q.W.map wrD).length cq) (.l 2 (q.W.map wrD))),(30,.dat (.slice p1 b.length c1) (.ns .u8 b)),(31,.dat (.slice p2 b.length c2) (.ns .u8 b))] w)→d8 a w:=by
         clear U aE
         rintro Y eJ ⟨b,er,p1,p2,c1,c2,hDj,U,cg⟩
         refine dx _ _ ?_
         refine wsk fun gS dz =>?_
         refine wsk fun d9 dA =>?_
         have dB:∀ (a:Act) (w:World),(Has 154 [(19,.pointer (some ⟨gC,0,none⟩)),(79,.slice p9 4 c9),(80,.int .i64 4),(81,.int .i64 i),(21,.pointer (some ⟨gQ,0,none⟩)),(24,.slice p2 b.length c2),(25,.int .i64 er),(121,.bool false)] a∧MemOk (cx (fun _=>True) w0) w0 [(9,.dat (.slice p9 4 c9) (.l 8 (qs.map puD))),(24,.box gC 39 [.int .i64 cv,.int .i64 cc,.int .i64 cn,.int .i64 cs,.int .i64 mk,.int .i64 fl,.slice pc H.length c8]),(25,.dat (.slice pc H.length c8) (.l 1 (H.map hD))),(22,.box gQ 25 [.int .i64 q.vo,.int .i64 q.ch,.int .i64 q.cn,.int .i64 q.sz,.int .i64 q.fr,.int .i64 q.to,.int .i64 q.fl,.slice pq (q.W.map wrD).length cq]),(23,.dat (.slice pq (q.W.map wrD).length cq) (.l 2 (q.W.map wrD))),(31,.dat (.slice p2 b.length c2) (.ns .u8 b))] w)→d9 a w:=by
           clear U cg
           rintro Y eK ⟨U,aF⟩
           refine dA _ _ ?_
           refine wcf U ?_
           refine zss (dz _ _ ?_)
           refine wsk fun gT dC =>?_
           refine la U (.move rfl<|.neq rfl rfl .nil) fun Y U =>?_
           refine bc U 123 ?_ ?_
           ·
            intro al U;try simp only [QQ,Qax] at al
            refine wct U ?_
            refine wp_exit ?_
            refine aS _ _ ?_
            replace U:=U.oz [19,79,80,81]
            refine wp_region_lit ?_
            refine k9 U (.inc (i+1)<|.move rfl .nil) fun Y U =>?_
            refine wpList_nil ?_
            show ∃ n',n'<_∧_
            exact⟨4 - (i+1),by omega,i+1,_,_,_,_,_,by omega,rfl,U.only [19,79,80,81],aF.ren [(9,9),(24,24),(25,25)] (by decide)⟩
           intro al U;try simp only [QQ,Qax] at al
           have hP:PuQ q∧b=mO q.vo q.ch q.cn q.sz q.fr q.to q.fl q.W:=by
             rcases hDj with h9|h9
             · exact⟨h9.1,h9.2.2⟩
             exfalso;have:=h9.2;have:=al;first|omega|(simp at this;omega)
           refine wcf U ?_
           refine zss (dC _ _ ?_)
           refine wsk fun ea dD =>?_
           have dE:∀ (a:Act) (w:World),(∃ (gR cR:Nat) (pR:Option Addr),Has 154 [(19,.pointer (some ⟨gC,0,none⟩)),(79,.slice p9 4 c9),(80,.int .i64 4),(81,.int .i64 i),(21,.pointer (some ⟨gQ,0,none⟩)),(26,.pointer (some ⟨gR,0,none⟩)),(27,.int .i64 0)] a∧MemOk (cx (fun _=>True) w0) w0 [(9,.dat (.slice p9 4 c9) (.l 8 (qs.map puD))),(24,.box gC 39 [.int .i64 cv,.int .i64 cc,.int .i64 cn,.int .i64 cs,.int .i64 mk,.int .i64 fl,.slice pc H.length c8]),(25,.dat (.slice pc H.length c8) (.l 1 (H.map hD))),(22,.box gQ 25 [.int .i64 q.vo,.int .i64 q.ch,.int .i64 q.cn,.int .i64 q.sz,.int .i64 q.fr,.int .i64 q.to,.int .i64 q.fl,.slice pq (q.W.map wrD).length cq]),(23,.dat (.slice pq (q.W.map wrD).length cq) (.l 2 (q.W.map wrD))),(34,.box gR 25 [.int .i64 q.vo,.int .i64 q.ch,.int .i64 q.cn,.int .i64 q.sz,.int .i64 q.fr,.int .i64 q.to,.int .i64 q.fl,.slice pR (q.W.map wrD).length cR]),(35,.dat (.slice pR (q.W.map wrD).length cR) (.l 2 (q.W.map wrD)))] w)→ea a w:=by
             clear U aF
             rintro Y eL ⟨gR,cR,pR,U,dF⟩
             refine dD _ _ ?_
             refine wsk fun gU dG =>?_
             obtain⟨n9,hn9,aa⟩:∃ n9:Nat,q.cn=(n9:Int)∧n9≤256:=⟨q.cn.toNat,by have:=hP.1.1.2.2.1;omega,by have:=hP.1.1.2.2.1;omega⟩
             have hNR:=xn hP.1 hn9
             have bP:=dF.oz [9,22,23,24,25,34,35]
             refine region_p 23 (B:=[(9,_),(22,_),(23,_),(24,_),(25,_),(34,_),(35,_)]) (bP.to i7l) bP (by kernel_rfl) (fun eM ag ay =>?_);clear bP
             refine Aa (I:=fun a w => ∃ (p3 p4:Option Addr) (c3 c4:Nat),Has 154 [(19,.pointer (some ⟨gC,0,none⟩)),(79,.slice p9 4 c9),(80,.int .i64 4),(81,.int .i64 i),(21,.pointer (some ⟨gQ,0,none⟩)),(137,.bool false),(139,.agg #[.int .i64 q.vo,.int .i64 q.ch,.int .i64 q.cn,.int .i64 q.sz,.int .i64 0,.int .i64 0,.slice p3 (List.replicate n9 ([]:List Ver)).length c3]),(141,.agg #[.int .i64 q.vo,.int .i64 q.ch,.int .i64 q.cn,.int .i64 q.sz,.int .i64 0,.int .i64 0,.slice p4 (List.replicate n9 ([]:List Ver)).length c4])] a∧MemOk (cx (fun _=>True) w0) w0 [(9,.dat (.slice p9 4 c9) (.l 8 (qs.map puD))),(24,.box gC 39 [.int .i64 cv,.int .i64 cc,.int .i64 cn,.int .i64 cs,.int .i64 mk,.int .i64 fl,.slice pc H.length c8]),(25,.dat (.slice pc H.length c8) (.l 1 (H.map hD))),(22,.box gQ 25 [.int .i64 q.vo,.int .i64 q.ch,.int .i64 q.cn,.int .i64 q.sz,.int .i64 q.fr,.int .i64 q.to,.int .i64 q.fl,.slice pq (q.W.map wrD).length cq]),(23,.dat (.slice pq (q.W.map wrD).length cq) (.l 2 (q.W.map wrD))),(34,.box gR 25 [.int .i64 q.vo,.int .i64 q.ch,.int .i64 q.cn,.int .i64 q.sz,.int .i64 q.fr,.int .i64 q.to,.int .i64 q.fl,.slice pR (q.W.map wrD).length cR]),(35,.dat (.slice pR (q.W.map wrD).length cR) (.l 2 (q.W.map wrD))),(32,.dat (.slice p3 (List.replicate n9 ([]:List Ver)).length c3) (.l 1 ((List.replicate n9 ([]:List Ver)).map hD))),(33,.dat (.slice p4 (List.replicate n9 ([]:List Ver)).length c4) (.l 1 ((List.replicate n9 ([]:List Ver)).map hD)))] w) 11 8191 ?_ fun hD =>?_
             ·
              clear U ay
              rintro Y eN ⟨p3,p4,c3,c4,U,bQ⟩
              refine lh 13 rfl (by kernel_rfl) (lA U rfl rfl rfl rfl) (fun K hK =>?_)
              refine lG U Tryz.func16 rfl rfl rfl rfl (qy _ q.vo q.ch q.cn q.sz 0 0 (List.replicate n9 []) _ _ _ _ _ (by rw[List.length_replicate];omega) (fun h hh=>by rw[List.eq_of_mem_replicate hh];exact Nat.zero_le _) (bQ.into [(1,32),(2,33)] (by decide) rfl)) ?_
              rintro e eO ⟨rfl,bh⟩
              have ci:=bQ.back bh [(32,1),(33,2)] (by decide);clear bh bQ
              have aG:=ci.oz [32,33,9,22,23,24,25,34,35]
              refine⟨_,rfl,?_⟩;intro Y U
              refine hK _ _ (aG.to i7l) ?_;clear hK K
              refine goR ag [14,15,16,17,19] [17,19] 5 16383 786431 U (aG.to i7l) (.not rfl<|.pickF rfl rfl<|.move rfl<|.loadBR hh (i:=22) rfl rfl U25 rfl lF (by simp) (by dsimp only [List.drop,List.take] <;> rfl)<|.loadBR hh (i:=22) rfl rfl U25 rfl lF (by simp) (by dsimp only [List.drop,List.take] <;> rfl) .nil) fun Y U =>?_
              refine lh 18 rfl (by kernel_rfl) (lA U rfl rfl rfl rfl) (fun K hK =>?_)
              refine lG U Tryz.func21 rfl rfl rfl rfl (sO _ q n9 hn9 aa _ _ _ _ (aG.into [] (by decide) rfl)) ?_
              rintro e eP ⟨eQ,eR,rfl,bi⟩
              have cj:=aG.back bi [(800,9)] (by decide);clear bi aG
              have aT:=cj.oz [800,9,22,23,24,25,32,33,34,35]
              refine⟨_,rfl,?_⟩;intro Y U
              refine hK _ _ (aT.to i7l) ?_;clear hK K
              refine lh 20 rfl (by kernel_rfl) (lA U rfl rfl rfl rfl) (fun K hK =>?_)
              refine lG U Tryz.func17 rfl rfl rfl rfl (o8 _ q.vo q.ch q.cn q.sz 0 0 (List.replicate n9 []) q _ _ _ _ _ _ (qY n9) (by rw[List.length_replicate];exact hn9.symm) (by rw[List.length_replicate];omega) hqW (aT.into [(1,800),(2,23)] (by decide) rfl)) ?_
              rintro e eS ⟨eT,eU,rfl,bj⟩
              have ck:=aT.back bj [(800,1),(23,2),(801,9)] (by decide);clear bj aT
              have aU:=ck.oz [800,23,801,9,22,24,25,32,33,34,35]
              refine⟨_,rfl,?_⟩;intro Y U
              refine hK _ _ (aU.to i7l) ?_;clear hK K
              refine lh 21 rfl (by kernel_rfl) (lA U rfl rfl rfl rfl) (fun K hK =>?_)
              refine lG U Tryz.func23 rfl rfl rfl rfl (nS _ q.vo q.ch q.cn q.sz (nj q.vo q.ch q.cn q.sz 0 0 (List.replicate n9 []) q).1 (nj q.vo q.ch q.cn q.sz 0 0 (List.replicate n9 []) q).2.1 (nj q.vo q.ch q.cn q.sz 0 0 (List.replicate n9 []) q).2.2 _ _ _ _ (by rw[(nk (qY n9)).1,List.length_replicate];omega) hNR.2 (aU.into [(1,801)] (by decide) rfl)) ?_
              rintro e eV ⟨br,rfl,hbr,bk⟩
              have cm:=aU.back bk [(801,1)] (by decide);clear bk aU
              have bR:=cm.oz [801,9,22,23,24,25,32,33,34,35,800]
              refine⟨_,rfl,?_⟩;intro Y U
              refine hK _ _ (bR.to i7l) ?_;clear hK K
              revert U
              revert U
              obtain rfl:br=true:=hbr.2 hNR.1
              intro U
              intro U
              refine goA ag [22] 1 4194303 8388607 U (bR.to i7l) (.not rfl .nil) fun Y U =>?_
              refine se 23 ?_
              refine e_y U rfl (n0 U rfl rfl) fun Y U =>?_
              refine wad ?_
              refine dG _ _ ?_
              refine wcf U ?_
              refine zss (aS _ _ ?_)
              replace U:=U.oz [19,79,80,81]
              refine wp_region_lit ?_
              refine k9 U (.inc (i+1)<|.move rfl .nil) fun Y U =>?_
              refine wpList_nil ?_
              show ∃ n',n'<_∧_
              exact⟨4 - (i+1),by omega,i+1,_,_,_,_,_,by omega,rfl,U.only [19,79,80,81],bR.ren [(9,9),(24,24),(25,25)] (by decide)⟩
             refine goA ag [0,1,2] 3 0 7 U (ay.to i7l) (.move rfl<|.neq rfl rfl<|.move rfl .nil) fun Y U =>?_
             refine bc U 131 ?_ ?_
             · intro hb _;exact absurd hb (by simp)
             clear U;intro _ U
             refine goR ag [3,4] [3,4] 2 7 31 U (ay.to i7l) (.loadBR hh (i:=34) rfl rfl U25 rfl lF (by simp) (by dsimp only [List.drop,List.take] <;> rfl)<|.loadBR hh (i:=22) rfl rfl U25 rfl lF (by simp) (by dsimp only [List.drop,List.take] <;> rfl) .nil) fun Y U =>?_
             refine lh 5 rfl (by kernel_rfl) (lA U rfl rfl rfl rfl) (fun K hK =>?_)
             refine lG U Tryz.func20 rfl rfl rfl rfl (qW q.vo q.ch q.cn q.sz q.fr q.to q.fl q.W _ _ _ _ _ _ _ ((ay.rd (i:=35) rfl).any) ((ay.rd (i:=23) rfl).any) (by have:=hqW.1;omega) hqW.len) ?_
             rintro e eW ⟨rfl,co⟩
             have aH:=ay.later co
             refine⟨_,rfl,?_⟩;intro Y U
             refine hK _ _ (aH.to i7l) ?_;clear hK K
             refine goR ag [6,7,8,9,11] [9,11] 5 63 3071 U (aH.to i7l) (.not rfl<|.pickF rfl rfl<|.move rfl<|.loadBR hh (i:=22) rfl rfl U25 rfl lF (by simp) (by dsimp only [List.drop,List.take] <;> rfl)<|.loadBR hh (i:=22) rfl rfl U25 rfl lF (by simp) (by dsimp only [List.drop,List.take] <;> rfl) .nil) fun Y U =>?_
             refine lh 10 rfl (by kernel_rfl) (lA U rfl rfl rfl rfl) (fun K hK =>?_)
             refine lG U Tryz.func21 rfl rfl rfl rfl (sO _ q n9 hn9 aa _ _ _ _ (aH.into [] (by decide) rfl)) ?_
             rintro e eX ⟨eY,eZ,rfl,bm⟩
             have cp:=aH.back bm [(700,9)] (by decide);clear bm aH
             have aW:=cp.oz [700,9,22,23,24,25,34,35]
             refine⟨_,rfl,?_⟩;intro Y U
             refine hK _ _ (aW.to i7l) ?_;clear hK K
             refine lh 12 rfl (by kernel_rfl) (lA U rfl rfl rfl rfl) (fun K hK =>?_)
             refine lG U Tryz.func22 rfl rfl rfl rfl (xp _ q n9 hn9 aa _ _ _ _ (aW.into [] (by decide) rfl)) ?_
             rintro e e0 ⟨e1,e2,rfl,bn⟩
             have ct:=aW.back bn [(701,9)] (by decide);clear bn aW
             have cu:=ct.oz [701,9,22,23,24,25,34,35,700]
             refine⟨_,rfl,?_⟩;intro Y U
             refine hK _ _ (cu.to i7l) ?_;clear hK K
             refine ldl 8191 ?_
             exact hD _ _ ⟨_,_,_,_,U.only [19,79,80,81,21,137,139,141],cu.ren [(9,9),(24,24),(25,25),(22,22),(23,23),(34,34),(35,35),(32,700),(33,701)] (by decide)⟩
           refine wp_region_lit ?_
           refine k9 U (.move rfl .nil) fun Y U =>?_
           refine plz (ecl U Tryz.func19 rfl (og _ q.vo q.ch q.cn q.sz q.fr q.to q.fl q.W b _ _ _ hP.1 (fun e he=>(hqW.2 e he).2) hP.2 (aF.into [(1,31)] (by decide) rfl)) ?_)
           rintro e e3 ⟨e4,e5,rfl,bo⟩
           have cw:=aF.back bo [(31,1),(600,9)] (by decide);clear bo aF
           have dH:=cw.oz [31,600,9,22,23,24,25]
           refine⟨_,rfl,?_⟩;intro Y U
           refine k9 U (.move rfl<|.extract rfl rfl<|.extract rfl rfl .nil) fun Y U =>?_
           refine plz (lc U dH 601 mL rfl fun e6 Y e7 U dI _ _ =>?_)
           refine plz (stw U dI 601 lF fun e8 dJ _ =>?_)
           refine k9 U (.assign rfl .nil) fun Y U =>?_
           refine wpList_nil ?_
           show ea _ _
           exact dE _ _ ⟨_,_,_,U.only [19,79,80,81,21,26,27],dJ.ren [(9,9),(24,24),(25,25),(22,22),(23,23),(34,601),(35,600)] (by decide)⟩
         have bS:=cg.oz [9,22,23,24,25,30,31]
         refine region_p 26 (B:=[(9,_),(22,_),(23,_),(24,_),(25,_),(30,_),(31,_)]) (bS.to i7l) bS (by kernel_rfl) (fun e9 ab aj =>?_);clear bS
         refine Aa (I:=fun a w => ∃ (b1:Bool),Has 154 [(19,.pointer (some ⟨gC,0,none⟩)),(79,.slice p9 4 c9),(80,.int .i64 4),(81,.int .i64 i),(21,.pointer (some ⟨gQ,0,none⟩)),(22,.slice p1 b.length c1),(23,.int .i64 er),(24,.slice p2 b.length c2),(25,.int .i64 er),(105,.bool false),(107,.bool b1),(109,.bool b1)] a∧MemOk (cx (fun _=>True) w0) w0 [(9,.dat (.slice p9 4 c9) (.l 8 (qs.map puD))),(24,.box gC 39 [.int .i64 cv,.int .i64 cc,.int .i64 cn,.int .i64 cs,.int .i64 mk,.int .i64 fl,.slice pc H.length c8]),(25,.dat (.slice pc H.length c8) (.l 1 (H.map hD))),(22,.box gQ 25 [.int .i64 q.vo,.int .i64 q.ch,.int .i64 q.cn,.int .i64 q.sz,.int .i64 q.fr,.int .i64 q.to,.int .i64 q.fl,.slice pq (q.W.map wrD).length cq]),(23,.dat (.slice pq (q.W.map wrD).length cq) (.l 2 (q.W.map wrD))),(30,.dat (.slice p1 b.length c1) (.ns .u8 b)),(31,.dat (.slice p2 b.length c2) (.ns .u8 b))] w) 12 32767 ?_ fun hD =>?_
         ·
          clear U aj
          rintro Y fb ⟨b1,U,aI⟩
          refine goA ab [15,16,17] 3 32767 262143 U (aI.to i7l) (.neqB rfl rfl U4<|.pickF rfl rfl<|.move rfl .nil) fun Y U =>?_
          refine bc U 112 ?_ ?_
          · intro hb _;exact absurd hb (by simp)
          clear U;intro _ U
          refine goR ab [18,19,21,22] [18,19,21,22] 4 262143 7340031 U (aI.to i7l) (.loadBR hh (i:=24) rfl rfl U39 rfl lH (by simp) (by dsimp only [List.drop,List.take] <;> rfl)<|.loadBR hh (i:=22) rfl rfl U25 rfl lF (by simp) (by dsimp only [List.drop,List.take] <;> rfl)<|.loadBR hh (i:=24) rfl rfl U39 rfl lH (by simp) (by dsimp only [List.drop,List.take] <;> rfl)<|.loadBR hh (i:=22) rfl rfl U25 rfl lF (by simp) (by dsimp only [List.drop,List.take] <;> rfl) .nil) fun Y U =>?_
          refine lh 20 rfl (by kernel_rfl) (lA U rfl rfl rfl rfl) (fun K hK =>?_)
          refine lG U Tryz.func17 rfl rfl rfl rfl (o8 _ cv cc cn cs mk fl H q _ _ _ _ _ _ hHB hHn (by omega) hqW (aI.into [(1,25),(2,23)] (by decide) rfl)) ?_
          rintro e fc ⟨fd,ff,rfl,bp⟩
          have cy:=aI.back bp [(25,1),(23,2),(600,9)] (by decide);clear bp aI
          have aX:=cy.oz [25,23,600,9,22,24,30,31]
          refine⟨_,rfl,?_⟩;intro Y U
          refine hK _ _ (aX.to i7l) ?_;clear hK K
          refine lh 23 rfl (by kernel_rfl) (lA U rfl rfl rfl rfl) (fun K hK =>?_)
          refine lG U Tryz.func18 rfl rfl rfl rfl (sM _ cv cc cn cs mk fl H q _ _ _ _ _ _ hHB hHn (by omega) hqW (aX.into [(1,25),(2,23)] (by decide) rfl)) ?_
          rintro e fg ⟨fh,fi,rfl,bq⟩
          have cz:=aX.back bq [(25,1),(23,2),(601,9)] (by decide);clear bq aX
          have aY:=cz.oz [25,23,601,9,22,24,30,31,600]
          refine⟨_,rfl,?_⟩;intro Y U
          refine hK _ _ (aY.to i7l) ?_;clear hK K
          refine lh 24 rfl (by kernel_rfl) (lA U rfl rfl rfl rfl) (fun K hK =>?_)
          refine lG U Tryz.func16 rfl rfl rfl rfl (qy _ cv cc cn cs (nj cv cc cn cs mk fl H q).1 (nj cv cc cn cs mk fl H q).2.1 (nj cv cc cn cs mk fl H q).2.2 _ _ _ _ _ (by rw[(nk hHB).1];omega) (nk hHB).2 (aY.into [(1,600),(2,601)] (by decide) rfl)) ?_
          rintro e fj ⟨rfl,bs⟩
          have cA:=aY.back bs [(600,1),(601,2)] (by decide);clear bs aY
          have bT:=cA.oz [600,601,9,22,23,24,25,30,31]
          refine⟨_,rfl,?_⟩;intro Y U
          refine hK _ _ (bT.to i7l) ?_;clear hK K
          refine goA ab [25] 1 33554431 67108863 U (bT.to i7l) (.not rfl .nil) fun Y U =>?_
          refine se 26 ?_
          refine e_y U rfl (n0 U rfl rfl) fun Y U =>?_
          refine wad ?_
          show d9 _ _
          exact dB _ _ ⟨U.only [19,79,80,81,21,24,25,121],bT.ren [(9,9),(24,24),(25,25),(22,22),(23,23),(31,31)] (by decide)⟩
         refine goA ab [0,1,2,3] 4 0 15 U (aj.to i7l) (.move rfl<|.move rfl<|.neq rfl rfl<|.move rfl .nil) fun Y U =>?_
         refine bc U 98 ?_ ?_
         · intro hb _;exact absurd hb (by simp)
         clear U;intro _ U
         refine goR ab [4,5,6,7,8,9,10] [5,7] 7 15 2047 U (aj.to i7l) (.move rfl<|.str rfl (fun _ h_=>(h_.nums (i:=30) rfl)) U22 U5 U9<|.move rfl<|.str rfl (fun _ h_=>(h_.nums (i:=31) rfl)) U22 U5 U9<|.neqS rfl rfl<|.pickF rfl rfl<|.move rfl .nil) fun Y U =>?_
         refine bc U 105 ?_ ?_
         · intro hb _;exact absurd hb (by simp)
         clear U;intro _ U
         refine goR ab [11,13] [11,13] 2 2047 12287 U (aj.to i7l) (.loadBR hh (i:=22) rfl rfl U25 rfl lF (by simp) (by dsimp only [List.drop,List.take] <;> rfl)<|.loadBR hh (i:=22) rfl rfl U25 rfl lF (by simp) (by dsimp only [List.drop,List.take] <;> rfl) .nil) fun Y U =>?_
         refine lh 12 rfl (by kernel_rfl) (lA U rfl rfl rfl rfl) (fun K hK =>?_)
         refine lG U Tryz.func14 rfl rfl rfl rfl (nh _ q.vo q.ch q.cn q.sz q.fr q.to q.fl q.W _ _ _ _ (by have:=hqW.1;omega) hqW.len (aj.into [(1,23)] (by decide) rfl)) ?_
         rintro e fk ⟨b1,rfl,hb1,bt⟩
         have cB:=aj.back bt [(23,1)] (by decide);clear bt aj
         have aZ:=cB.oz [23,9,22,24,25,30,31]
         refine⟨_,rfl,?_⟩;intro Y U
         refine hK _ _ (aZ.to i7l) ?_;clear hK K
         refine lh 14 rfl (by kernel_rfl) (lA U rfl rfl rfl rfl) (fun K hK =>?_)
         refine lG U Tryz.func15 rfl rfl rfl rfl (nJ _ q.vo q.ch q.cn q.sz q.fr q.to q.fl q.W _ _ _ _ (by have:=hqW.1;omega) hqW.len (aZ.into [(1,23)] (by decide) rfl)) ?_
         rintro e fm ⟨b2,rfl,hb2,bu⟩
         have cC:=aZ.back bu [(23,1)] (by decide);clear bu aZ
         have cD:=cC.oz [23,9,22,24,25,30,31]
         refine⟨_,rfl,?_⟩;intro Y U
         refine hK _ _ (cD.to i7l) ?_;clear hK K
         revert U
         revert U
         obtain rfl:b2=b1:=by cases b1 <;> cases b2 <;> simp_all
         intro U
         intro U
         refine ldl 32767 ?_
         exact hD _ _ ⟨_,U.only [19,79,80,81,21,22,23,24,25,105,107,109],cD.ren [(9,9),(24,24),(25,25),(22,22),(23,23),(30,30),(31,31)] (by decide)⟩
       refine wp_region_lit ?_
       refine k9 U (.loadBR aE (i:=22) rfl rfl U25 rfl lF (by simp) (by dsimp only [List.drop,List.take] <;> rfl) .nil) fun Y U =>?_
       refine plz (ecl U Tryz.func13 rfl (tv _ q.vo q.ch q.cn q.sz q.fr q.to q.fl q.W _ _ _ _ hP (aE.into [(1,23)] (by decide) rfl)) ?_)
       rintro e fo ⟨fp,fq,rfl,bv⟩
       have cE:=aE.back bv [(23,1),(401,9)] (by decide);clear bv aE
       have dK:=cE.oz [23,401,9,22,24,25,400]
       refine⟨_,rfl,?_⟩;intro Y U
       refine k9 U (.move rfl<|.extract rfl rfl<|.extract rfl rfl<|.assign rfl<|.assign rfl .nil) fun Y U =>?_
       refine wpList_nil ?_
       have dL:=dK.freezeN 400 rfl
       have dM:=dL.freezeN 401 rfl
       show d8 _ _
       exact dy _ _ ⟨mO q.vo q.ch q.cn q.sz q.fr q.to q.fl q.W,0,_,_,_,_,.inl ⟨hP,rfl,rfl⟩,U.only [19,79,80,81,21,22,23,24,25],dM.ren [(9,9),(24,24),(25,25),(22,22),(23,23),(30,400),(31,401)] (by decide)⟩
      refine wp_region_lit ?_
      refine k9 U (.loadBR ae (i:=22) rfl rfl U25 rfl lF (by simp) (by dsimp only [List.drop,List.take] <;> rfl) .nil) fun Y U =>?_
      refine plz (ecl U Tryz.func12 rfl (tz _ q.vo q.ch q.cn q.sz q.fr q.to q.fl q.W _ _ _ _ (by have:=hqW.1;omega) hqW.len hP (ae.into [(1,23)] (by decide) rfl)) ?_)
      rintro e fs ⟨rfl,bw⟩
      have cF:=ae.back bw [(23,1)] (by decide);clear bw ae
      have aJ:=cF.oz [23,9,22,24,25]
      refine⟨_,rfl,?_⟩;intro Y U
      refine gz ce U (.move rfl<|.extract rfl rfl<|.extract rfl rfl<|.assign rfl<|.assign rfl<|.nil) fun Y U =>?_
      refine wsk fun eb dN =>?_
      have dO:∀ (a:Act) (w:World),(∃ (b:List Int) (er:Int) (p1 p2:Option Addr) (c1 c2:Nat),((PuQ q∧er=0∧b=mO q.vo q.ch q.cn q.sz q.fr q.to q.fl q.W)∨(¬ PuQ q∧er=23))∧Has 154 [(19,.pointer (some ⟨gC,0,none⟩)),(79,.slice p9 4 c9),(80,.int .i64 4),(81,.int .i64 i),(21,.pointer (some ⟨gQ,0,none⟩)),(22,.slice p1 b.length c1),(23,.int .i64 er),(24,.slice p2 b.length c2),(25,.int .i64 er)] a∧MemOk (cx (fun _=>True) w0) w0 [(9,.dat (.slice p9 4 c9) (.l 8 (qs.map puD))),(24,.box gC 39 [.int .i64 cv,.int .i64 cc,.int .i64 cn,.int .i64 cs,.int .i64 mk,.int .i64 fl,.slice pc H.length c8]),(25,.dat (.slice pc H.length c8) (.l 1 (H.map hD))),(22,.box gQ 25 [.int .i64 q.vo,.int .i64 q.ch,.int .i64 q.cn,.int .i64 q.sz,.int .i64 q.fr,.int .i64 q.to,.int .i64 q.fl,.slice pq (q.W.map wrD).length cq]),(23,.dat (.slice pq (q.W.map wrD).length cq) (.l 2 (q.W.map wrD))),(30,.dat (.slice p1 b.length c1) (.ns .u8 b)),(31,.dat (.slice p2 b.length c2) (.ns .u8 b))] w)→eb a w:=by
        clear U aJ
        rintro Y ft ⟨b,er,p1,p2,c1,c2,hDj,U,cG⟩
        refine dN _ _ ?_
        refine wsk fun gV dP =>?_
        refine wsk fun ec dQ =>?_
        have dR:∀ (a:Act) (w:World),(Has 154 [(19,.pointer (some ⟨gC,0,none⟩)),(79,.slice p9 4 c9),(80,.int .i64 4),(81,.int .i64 i),(21,.pointer (some ⟨gQ,0,none⟩)),(24,.slice p2 b.length c2),(25,.int .i64 er),(121,.bool false)] a∧MemOk (cx (fun _=>True) w0) w0 [(9,.dat (.slice p9 4 c9) (.l 8 (qs.map puD))),(24,.box gC 39 [.int .i64 cv,.int .i64 cc,.int .i64 cn,.int .i64 cs,.int .i64 mk,.int .i64 fl,.slice pc H.length c8]),(25,.dat (.slice pc H.length c8) (.l 1 (H.map hD))),(22,.box gQ 25 [.int .i64 q.vo,.int .i64 q.ch,.int .i64 q.cn,.int .i64 q.sz,.int .i64 q.fr,.int .i64 q.to,.int .i64 q.fl,.slice pq (q.W.map wrD).length cq]),(23,.dat (.slice pq (q.W.map wrD).length cq) (.l 2 (q.W.map wrD))),(31,.dat (.slice p2 b.length c2) (.ns .u8 b))] w)→ec a w:=by
          clear U cG
          rintro Y fu ⟨U,aK⟩
          refine dQ _ _ ?_
          refine wcf U ?_
          refine zss (dP _ _ ?_)
          refine wsk fun gW dS =>?_
          refine la U (.move rfl<|.neq rfl rfl .nil) fun Y U =>?_
          refine bc U 123 ?_ ?_
          ·
           intro ao U;try simp only [QQ,Qax] at ao
           refine wct U ?_
           refine wp_exit ?_
           refine aS _ _ ?_
           replace U:=U.oz [19,79,80,81]
           refine wp_region_lit ?_
           refine k9 U (.inc (i+1)<|.move rfl .nil) fun Y U =>?_
           refine wpList_nil ?_
           show ∃ n',n'<_∧_
           exact⟨4 - (i+1),by omega,i+1,_,_,_,_,_,by omega,rfl,U.only [19,79,80,81],aK.ren [(9,9),(24,24),(25,25)] (by decide)⟩
          intro ao U;try simp only [QQ,Qax] at ao
          have hP:PuQ q∧b=mO q.vo q.ch q.cn q.sz q.fr q.to q.fl q.W:=by
            rcases hDj with h9|h9
            · exact⟨h9.1,h9.2.2⟩
            exfalso;have:=h9.2;have:=ao;first|omega|(simp at this;omega)
          refine wcf U ?_
          refine zss (dS _ _ ?_)
          refine wsk fun ed dT =>?_
          have dU:∀ (a:Act) (w:World),(∃ (gR cR:Nat) (pR:Option Addr),Has 154 [(19,.pointer (some ⟨gC,0,none⟩)),(79,.slice p9 4 c9),(80,.int .i64 4),(81,.int .i64 i),(21,.pointer (some ⟨gQ,0,none⟩)),(26,.pointer (some ⟨gR,0,none⟩)),(27,.int .i64 0)] a∧MemOk (cx (fun _=>True) w0) w0 [(9,.dat (.slice p9 4 c9) (.l 8 (qs.map puD))),(24,.box gC 39 [.int .i64 cv,.int .i64 cc,.int .i64 cn,.int .i64 cs,.int .i64 mk,.int .i64 fl,.slice pc H.length c8]),(25,.dat (.slice pc H.length c8) (.l 1 (H.map hD))),(22,.box gQ 25 [.int .i64 q.vo,.int .i64 q.ch,.int .i64 q.cn,.int .i64 q.sz,.int .i64 q.fr,.int .i64 q.to,.int .i64 q.fl,.slice pq (q.W.map wrD).length cq]),(23,.dat (.slice pq (q.W.map wrD).length cq) (.l 2 (q.W.map wrD))),(34,.box gR 25 [.int .i64 q.vo,.int .i64 q.ch,.int .i64 q.cn,.int .i64 q.sz,.int .i64 q.fr,.int .i64 q.to,.int .i64 q.fl,.slice pR (q.W.map wrD).length cR]),(35,.dat (.slice pR (q.W.map wrD).length cR) (.l 2 (q.W.map wrD)))] w)→ed a w:=by
            clear U aK
            rintro Y fv ⟨gR,cR,pR,U,dV⟩
            refine dT _ _ ?_
            refine wsk fun gX dW =>?_
            obtain⟨n9,hn9,aa⟩:∃ n9:Nat,q.cn=(n9:Int)∧n9≤256:=⟨q.cn.toNat,by have:=hP.1.1.2.2.1;omega,by have:=hP.1.1.2.2.1;omega⟩
            have hNR:=xn hP.1 hn9
            have bU:=dV.oz [9,22,23,24,25,34,35]
            refine region_p 23 (B:=[(9,_),(22,_),(23,_),(24,_),(25,_),(34,_),(35,_)]) (bU.to i7l) bU (by kernel_rfl) (fun fw ah az =>?_);clear bU
            refine Aa (I:=fun a w => ∃ (p3 p4:Option Addr) (c3 c4:Nat),Has 154 [(19,.pointer (some ⟨gC,0,none⟩)),(79,.slice p9 4 c9),(80,.int .i64 4),(81,.int .i64 i),(21,.pointer (some ⟨gQ,0,none⟩)),(137,.bool false),(139,.agg #[.int .i64 q.vo,.int .i64 q.ch,.int .i64 q.cn,.int .i64 q.sz,.int .i64 0,.int .i64 0,.slice p3 (List.replicate n9 ([]:List Ver)).length c3]),(141,.agg #[.int .i64 q.vo,.int .i64 q.ch,.int .i64 q.cn,.int .i64 q.sz,.int .i64 0,.int .i64 0,.slice p4 (List.replicate n9 ([]:List Ver)).length c4])] a∧MemOk (cx (fun _=>True) w0) w0 [(9,.dat (.slice p9 4 c9) (.l 8 (qs.map puD))),(24,.box gC 39 [.int .i64 cv,.int .i64 cc,.int .i64 cn,.int .i64 cs,.int .i64 mk,.int .i64 fl,.slice pc H.length c8]),(25,.dat (.slice pc H.length c8) (.l 1 (H.map hD))),(22,.box gQ 25 [.int .i64 q.vo,.int .i64 q.ch,.int .i64 q.cn,.int .i64 q.sz,.int .i64 q.fr,.int .i64 q.to,.int .i64 q.fl,.slice pq (q.W.map wrD).length cq]),(23,.dat (.slice pq (q.W.map wrD).length cq) (.l 2 (q.W.map wrD))),(34,.box gR 25 [.int .i64 q.vo,.int .i64 q.ch,.int .i64 q.cn,.int .i64 q.sz,.int .i64 q.fr,.int .i64 q.to,.int .i64 q.fl,.slice pR (q.W.map wrD).length cR]),(35,.dat (.slice pR (q.W.map wrD).length cR) (.l 2 (q.W.map wrD))),(32,.dat (.slice p3 (List.replicate n9 ([]:List Ver)).length c3) (.l 1 ((List.replicate n9 ([]:List Ver)).map hD))),(33,.dat (.slice p4 (List.replicate n9 ([]:List Ver)).length c4) (.l 1 ((List.replicate n9 ([]:List Ver)).map hD)))] w) 11 8191 ?_ fun hD =>?_
            ·
             clear U az
             rintro Y fx ⟨p3,p4,c3,c4,U,bW⟩
             refine lh 13 rfl (by kernel_rfl) (lA U rfl rfl rfl rfl) (fun K hK =>?_)
             refine lG U Tryz.func16 rfl rfl rfl rfl (qy _ q.vo q.ch q.cn q.sz 0 0 (List.replicate n9 []) _ _ _ _ _ (by rw[List.length_replicate];omega) (fun h hh=>by rw[List.eq_of_mem_replicate hh];exact Nat.zero_le _) (bW.into [(1,32),(2,33)] (by decide) rfl)) ?_
             rintro e fy ⟨rfl,bx⟩
             have cH:=bW.back bx [(32,1),(33,2)] (by decide);clear bx bW
             have aL:=cH.oz [32,33,9,22,23,24,25,34,35]
             refine⟨_,rfl,?_⟩;intro Y U
             refine hK _ _ (aL.to i7l) ?_;clear hK K
             refine goR ah [14,15,16,17,19] [17,19] 5 16383 786431 U (aL.to i7l) (.not rfl<|.pickF rfl rfl<|.move rfl<|.loadBR hh (i:=22) rfl rfl U25 rfl lF (by simp) (by dsimp only [List.drop,List.take] <;> rfl)<|.loadBR hh (i:=22) rfl rfl U25 rfl lF (by simp) (by dsimp only [List.drop,List.take] <;> rfl) .nil) fun Y U =>?_
             refine lh 18 rfl (by kernel_rfl) (lA U rfl rfl rfl rfl) (fun K hK =>?_)
             refine lG U Tryz.func21 rfl rfl rfl rfl (sO _ q n9 hn9 aa _ _ _ _ (aL.into [] (by decide) rfl)) ?_
             rintro e fz ⟨fA,fB,rfl,bz⟩
             have cI:=aL.back bz [(800,9)] (by decide);clear bz aL
             have a7:=cI.oz [800,9,22,23,24,25,32,33,34,35]
             refine⟨_,rfl,?_⟩;intro Y U
             refine hK _ _ (a7.to i7l) ?_;clear hK K
             refine lh 20 rfl (by kernel_rfl) (lA U rfl rfl rfl rfl) (fun K hK =>?_)
             refine lG U Tryz.func17 rfl rfl rfl rfl (o8 _ q.vo q.ch q.cn q.sz 0 0 (List.replicate n9 []) q _ _ _ _ _ _ (qY n9) (by rw[List.length_replicate];exact hn9.symm) (by rw[List.length_replicate];omega) hqW (a7.into [(1,800),(2,23)] (by decide) rfl)) ?_
             rintro e fC ⟨fD,fE,rfl,bA⟩
             have cJ:=a7.back bA [(800,1),(23,2),(801,9)] (by decide);clear bA a7
             have a8:=cJ.oz [800,23,801,9,22,24,25,32,33,34,35]
             refine⟨_,rfl,?_⟩;intro Y U
             refine hK _ _ (a8.to i7l) ?_;clear hK K
             refine lh 21 rfl (by kernel_rfl) (lA U rfl rfl rfl rfl) (fun K hK =>?_)
             refine lG U Tryz.func23 rfl rfl rfl rfl (nS _ q.vo q.ch q.cn q.sz (nj q.vo q.ch q.cn q.sz 0 0 (List.replicate n9 []) q).1 (nj q.vo q.ch q.cn q.sz 0 0 (List.replicate n9 []) q).2.1 (nj q.vo q.ch q.cn q.sz 0 0 (List.replicate n9 []) q).2.2 _ _ _ _ (by rw[(nk (qY n9)).1,List.length_replicate];omega) hNR.2 (a8.into [(1,801)] (by decide) rfl)) ?_
             rintro e fF ⟨br,rfl,hbr,bB⟩
             have cK:=a8.back bB [(801,1)] (by decide);clear bB a8
             have bX:=cK.oz [801,9,22,23,24,25,32,33,34,35,800]
             refine⟨_,rfl,?_⟩;intro Y U
             refine hK _ _ (bX.to i7l) ?_;clear hK K
             revert U
             revert U
             obtain rfl:br=true:=hbr.2 hNR.1
             intro U
             intro U
             refine goA ah [22] 1 4194303 8388607 U (bX.to i7l) (.not rfl .nil) fun Y U =>?_
             refine se 23 ?_
             refine e_y U rfl (n0 U rfl rfl) fun Y U =>?_
             refine wad ?_
             refine dW _ _ ?_
             refine wcf U ?_
             refine zss (aS _ _ ?_)
             replace U:=U.oz [19,79,80,81]
             refine wp_region_lit ?_
             refine k9 U (.inc (i+1)<|.move rfl .nil) fun Y U =>?_
             refine wpList_nil ?_
             show ∃ n',n'<_∧_
             exact⟨4 - (i+1),by omega,i+1,_,_,_,_,_,by omega,rfl,U.only [19,79,80,81],bX.ren [(9,9),(24,24),(25,25)] (by decide)⟩
            refine goA ah [0,1,2] 3 0 7 U (az.to i7l) (.move rfl<|.neq rfl rfl<|.move rfl .nil) fun Y U =>?_
            refine bc U 131 ?_ ?_
            · intro hb _;exact absurd hb (by simp)
            clear U;intro _ U
            refine goR ah [3,4] [3,4] 2 7 31 U (az.to i7l) (.loadBR hh (i:=34) rfl rfl U25 rfl lF (by simp) (by dsimp only [List.drop,List.take] <;> rfl)<|.loadBR hh (i:=22) rfl rfl U25 rfl lF (by simp) (by dsimp only [List.drop,List.take] <;> rfl) .nil) fun Y U =>?_
            refine lh 5 rfl (by kernel_rfl) (lA U rfl rfl rfl rfl) (fun K hK =>?_)
            refine lG U Tryz.func20 rfl rfl rfl rfl (qW q.vo q.ch q.cn q.sz q.fr q.to q.fl q.W _ _ _ _ _ _ _ ((az.rd (i:=35) rfl).any) ((az.rd (i:=23) rfl).any) (by have:=hqW.1;omega) hqW.len) ?_
            rintro e fG ⟨rfl,cL⟩
            have aM:=az.later cL
            refine⟨_,rfl,?_⟩;intro Y U
            refine hK _ _ (aM.to i7l) ?_;clear hK K
            refine goR ah [6,7,8,9,11] [9,11] 5 63 3071 U (aM.to i7l) (.not rfl<|.pickF rfl rfl<|.move rfl<|.loadBR hh (i:=22) rfl rfl U25 rfl lF (by simp) (by dsimp only [List.drop,List.take] <;> rfl)<|.loadBR hh (i:=22) rfl rfl U25 rfl lF (by simp) (by dsimp only [List.drop,List.take] <;> rfl) .nil) fun Y U =>?_
            refine lh 10 rfl (by kernel_rfl) (lA U rfl rfl rfl rfl) (fun K hK =>?_)
            refine lG U Tryz.func21 rfl rfl rfl rfl (sO _ q n9 hn9 aa _ _ _ _ (aM.into [] (by decide) rfl)) ?_
            rintro e fH ⟨fI,fJ,rfl,bC⟩
            have cM:=aM.back bC [(700,9)] (by decide);clear bC aM
            have a9:=cM.oz [700,9,22,23,24,25,34,35]
            refine⟨_,rfl,?_⟩;intro Y U
            refine hK _ _ (a9.to i7l) ?_;clear hK K
            refine lh 12 rfl (by kernel_rfl) (lA U rfl rfl rfl rfl) (fun K hK =>?_)
            refine lG U Tryz.func22 rfl rfl rfl rfl (xp _ q n9 hn9 aa _ _ _ _ (a9.into [] (by decide) rfl)) ?_
            rintro e fK ⟨fL,fM,rfl,bE⟩
            have cN:=a9.back bE [(701,9)] (by decide);clear bE a9
            have cO:=cN.oz [701,9,22,23,24,25,34,35,700]
            refine⟨_,rfl,?_⟩;intro Y U
            refine hK _ _ (cO.to i7l) ?_;clear hK K
            refine ldl 8191 ?_
            exact hD _ _ ⟨_,_,_,_,U.only [19,79,80,81,21,137,139,141],cO.ren [(9,9),(24,24),(25,25),(22,22),(23,23),(34,34),(35,35),(32,700),(33,701)] (by decide)⟩
          refine wp_region_lit ?_
          refine k9 U (.move rfl .nil) fun Y U =>?_
          refine plz (ecl U Tryz.func19 rfl (og _ q.vo q.ch q.cn q.sz q.fr q.to q.fl q.W b _ _ _ hP.1 (fun e he=>(hqW.2 e he).2) hP.2 (aK.into [(1,31)] (by decide) rfl)) ?_)
          rintro e fN ⟨fO,fP,rfl,bF⟩
          have cP:=aK.back bF [(31,1),(600,9)] (by decide);clear bF aK
          have dX:=cP.oz [31,600,9,22,23,24,25]
          refine⟨_,rfl,?_⟩;intro Y U
          refine k9 U (.move rfl<|.extract rfl rfl<|.extract rfl rfl .nil) fun Y U =>?_
          refine plz (lc U dX 601 mL rfl fun fQ Y fR U dY _ _ =>?_)
          refine plz (stw U dY 601 lF fun fS dZ _ =>?_)
          refine k9 U (.assign rfl .nil) fun Y U =>?_
          refine wpList_nil ?_
          show ed _ _
          exact dU _ _ ⟨_,_,_,U.only [19,79,80,81,21,26,27],dZ.ren [(9,9),(24,24),(25,25),(22,22),(23,23),(34,601),(35,600)] (by decide)⟩
        have bY:=cG.oz [9,22,23,24,25,30,31]
        refine region_p 26 (B:=[(9,_),(22,_),(23,_),(24,_),(25,_),(30,_),(31,_)]) (bY.to i7l) bY (by kernel_rfl) (fun fT ac ak =>?_);clear bY
        refine Aa (I:=fun a w => ∃ (b1:Bool),Has 154 [(19,.pointer (some ⟨gC,0,none⟩)),(79,.slice p9 4 c9),(80,.int .i64 4),(81,.int .i64 i),(21,.pointer (some ⟨gQ,0,none⟩)),(22,.slice p1 b.length c1),(23,.int .i64 er),(24,.slice p2 b.length c2),(25,.int .i64 er),(105,.bool false),(107,.bool b1),(109,.bool b1)] a∧MemOk (cx (fun _=>True) w0) w0 [(9,.dat (.slice p9 4 c9) (.l 8 (qs.map puD))),(24,.box gC 39 [.int .i64 cv,.int .i64 cc,.int .i64 cn,.int .i64 cs,.int .i64 mk,.int .i64 fl,.slice pc H.length c8]),(25,.dat (.slice pc H.length c8) (.l 1 (H.map hD))),(22,.box gQ 25 [.int .i64 q.vo,.int .i64 q.ch,.int .i64 q.cn,.int .i64 q.sz,.int .i64 q.fr,.int .i64 q.to,.int .i64 q.fl,.slice pq (q.W.map wrD).length cq]),(23,.dat (.slice pq (q.W.map wrD).length cq) (.l 2 (q.W.map wrD))),(30,.dat (.slice p1 b.length c1) (.ns .u8 b)),(31,.dat (.slice p2 b.length c2) (.ns .u8 b))] w) 12 32767 ?_ fun hD =>?_
        ·
         clear U ak
         rintro Y fU ⟨b1,U,aN⟩
         refine goA ac [15,16,17] 3 32767 262143 U (aN.to i7l) (.neqB rfl rfl U4<|.pickF rfl rfl<|.move rfl .nil) fun Y U =>?_
         refine bc U 112 ?_ ?_
         · intro hb _;exact absurd hb (by simp)
         clear U;intro _ U
         refine goR ac [18,19,21,22] [18,19,21,22] 4 262143 7340031 U (aN.to i7l) (.loadBR hh (i:=24) rfl rfl U39 rfl lH (by simp) (by dsimp only [List.drop,List.take] <;> rfl)<|.loadBR hh (i:=22) rfl rfl U25 rfl lF (by simp) (by dsimp only [List.drop,List.take] <;> rfl)<|.loadBR hh (i:=24) rfl rfl U39 rfl lH (by simp) (by dsimp only [List.drop,List.take] <;> rfl)<|.loadBR hh (i:=22) rfl rfl U25 rfl lF (by simp) (by dsimp only [List.drop,List.take] <;> rfl) .nil) fun Y U =>?_
         refine lh 20 rfl (by kernel_rfl) (lA U rfl rfl rfl rfl) (fun K hK =>?_)
         refine lG U Tryz.func17 rfl rfl rfl rfl (o8 _ cv cc cn cs mk fl H q _ _ _ _ _ _ hHB hHn (by omega) hqW (aN.into [(1,25),(2,23)] (by decide) rfl)) ?_
         rintro e fV ⟨fW,fX,rfl,bG⟩
         have cQ:=aN.back bG [(25,1),(23,2),(600,9)] (by decide);clear bG aN
         have ba:=cQ.oz [25,23,600,9,22,24,30,31]
         refine⟨_,rfl,?_⟩;intro Y U
         refine hK _ _ (ba.to i7l) ?_;clear hK K
         refine lh 23 rfl (by kernel_rfl) (lA U rfl rfl rfl rfl) (fun K hK =>?_)
         refine lG U Tryz.func18 rfl rfl rfl rfl (sM _ cv cc cn cs mk fl H q _ _ _ _ _ _ hHB hHn (by omega) hqW (ba.into [(1,25),(2,23)] (by decide) rfl)) ?_
         rintro e fY ⟨fZ,f0,rfl,bH⟩
         have cS:=ba.back bH [(25,1),(23,2),(601,9)] (by decide);clear bH ba
         have bb:=cS.oz [25,23,601,9,22,24,30,31,600]
         refine⟨_,rfl,?_⟩;intro Y U
         refine hK _ _ (bb.to i7l) ?_;clear hK K
         refine lh 24 rfl (by kernel_rfl) (lA U rfl rfl rfl rfl) (fun K hK =>?_)
         refine lG U Tryz.func16 rfl rfl rfl rfl (qy _ cv cc cn cs (nj cv cc cn cs mk fl H q).1 (nj cv cc cn cs mk fl H q).2.1 (nj cv cc cn cs mk fl H q).2.2 _ _ _ _ _ (by rw[(nk hHB).1];omega) (nk hHB).2 (bb.into [(1,600),(2,601)] (by decide) rfl)) ?_
         rintro e f1 ⟨rfl,bI⟩
         have cT:=bb.back bI [(600,1),(601,2)] (by decide);clear bI bb
         have bZ:=cT.oz [600,601,9,22,23,24,25,30,31]
         refine⟨_,rfl,?_⟩;intro Y U
         refine hK _ _ (bZ.to i7l) ?_;clear hK K
         refine goA ac [25] 1 33554431 67108863 U (bZ.to i7l) (.not rfl .nil) fun Y U =>?_
         refine se 26 ?_
         refine e_y U rfl (n0 U rfl rfl) fun Y U =>?_
         refine wad ?_
         show ec _ _
         exact dR _ _ ⟨U.only [19,79,80,81,21,24,25,121],bZ.ren [(9,9),(24,24),(25,25),(22,22),(23,23),(31,31)] (by decide)⟩
        refine goA ac [0,1,2,3] 4 0 15 U (ak.to i7l) (.move rfl<|.move rfl<|.neq rfl rfl<|.move rfl .nil) fun Y U =>?_
        refine bc U 98 ?_ ?_
        · intro hb _;exact absurd hb (by simp)
        clear U;intro _ U
        refine goR ac [4,5,6,7,8,9,10] [5,7] 7 15 2047 U (ak.to i7l) (.move rfl<|.str rfl (fun _ h_=>(h_.nums (i:=30) rfl)) U22 U5 U9<|.move rfl<|.str rfl (fun _ h_=>(h_.nums (i:=31) rfl)) U22 U5 U9<|.neqS rfl rfl<|.pickF rfl rfl<|.move rfl .nil) fun Y U =>?_
        refine bc U 105 ?_ ?_
        · intro hb _;exact absurd hb (by simp)
        clear U;intro _ U
        refine goR ac [11,13] [11,13] 2 2047 12287 U (ak.to i7l) (.loadBR hh (i:=22) rfl rfl U25 rfl lF (by simp) (by dsimp only [List.drop,List.take] <;> rfl)<|.loadBR hh (i:=22) rfl rfl U25 rfl lF (by simp) (by dsimp only [List.drop,List.take] <;> rfl) .nil) fun Y U =>?_
        refine lh 12 rfl (by kernel_rfl) (lA U rfl rfl rfl rfl) (fun K hK =>?_)
        refine lG U Tryz.func14 rfl rfl rfl rfl (nh _ q.vo q.ch q.cn q.sz q.fr q.to q.fl q.W _ _ _ _ (by have:=hqW.1;omega) hqW.len (ak.into [(1,23)] (by decide) rfl)) ?_
        rintro e f2 ⟨b1,rfl,hb1,bJ⟩
        have cU:=ak.back bJ [(23,1)] (by decide);clear bJ ak
        have bd:=cU.oz [23,9,22,24,25,30,31]
        refine⟨_,rfl,?_⟩;intro Y U
        refine hK _ _ (bd.to i7l) ?_;clear hK K
        refine lh 14 rfl (by kernel_rfl) (lA U rfl rfl rfl rfl) (fun K hK =>?_)
        refine lG U Tryz.func15 rfl rfl rfl rfl (nJ _ q.vo q.ch q.cn q.sz q.fr q.to q.fl q.W _ _ _ _ (by have:=hqW.1;omega) hqW.len (bd.into [(1,23)] (by decide) rfl)) ?_
        rintro e f3 ⟨b2,rfl,hb2,bK⟩
        have cV:=bd.back bK [(23,1)] (by decide);clear bK bd
        have cW:=cV.oz [23,9,22,24,25,30,31]
        refine⟨_,rfl,?_⟩;intro Y U
        refine hK _ _ (cW.to i7l) ?_;clear hK K
        revert U
        revert U
        obtain rfl:b2=b1:=by cases b1 <;> cases b2 <;> simp_all
        intro U
        intro U
        refine ldl 32767 ?_
        exact hD _ _ ⟨_,U.only [19,79,80,81,21,22,23,24,25,105,107,109],cW.ren [(9,9),(24,24),(25,25),(22,22),(23,23),(30,30),(31,31)] (by decide)⟩
      refine wp_region_lit ?_
      refine k9 U (.loadBR aJ (i:=22) rfl rfl U25 rfl lF (by simp) (by dsimp only [List.drop,List.take] <;> rfl) .nil) fun Y U =>?_
      refine plz (ecl U Tryz.func13 rfl (tu _ q.vo q.ch q.cn q.sz q.fr q.to q.fl q.W _ _ _ _ (by have:=hqW.1;omega) hqW.len hP (aJ.into [(1,23)] (by decide) rfl)) ?_)
      rintro e f4 ⟨rfl,bL⟩
      have cX:=aJ.back bL [(23,1)] (by decide);clear bL aJ
      have d0:=cX.oz [23,9,22,24,25]
      refine⟨_,rfl,?_⟩;intro Y U
      refine k9 U (.move rfl<|.extract rfl rfl<|.extract rfl rfl<|.assign rfl<|.assign rfl .nil) fun Y U =>?_
      refine wpList_nil ?_
      have cY:=(d0.dat 97 rfl (Rd.nilN _ _ .u8 none)).dat 98 rfl (Rd.nilN _ _ .u8 none)
      show eb _ _
      exact dO _ _ ⟨[],23,_,_,_,_,.inr ⟨hP,rfl⟩,U.only [19,79,80,81,21,22,23,24,25],cY.ren [(9,9),(24,24),(25,25),(22,22),(23,23),(30,97),(31,98)] (by decide)⟩
    refine wp_region_lit ?_
    obtain⟨f5,f6,ee,cZ,c0,c5,c6⟩:=aR.openR (i:=9) rfl (i) (r:=[.v (.int .i64 q.vo),.v (.int .i64 q.ch),.v (.int .i64 q.cn),.v (.int .i64 q.sz),.v (.int .i64 q.fr),.v (.int .i64 q.to),.v (.int .i64 q.fl),.l 2 (q.W.map wrD)]) (yg hes) 300 rfl
    revert U
    cases cZ;clear aR c5
    rcases c0 with _|⟨ap,_|⟨aq,_|⟨ar,_|⟨au,_|⟨av,_|⟨aw,_|⟨ax,_|⟨ad,_|_⟩⟩⟩⟩⟩⟩⟩⟩
    obtain rfl:=ap.v_out
    clear ap
    obtain rfl:=aq.v_out
    clear aq
    obtain rfl:=ar.v_out
    clear ar
    obtain rfl:=au.v_out
    clear au
    obtain rfl:=av.v_out
    clear av
    obtain rfl:=aw.v_out
    clear aw
    obtain rfl:=ax.v_out
    clear ax
    obtain⟨f7,f8,c7,ef⟩:=ad.l_shape;subst c7
    intro U
    have da:=c6.dat 301 rfl (ad.cast (fun _ h=>(lf rfl h)));clear c6 ad
    refine k9 U (.c rfl (fun _ h_=>li h_ rfl rfl U42 lF (i) rfl (by omega))<|.loadCR da (i:=300) rfl rfl U25 rfl lF .nil) fun Y U =>?_
    refine plz (lc U da 302 mL rfl fun f9 Y ga U d1 _ _ =>?_)
    refine plz (stw U d1 302 lF fun gb d2 _ =>?_)
    refine wpList_nil ?_
    show d7 _ _
    exact dw _ _ ⟨q,_,_,_,_,_,_,_,_,hqsW _ (List.mem_of_getElem? hes),U.only [19,79,80,81,21],d2.ren [(9,9),(24,24),(25,25),(22,302),(23,301)] (by decide)⟩
   intro aD U;try simp only [QQ,Qax] at aD
   refine wcf U ?_
   refine wp_exit ?_
   refine dr _ _ ?_
   refine la U (.assign rfl .nil) fun Y U =>?_
   refine rt1 U ?_
   exact⟨rfl,aR.below⟩
 have hWp:WOk 4 (pwN y fn cnt mk):=zq hC hF hmkn hS
 have hWr:WOk 1000 raw.W:=⟨by omega,fun e he=>⟨by have:=(hsm e he).1;omega,hrb e he⟩⟩
 replace U:=U.oz [0,1,2,3,5,6,11,15,18,19]
 have b7:=d5.oz [11,12,20,100,101,102,103,104,105,106]
 refine region_p 14 (B:=[(11,_),(12,_),(20,_),(100,_),(101,_),(102,_),(103,_),(104,_),(105,_),(106,_)]) (b7.to qt) b7 (by kernel_rfl) (fun gc bM be =>?_);clear b7
 refine goR bM [0,1,2,3,4,6,7,8,9,13] [0,1,2,6] 10 0 9183 U (be.to qt) (.loadBR hh (i:=104) rfl rfl U25 rfl lF (by simp) (by dsimp only [List.drop,List.take] <;> rfl)<|.loadBR hh (i:=20) rfl rfl U25 rfl lF (by simp) (by dsimp only [List.drop,List.take] <;> rfl)<|.loadBR hh (i:=104) rfl rfl U25 rfl lF (by simp) (by dsimp only [List.drop,List.take] <;> rfl)<|.move rfl<|.move rfl<|.loadBR hh (i:=104) rfl rfl U25 rfl lF (by simp) (by dsimp only [List.drop,List.take] <;> rfl)<|.move rfl<|.move rfl<|.and rfl rfl rfl<|.move rfl .nil) fun Y U =>?_
 refine so 5 ?_
 refine ecl U Tryz.func11 rfl (xm _ 4 _ _ _ _ _ _ _ _ _ _ (by decide) hWp hwh _ _ _ _ (be.into [(1,101)] (by decide) rfl)) ?_
 rintro e gf ⟨a0,a1,a2,a3,a4,a5,a6,aV,gg,gh,hWa,rfl,bN⟩
 have db:=be.back bN [(101,1),(107,9)] (by decide);clear bN be
 have bf:=db.oz [101,107,11,12,20,100,102,103,104,105,106]
 refine⟨_,rfl,?_⟩;intro Y U
 refine⟨bf.to qt,?_⟩
 refine so 10 ?_
 refine ecl U Tryz.func11 rfl (xm _ 4 _ _ _ _ _ _ _ _ _ _ (by decide) hWp hwh _ _ _ _ (bf.into [(1,101)] (by decide) rfl)) ?_
 rintro e gi ⟨b0,b1,b2,b3,b4,b5,b6,bV,gj,gk,hWb,rfl,bO⟩
 have dc:=bf.back bO [(101,1),(108,9)] (by decide);clear bO bf
 have aA:=dc.oz [101,108,11,12,20,100,102,103,104,105,106,107]
 refine⟨_,rfl,?_⟩;intro Y U
 refine⟨aA.to qt,?_⟩
 refine so 11 ?_
 refine lq U aA 109 (mm:=8) rfl (.cons rfl rfl (.cons (.v _) (.cons (.v _) (.cons (.v _) (.cons (.v _) (.cons (.v _) (.cons (.v _) (.cons (.v _) (.cons (aA.rd (i:=101) rfl) .nil))))))))<|.cons rfl rfl (.cons (.v _) (.cons (.v _) (.cons (.v _) (.cons (.v _) (.cons (.v _) (.cons (.v _) (.cons (.v _) (.cons (aA.rd (i:=12) rfl) .nil))))))))<|.cons rfl rfl (.cons (.v _) (.cons (.v _) (.cons (.v _) (.cons (.v _) (.cons (.v _) (.cons (.v _) (.cons (.v _) (.cons (aA.rd (i:=107) rfl) .nil))))))))<|.cons rfl rfl (.cons (.v _) (.cons (.v _) (.cons (.v _) (.cons (.v _) (.cons (.v _) (.cons (.v _) (.cons (.v _) (.cons (aA.rd (i:=108) rfl) .nil)))))))) .nil) U42 An rfl rfl rfl rfl rfl fun gl Y gm U b8 =>?_
 refine⟨b8.to qt,?_⟩
 refine goA bM [12] 1 12287 16383 U (b8.to qt) (.len rfl U42 .nil) fun Y U =>?_
 refine wad ?_
 have de:=b8.freezeR 109 rfl
 obtain⟨qs,hqs⟩:∃ qs:List Pu,qs=[⟨y.vo,(k:Int),(cnt:Int),y.sz,(mk:Int),(tqN y mk:Int),min y.fl (tqN y mk:Int),pwN y fn cnt mk⟩,raw,⟨a0,a1,a2,a3,a4,a5,a6,aV⟩,⟨b0,b1,b2,b3,b4,b5,b6,bV⟩]:=⟨_,rfl⟩
 have hqW:∀ q∈qs,WOk 1000 q.W:=by rw[hqs];exact us4 (hWp.up (by decide)) hWr (hWa.up (by decide)) (hWb.up (by decide))
 have hql:qs.length=4:=by rw[hqs];rfl
 have hEQ:[[.v (.int .i64 y.vo),.v (.int .i64 (k:Int)),.v (.int .i64 (cnt:Int)),.v (.int .i64 y.sz),.v (.int .i64 (mk:Int)),.v (.int .i64 (tqN y mk:Int)),.v (.int .i64 (min y.fl (tqN y mk:Int))),.l 2 ((pwN y fn cnt mk).map wrD)],[.v (.int .i64 raw.vo),.v (.int .i64 raw.ch),.v (.int .i64 raw.cn),.v (.int .i64 raw.sz),.v (.int .i64 raw.fr),.v (.int .i64 raw.to),.v (.int .i64 raw.fl),.l 2 (raw.W.map wrD)],[.v (.int .i64 a0),.v (.int .i64 a1),.v (.int .i64 a2),.v (.int .i64 a3),.v (.int .i64 a4),.v (.int .i64 a5),.v (.int .i64 a6),.l 2 (aV.map wrD)],[.v (.int .i64 b0),.v (.int .i64 b1),.v (.int .i64 b2),.v (.int .i64 b3),.v (.int .i64 b4),.v (.int .i64 b5),.v (.int .i64 b6),.l 2 (bV.map wrD)]]=qs.map puD:=by rw[hqs];rfl
 rw[hEQ] at de
 have hcl:=ut y fn cnt m
 have hHB:HB 900000 (chN y fn cnt m):=xt hF.wr hF.sz.2 (by have:=hF.wl;omega)
 show d6 _ _
 exact dt _ _ ⟨qs,_,_,_,_,_,_,chN y fn cnt m,_,_,_,_,_,hql,hqW,hHB,by rw[hcl],by rw[hcl];omega,U.only [19,79,80,81],by rw[hcl];exact de.ren [(9,109),(24,106),(25,105)] (by decide)⟩
end
section
abbrev pushS:List Shp:=[.i .i64,.i .i64,.i .i64,.i .i64,.i .i64,.i .i64,.i .i64,.l [.i .i64,.l [.i .i64,.ns .u8]]]
theorem zt:Fits Tryz.prog 78 [.i .i64,.ns .u8]:=.mk (sss:=[[.i .i64],[.ns .u8]]) U78 (by kernel_rfl) rfl (.cons rfl (by kernel_rfl) (.int U3) (.cons rfl (by kernel_rfl) (.nums U22 U5 (by kernel_rfl) (by kernel_rfl)) (.nil _)))
theorem zu:Fits Tryz.prog 30 [.i .i64,.l [.i .i64,.ns .u8]]:=.mk (sss:=[[.i .i64],[.l [.i .i64,.ns .u8]]]) U30 (by kernel_rfl) rfl (.cons rfl (by kernel_rfl) (.int U2) (.cons rfl (by kernel_rfl) (.rows U28 zt (by kernel_rfl) (by decide) (by kernel_rfl)) (.nil _)))
theorem fitsPush:Fits Tryz.prog 25 pushS:=.mk (sss:=[[.i .i64],[.i .i64],[.i .i64],[.i .i64],[.i .i64],[.i .i64],[.i .i64],[.l [.i .i64,.l [.i .i64,.ns .u8]]]]) U25 (by kernel_rfl) rfl (.cons rfl (by kernel_rfl) (.int U3) (.cons rfl (by kernel_rfl) (.int U3) (.cons rfl (by kernel_rfl) (.int U3) (.cons rfl (by kernel_rfl) (.int U3) (.cons rfl (by kernel_rfl) (.int U2) (.cons rfl (by kernel_rfl) (.int U2) (.cons rfl (by kernel_rfl) (.int U2) (.cons rfl (by kernel_rfl) (.rows U23 zu (by kernel_rfl) (by decide) (by kernel_rfl)) (.nil _)))))))))
theorem vP{r:List D}(h:DOkL [.i .i64,.ns .u8] r):∃ x:Int×List Int,r=itD x∧lg x.2:=by
 obtain⟨_,_,rfl,h0,h⟩:=h.cons_out
 obtain⟨_,_,rfl,h1,h⟩:=h.cons_out
 obtain rfl:=h.nil_out
 obtain⟨z0,rfl,-⟩:=h0.i_out
 obtain⟨zs,rfl,hl,hz⟩:=h1.ns_out
 exact⟨(z0,zs),rfl,fun z hz9=>bounds_u8 (hz z hz9)⟩
theorem wr_formB{r:List D}(h:DOkL [.i .i64,.l [.i .i64,.ns .u8]] r):∃ x:Int×List (Int×List Int),r=wrD x∧(x.2.length≤140737488351232∧∀ e∈x.2,lg e.2):=by
 obtain⟨_,_,rfl,h0,h⟩:=h.cons_out
 obtain⟨_,_,rfl,h1,h⟩:=h.cons_out
 obtain rfl:=h.nil_out
 obtain⟨z0,rfl,-⟩:=h0.i_out
 obtain⟨rows,rfl,hl,hr⟩:=h1.l_out
 obtain⟨its,rfl,hits⟩:=rows_map (fun r hr'=>vP (hr r hr'))
 exact⟨(z0,its),rfl,by rw[List.length_map] at hl;unfold reachBytes at hl;exact hl,hits⟩
theorem openPu{S:Nat→Prop}{w:World}{vs:List Value}{ds:List D}(h:RdL S w vs ds)(q:DOkL [.i .i64,.i .i64,.i .i64,.i .i64,.i .i64,.i .i64,.i .i64,.l [.i .i64,.l [.i .i64,.ns .u8]]] ds):∃ (x0:Int) (x1:Int) (x2:Int) (x3:Int) (x4:Int) (x5:Int) (x6:Int) (x7:List (List D)) (p7:Option Addr) (c7:Nat),vs=[.int .i64 x0,.int .i64 x1,.int .i64 x2,.int .i64 x3,.int .i64 x4,.int .i64 x5,.int .i64 x6,.slice p7 x7.length c7]∧(Lit.int .i64 x0).wf=true∧(Lit.int .i64 x1).wf=true∧(Lit.int .i64 x2).wf=true∧(Lit.int .i64 x3).wf=true∧(Lit.int .i64 x4).wf=true∧(Lit.int .i64 x5).wf=true∧(Lit.int .i64 x6).wf=true∧Rd S w (.slice p7 x7.length c7) (.l ([.i .i64,.l [.i .i64,.ns .u8]]:List Shp).length x7)∧x7.length≤reachBytes∧(∀ r∈x7,DOkL [.i .i64,.l [.i .i64,.ns .u8]] r):=by
 obtain⟨d0,r0,rfl,e0,q0⟩:=q.cons_out
 obtain⟨v0,vs0,rfl,h0,hh0⟩:=h.cons_inv
 obtain⟨x0,rfl,f0⟩:=e0.i_out;obtain rfl:=h0.v_out
 obtain⟨d1,r1,rfl,e1,q1⟩:=q0.cons_out
 obtain⟨v1,vs1,rfl,h1,hh1⟩:=hh0.cons_inv
 obtain⟨x1,rfl,f1⟩:=e1.i_out;obtain rfl:=h1.v_out
 obtain⟨d2,r2,rfl,e2,q2⟩:=q1.cons_out
 obtain⟨v2,vs2,rfl,h2,hh2⟩:=hh1.cons_inv
 obtain⟨x2,rfl,f2⟩:=e2.i_out;obtain rfl:=h2.v_out
 obtain⟨d3,r3,rfl,e3,q3⟩:=q2.cons_out
 obtain⟨v3,vs3,rfl,h3,hh3⟩:=hh2.cons_inv
 obtain⟨x3,rfl,f3⟩:=e3.i_out;obtain rfl:=h3.v_out
 obtain⟨d4,r4,rfl,e4,q4⟩:=q3.cons_out
 obtain⟨v4,vs4,rfl,h4,hh4⟩:=hh3.cons_inv
 obtain⟨x4,rfl,f4⟩:=e4.i_out;obtain rfl:=h4.v_out
 obtain⟨d5,r5,rfl,e5,q5⟩:=q4.cons_out
 obtain⟨v5,vs5,rfl,h5,hh5⟩:=hh4.cons_inv
 obtain⟨x5,rfl,f5⟩:=e5.i_out;obtain rfl:=h5.v_out
 obtain⟨d6,r6,rfl,e6,q6⟩:=q5.cons_out
 obtain⟨v6,vs6,rfl,h6,hh6⟩:=hh5.cons_inv
 obtain⟨x6,rfl,f6⟩:=e6.i_out;obtain rfl:=h6.v_out
 obtain⟨d7,r7,rfl,e7,q7⟩:=q6.cons_out
 obtain⟨v7,vs7,rfl,h7,hh7⟩:=hh6.cons_inv
 obtain⟨x7,rfl,f7,g7⟩:=e7.l_out;obtain⟨p7,c7,rfl,k7⟩:=h7.l_shape
 obtain rfl:=q7.nil_out
 obtain rfl:=hh7.nil_inv
 exact⟨x0,x1,x2,x3,x4,x5,x6,x7,p7,c7,rfl,f0,f1,f2,f3,f4,f5,f6,h7,f7,g7⟩
end
end Go.Proofs.YteglmahnkfgelaaGreat.K
